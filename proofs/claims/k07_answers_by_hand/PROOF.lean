import PyProof.Rows.All
import Wide.All
import OpenK.AllK
import Wide.FinOn
import Lean
import PyProof.EqAt
import PyProof.EqKinds
import PyProof.TupleCall
import PySem.Challenge.RW_apartrow_k07_answers_by_hand
set_option Elab.async false
set_option linter.all false
set_option maxRecDepth 100000
open PySem renaming Addr→aa,Value→ao,Shared→aB,wpAny_bind→aF,wpAny→aK,model→aN,sizeLine→aX,Expr→aZ,mainGlobals→bx,FuncData→bE,wpAny_pure→bJ,Heap→bL,World→cj,Program→cH,Around→cS,boot_len→dh,starEach→dR,Scope→iI,wpAny_mono→iP,Stmt→iT,sliceBounds→jj,backTo→jJ,compareOp→jK,wpAny_holding→jS,codeAny→mX,cLine→nU,NameKind→oU,bindArgs→oX,pyNext→qB,wpAny_field→qX,wpAny_rule→qY,wpAny_truthy_bool→qZ,sizeLine_eq→tK,sysModules→tM,mem_of_lookup→uD,assign→uI,backToKw→uJ,builtinsNs→uK,keywordEach→ve,assignEach→xP,atKey→xQ,bootBuiltins→xT,IsPair→zg,Result→zC,binaryOp→zF,bindC→zG,bindL→zI,getItem→zS,wpAny_Call_Name_kw→AH,wpAny_call_entry→AI,CmpOp→AM,Keyword→AZ,ZipApart→Bf,argBest→Bg,callerA→Bj,holding→BL,rawInt→Cz,relabel→CA,valueAt→CO,wpAny_letGo→CS,wpAny_passesOwn→CT,wpAny_standAt→CU,wpAny_updateSeq→CV,BindsTo→CY,PyData→Du,call_meets→DV,codeAmong→DY,evalPart_none→D4,evalPart_some→D5,notedBy→FU,plainId_quiet→Gd,standAt→Hy,tupleKind→HG,updateSeq→HK,wpAny_seqItems→HQ,Arguments→HR,attributeBase→IV,codeAny_builtin→Jc,setItem→MS,swapsWith→M5,wpAny_Slice→Nl,wpAny_newList→Nm,wpAny_tryCatch→Nn,wpAny_typeOf→No,Fin→Op,bindName→Pc,call_meetsIn→QD,codeAny_mono→RY,getMethod→UW,letOwnedTupleGo→YW,sliceRange→aau,slot_list_getitem→aav,subscripted→aaD,tupleKind_room_in1→aaL,typeLookup→aaN,wpAny_attempt→aaV,wpAny_call→aaW,wpAny_callSpecial?_slot→aaX,wpAny_execs_nil→aaY,wpAny_newObj_type→aaZ,wpAny_specialOf→aa0,Within→acB,call→acC,assignInOrder→adJ,recursionLimit→aku,swappedStores→ak0,swapsWithSole→ak4,wpAny_eqBool_int→alx,wpAny_getItem_list_slice→aly,wpAny_listPart→alz,wpAny_newTuple→alA,wpAny_nextOf_list_item→alB,wpAny_pyIter_zip→alC,wpAny_comprehension_free→aza
open List renaming length_map→aC,range→bT,length_append→bW,getElem?_eq_getElem→bZ,size_toArray→cV,getElem?_map→dG,map_cons→dM,mem_cons→dY,mem_of_getElem?→eB,getD_eq_getElem?_getD→eX,replicate→fj,map_append→fD,append_assoc→fZ,mem_singleton→gb,length_cons→gF,getElem?_eq_some_iff→iw,mem_range→iG,mem_cons_of_mem→iS,length_take→jr,flatten_cons→jG,length_drop→jV,take_add_one→jW,all_eq_true→kD,map_map→lE,perm_append_comm→lF,mem_append→lQ,mem_cons_self→lR,take_length→mS,filterMap_cons→nK,getElem?_append_left→nM,getElem?_append_right→nN,nodup_cons→nO,mem_map→oO,take_append_drop→oR,count_eq_zero_of_not_mem→pW,find?_cons→rG,length_replicate→rH,replicate_succ→rJ,length_range→um,length_set→uo,mem_append_right→uq,flatten_append→xB,getElem?_eq_none→xC,map_congr_left→xD,range_succ→xE,count_append→zj,lookup→zl,not_mem_nil→zm,sum_cons→zo,take_of_length_le→zp,any_cons→A0,any_eq_true→A1,count_le_length→A2,count_pos_iff→A3,foldl→A4,getElem_mem→A5,extract_eq_take_drop→Dj,filterMap_append→Dk,mem_filter→Dl,nodup_nil→Dm,all_cons→Ir,append_nil→Iu,eraseIdx_cons_succ→Iv,ext_getElem?→Iw,filter_cons→Iz,getElem_of_mem→IA,length_filter_le→IB,lookup_cons→IC,nodup_append→ID,count_cons→NW,eq_of_mem_replicate→NX,filterMap→NY,getElem?_drop→NZ,getElem?_range→N1,getElem?_zip_eq_some→N2,length→N3,map_nil→N4,map_replicate→N5,mem_iff_getElem?→N6,pairwise_cons→N7,perm_middle→N8,toArray→N9,any_map→abH,cons_ne_nil→abI,forIn_cons→abJ,getElem?_set_ne→abK,getElem?_set_self→abL,getElem_inj→abM,length_eq_zero_iff→abN,length_filterMap_le→abO,length_pos_of_mem→abP,length_singleton→abQ,length_zip→abR,map_id'→abS,map_take→abT,mem_append_left→abU,mem_filterMap→abV,mem_of_mem_eraseIdx→abW,of_mem_zip→abX,pairwise_append→abY,perm_iff_count→abZ,reverse_perm→ab0,take_sublist→ab1,append_of_mem→amv,count_eq_length→amw,dropLast_cons_of_ne_nil→amx,drop_of_length_le→amy,eq_nil_of_length_eq_zero→amz,eraseIdxIfInBounds_toArray→amA,filter_append→amB,filter_eq_nil_iff→amC,filter_eq_self→amD,getElem?_eq_none_iff→amE,getElem?_replicate→amF,getElem?_take→amG,getElem_range→amH,length_dropLast→amI,length_eraseIdx→amJ,length_pos_iff→amK,length_reverse→amL,mem_of_mem_drop→amM,mem_or_eq_of_mem_set→amN,nodup_iff_count→amO,take_succ_cons→amP
open PySem.W renaming fnOf→aQ,kitOne→bz,Frag→bG,nsIn→bN,keepIn→bO,codeIn→bX,mg_of→cz,findIn→dN,isFn→lH,mg_none_of→lT,kia_one→rM,tabObj→tV,plainGet→uC,emptyDict→xJ,hasDictIn→xK,instObj→zx,makesIn→zy,mroIn→zA,plainOver→zB,kas_rev→LL,kla_obj→LN,envX→Oq,lookIn→Ot,kas_tail3→Xu,OpenLaw→acs,callWith_K→acu,methodObj→acv,plainGet_of→acw,specialIn→acy,takerIn→acz,takesIn→acA,cellsFrom_some→am3,handedIn→am4,kitx_dict→am5,kitx_list→am6,methodCall_KW→am7
open Or renaming inl→aT,inr→eF
open PyProof.Rows renaming wpS_bind→aW,wpS_pure→bF,SortSt→cB,Keyed→cL,pendingOf→dF,seqObj→dZ,boot_list→iJ,step_dedup→ku,wpS_forRange→kB,wpS_mono→lA,arrOf→lV,IntsAre→nJ,boot_sorted→oY,wpS_get→rm,wpS_modify→rA,envOfC→uO,AllBare→xm,failedOf→zP,listUpdate_at→Aj,wpS_lift→AJ,callWith_type1→A7,boot_all→Bh,listItems_at→Cd,Subscript_→DB,oneType'→Ga,subscriptTail→HB,boot_tuple→Pd,get?_update_seq→UV,seqEpoch_at→aar,size_push'→aat,slot_tuple_getitem→acj,assignInOrder_cons→adK,entry_list_sort→agm,slot_list_sort→akM,callWith_kw→amV
open Nat renaming le_refl→br,ne_of_lt→dw,zero_le→fz,le_trans→fP,lt_of_lt_of_le→gq,ne_of_gt→kE,le_of_lt→lG,lt_irrefl→mT,mul_succ→oV,le_succ→uw,mul_le_mul_left→xG,le_add_right→Dq,lt_or_ge→IG,lt_succ_self→II,lt_trans→IJ,succ_mul→IK,add_comm→Ob,div_eq_of_lt→Oc,le_of_eq→Od,le_of_not_lt→Oe,lt_of_le_of_lt→Of,lt_trichotomy→Og,min_eq_left→Oh,add_zero→ab3,le_mul_of_pos_right→ab4,lt_succ_of_lt→ab5,mul_add→ab6,mul_zero→ab7,not_lt_zero→ab8,zero_add→ab9,mod_two_eq_zero_or_one→amQ
open PySem.Heap renaming lt_size→bV,get?_push_of_some→cM,get?_push_size→gn,get?_update_other→pU,get?_update_self→AU,size_push→C8,SameBut→Il,size_update→NR
open PySem.Value renaming ref→cI,none→lU,bool→uF,int→uG,type→Be,str→IT,float→acE
open Sum renaming inl→cN,inr→Bd
open Option.some renaming inj→cY
open Ne renaming symm→dB
open PySem.Obj renaming mapSeq→eE
open Bool renaming false_ne_true→gw,true_and→iu,false_and→iQ,false_eq_true→lN,and_eq_true→nI,eq_iff_iff→rB,and_false→HV
open PySem.F renaming plainAttrs_list→gT,slot_list_append→pZ,plainAttrs_dict→uB,slot_list_extend→zw,plain_max_loop→A8,slot_dict_items→A9,type_dict_items→Dy,slot_zip_next→IQ,plain_extend_loop→Om,slot_dict_values→Oo,entry_max_loop→ack,slot_dict_get→acm,slot_list_count→acn,slot_list_pop→aco,type_dict_values→acp,type_list_count→acq,type_list_pop→acr,args_dict_get_3→amW,args_zip_next_1→amX,entry_dict_get→amY,entry_extend_loop→amZ,entry_zip_next→am0,slot_zip_iter→am1
open PySem.PassesOwn renaming never→iy
open PySem.PyData renaming int→iH,eqv→jI,canLayAll0→uz,depthAll→uA,canLay0→Dv,depth→Dw,eqvAll→IP,list→Ol
open False renaming elim→jT
open Array renaming length_toList→lM,toList_append→pR,toList_push→xq,size_extract→yY,perm_iff_toList_perm→CW,toList_extract→HU,forIn_toList→Np,getElem?_toList→Nq,size_append→abp,toList_reverse→abq,getD_eq_getD_getElem?→alE,toList_modify→alF
open Int renaming le_refl→mR,toNat_of_nonneg→C9,emod_lt_of_pos→Im,emod_nonneg→Io,toNat_natCast→Ip,mul_le_mul_of_nonneg_left→abD
open And renaming intro→nH
open PySem.NameKind renaming free→pY,cell→ab2
open PySem.Str renaming ofString→rN,empty→Bc
open True renaming intro→rO
open Option renaming getD_some→ux,isSome_some→IL,map_some→Oi,isSome_iff_exists→acd,map→ace,getD_none→amR,isSome_map→amS,some_ne_none→amT
open PySem.SeqAt renaming shaped→xH,EqAt→acD
open List.Perm renaming append_left→zh,append_right→Iq,of_eq→NV,trans→abG,append→amu
open PySem.Builtin.List renaming listTooLong→AL,listExtendWith→CZ,listSameRef→abr,listItems→alH,listSubscript?→alI
open ForInStep renaming yield→AN,done→alO
open PySem.Data renaming cell→C1,fields→HW
open PySem.Around renaming under_plainId→HS,under→abo,frames_deeper→alD
open PySem.Heap.IsSliceOf renaming new→Ik
open PySem.Builtin.SmallTypes renaming nextOf→Nr,ownedTupleIsFree→Nt
open PySem.Calls renaming spliced_cons→Nv,callWith_builtin→abv,spliced_nil→abw,Name_function_global→alL,call_function_entry→alM,evalArgs_plain→alN
open Sum.inl renaming inj→Ow
open PySem.Builtin.Slice renaming slicePlaces→abt,sliceAdjust→alJ
open PySem.Code renaming isFrame→abx
open PySem.Heap.SameBut renaming update→abC
open PySem.IsPart renaming int→abE
open List.Pairwise renaming imp_of_mem→abF,nil→amt
open PySem.Paired renaming length→aci
open PySem.Builtin.Builtins renaming bindParams→alG
open PySem.IsL renaming isList→am2
open PySem.SeqAt.EqAt renaming int_int→am9,int_str→ana,str_int→anb
open PySem.StrLaws renaming seqIndex_nonneg→ane
namespace L2
open PySem PySem.Spec PyProof.Rows
noncomputable abbrev Key:=Sum Int Str
noncomputable def BY:Key->ao->Bool
 | .inl k,v=>Value.isInt k v
 | .inr x,v=>Value.isStrOf x v
noncomputable def aqd(w:cj):Key->Int
 | .inl k=>hashInt k
 | .inr x=>hashStr w x
theorem sF:∀ {k:Key} {v:ao},BY k v=true->(∃i t,k=cN i/\v=uG i t)\/(∃x t,k=Bd x/\v=IT x t)
 | .inl i,v,h=>by
  obtain⟨t,e⟩:=Value.isInt_shape (k:=i) (v:=v) h
  exact .inl ⟨i,t,rfl,e⟩
 | .inr x,v,h=>by
  obtain⟨t,e⟩:=Value.isStrOf_shape (x:=x) (v:=v) h
  exact .inr ⟨x,t,rfl,e⟩
theorem aqe(i:Int)(t:Tok):BY (.inl i) (.int i t)=true:=by simp[BY,Value.isInt]
theorem aqf(x:Str)(t:Tok):BY (.inr x) (.str x t)=true:=by simp[BY,Value.isStrOf]
theorem aqg(a b:Int):decide ((cN a:Key)=cN b)=(a == b):=by
 by_cases e:a=b
 ·subst e;simp
 ·have h:¬(cN a:Key)=cN b:=fun q=>e (Ow q)
  rw[decide_eq_false h]
  exact(beq_eq_false_iff_ne.mpr e).symm
theorem aqj(a b:Str):decide ((Bd a:Key)=Bd b)=decide (a=b):=by
 by_cases e:a=b
 ·subst e;simp
 ·have h:¬(Bd a:Key)=Bd b:=fun q=>e (Sum.inr.inj q)
  rw[decide_eq_false h,decide_eq_false e]
theorem aqh(a:Int)(b:Str):decide ((cN a:Key)=Bd b)=false:=decide_eq_false (fun q=>nomatch q)
theorem aqi(a:Str)(b:Int):decide ((Bd a:Key)=cN b)=false:=decide_eq_false (fun q=>nomatch q)
noncomputable def iE(prog:cH)(w:cj):PySem.KeyKind prog w Key where
 is:=BY
 hash:=aqd w
 inj:=fun v a b ha hb=>by
  rcases sF ha with⟨i,t,rfl,rfl⟩ | ⟨x,t,rfl,rfl⟩
  ·rcases sF hb with⟨j,u,rfl,e⟩ | ⟨y,u,rfl,e⟩
   ·injection e with e1 _;rw[e1]
   ·exact nomatch e
  ·rcases sF hb with⟨j,u,rfl,e⟩ | ⟨y,u,rfl,e⟩
   ·exact nomatch e
   ·injection e with e1 _;rw[e1]
 byValue:=fun k v h=>by
  rcases sF h with⟨i,t,rfl,rfl⟩ | ⟨x,t,rfl,rfl⟩<;>rfl
 pyHash:=fun hv h=>by
  rcases sF hv with⟨i,t,rfl,rfl⟩ | ⟨x,t,rfl,rfl⟩
  ·exact wpAny_pyHash_int h
  ·exact wpAny_pyHash_str h
 eqBool:=fun hu hv h=>by
  rcases sF hu with⟨i,t,rfl,rfl⟩ | ⟨x,t,rfl,rfl⟩
  ·rcases sF hv with⟨j,u,rfl,rfl⟩ | ⟨y,u,rfl,rfl⟩
   ·rw[aqg]at h;exact alx h
   ·rw[aqh]at h;exact ana i t y u _ _ _ _ h
  ·rcases sF hv with⟨j,u,rfl,rfl⟩ | ⟨y,u,rfl,rfl⟩
   ·rw[aqi]at h;exact anb x t j u _ _ _ _ h
   ·rw[aqj]at h;exact wpAny_eqBool_str h
 «strs»:=fun k x t v h=>by
  rcases sF h with⟨i,u,rfl,e⟩ | ⟨y,u,rfl,e⟩
  ·exact nomatch e
  ·injection e with e1 _
   subst e1
   cases v<;>rfl
theorem aqQ(prog:cH)(w:cj)(i:Int)(t:Tok):(iE prog w).is (.inl i) (.int i t)=true:=aqe i t
theorem aqR(prog:cH)(w:cj)(x:Str)(t:Tok):(iE prog w).is (.inr x) (.str x t)=true:=aqf x t
inductive V where
 |cF | bl (b:Bool) | int (i:Int) | str (x:Str) | oZ (b:Array UInt8) | flt (b:UInt64) | ref (a:aa) | ty (n:String)
 deriving DecidableEq
noncomputable def RelV:V->ao->Prop
 | .cF,u=>u=lU
 | .bl b,u=>u=uF b
 | .int i,u=>∃t,u=uG i t
 | .str x,u=>∃t,u=IT x t
 | .oZ b,u=>∃t,u=Value.bytes b t
 | .flt b,u=>∃t,u=acE b t
 | .ref a,u=>u=cI a
 | .ty n,u=>u=Be n
noncomputable abbrev bu:List V->List ao->Prop:=Paired RelV
theorem bu.length{xs:List V}{us:List ao}(r:bu xs us):xs.length=us.length:=aci r
theorem bu.get:∀ {xs:List V} {us:List ao} {i:Nat} {x:V},bu xs us->xs[i]?=some x->∃u,us[i]?=some u/\RelV x u
 |_,_,_,_,.nil,e=>by simp at e
 |_,_,0,_,.cons r _,e=>by simp at e;subst e;exact⟨_,rfl,r⟩
 |_,_,i+1,x,.cons _ t,e=>by
  obtain⟨u,h1,h2⟩:=bu.get (i:=i) (x:=x) t (by simpa using e)
  exact⟨u,by simpa using h1,h2⟩
theorem bu.set{x:V}{u:ao}(r:RelV x u):∀ {xs:List V} {us:List ao} (i:Nat),bu xs us->bu (xs.set i x) (us.set i u)
 |_,_,_,.nil=>.nil
 |_,_,0,.cons _ t=>.cons r t
 |_,_,i+1,.cons q t=>.cons q (bu.set r i t)
theorem bu.append:∀ {xs ys:List V} {us ws:List ao},bu xs us->bu ys ws->bu (xs++ys) (us++ws)
 |_,_,_,_,.nil,s=>s
 |_,_,_,_,.cons r t,s=>.cons r (bu.append t s)
theorem bu.take:∀ {xs:List V} {us:List ao} (n:Nat),bu xs us->bu (xs.take n) (us.take n)
 |_,_,0,_=>.nil
 |_,_,_+1,.nil=>.nil
 |_,_,n+1,.cons r t=>.cons r (bu.take n t)
theorem bu.drop:∀ {xs:List V} {us:List ao} (n:Nat),bu xs us->bu (xs.drop n) (us.drop n)
 |_,_,0,r=>r
 |_,_,_+1,.nil=>.nil
 |_,_,n+1,.cons _ t=>bu.drop n t
theorem bu.none_of:∀ {xs:List V} {us:List ao} {i:Nat},bu xs us->xs[i]?=none->us[i]?=none:=fun {xs us i} r e=>by
 have h1:=r.length
 have h2:xs.length<=i:=amE.mp e
 exact amE.mpr (by omega)
noncomputable def jX:Option V->Option ao->Prop
 |some v,some u=>RelV v u
 |none,none=>True
 |_,_=>False
noncomputable def KV{κ:Type}:List (κ×V)->List (κ×ao)->Prop:=Paired fun(p:κ×V) (q:κ×ao)=>p.1=q.1/\RelV p.2 q.2
noncomputable def kV:Key->V
 | .inl i=>.int i
 | .inr x=>.str x
inductive HO where
 /-- a list -/
 |lst (xs:List V)
 /-- a tuple (never changes) -/
 |tup (xs:List V)
 /-- a dict whose aqk are ints and texts;one whose aqk are tuples of ints and texts (the empty one is both) -/
 |dK (kvs:List (Key×V)) | dT (kvs:List (List Key×V))
 /-- a set of ints: its members,its size -/
 |set (S:Int->Bool) (n:Nat)
 /-- an instance of the class at C,its dict at dx,its attributes -/
 |ins (C dx:aa) (fs:List (Str×V))
 /-- the dict of the instance at x -/
 |own (x:aa)
 /-- the dict of an exception -/
 |xd (fs:List (Str×V))
 /-- a bound method,f of x -/
 |met (f x:aa)
 /-- a range object lo,lo+1,.. below hi -/
 |ME (lo hi:Int)
 /-- a thing that is known to the object (the script;a dict while a LZ walks it): read,never written while it is so -/
 |cC (o:Obj) (u:HO)
 /-- a code object's table -/
 |yS (ps:Array ao)
 |dU (q:Str) (pos:Pos)
 /-- any other thing,by yX is true of its one object (a def of one's own: SetO a S n:=HO.ext fun h=>..) -/
 |ext (φ:bL->Prop)
noncomputable abbrev Hp:=aa->Option HO
noncomputable def upd(H:Hp)(a:aa)(o:HO):Hp:=fun b=>if b=a then some o else H b
theorem au{H:Hp}{a:aa}{o:HO}:upd H a o a=some o:=by unfold upd;rw[if_pos rfl]
theorem aA{H:Hp}{a b:aa}{o:HO}(h:b≠a):upd H a o b=H b:=by unfold upd;rw[if_neg h]
theorem kh{H:Hp}{a b:aa}{o u:HO}(h:H a=some o)(h':H b=some u)(d:o≠u):a≠b:=by
 intro e;subst e;rw[h]at h';exact d (cY h')
theorem bf{H:Hp}{a b:aa}{o:HO}(h:H a=some o)(h':H b=none):a≠b:=by
 intro e;subst e;rw[h]at h';cases h'
section
variable(P:cH)(w:cj)
noncomputable def cD(H:Hp)(h:bL)(a:aa):HO->Prop
 | .lst xs=>xs.length<=aX/\∃(its:List ao) (n:Nat),bu xs its/\h.get? a=some {cls:=.type "list",data:=.seq its.toArray n}
 | .tup xs=>xs.length<=aX/\∃its:List ao,bu xs its/\IsTup h a its.toArray
 | .dK kvs=>kvs.length<=aX/\(a == tM)=false/\∃vs,KV kvs vs/\h.DictOf (iE P w) a vs
 | .dT kvs=>kvs.length<=aX/\(a == tM)=false/\∃xs:List (List Key×aa×ao),
   Paired (fun(p:List Key×V) (q:List Key×aa×ao)=>p.1=q.1/\H q.2.1=some (.tup (p.1.map kV))/\RelV p.2 q.2.2) kvs xs/\
   ∃o es ep,h.get? a=some o/\o.ExactDict/\o.data=.dict es ep/\es.toList=xs.map (entryOfKey (HG (iE P w)))/\(xs.map (·.1)).Nodup
 | .set S n=>h.SetOf (intKind P w) a S n
 | .ins C dx fs=>H dx=some (.own a)/\fs.length<=1000/\dx≠a/\h.get? a=some (zx C dx)/\
   ∃mA,h.Ns1 dx mA/\(∀f,jX (fs.lookup f) (mA f))/\acB mA (fs.map (·.1))
 | .own _=>∃o,h.get? a=some o
 | .xd fs=>∃mA,h.Ns1 a mA/\∀f,jX (fs.lookup f) (mA f)
 | .ME lo hi=>∃t u v,h.get? a=some {cls:=.type "range",data:=.fields #[.int lo t,.int hi u,.int 1 v]}
 | .cC o u=>h.get? a=some o/\cD H h a u
 | .yS ps=>h.get? a=some {cls:=.none,data:=.fields ps}
 | .dU q pos=>∃ps:Array ao,h.get? a=some {cls:=.none,data:=.fields ps}/\TriplesOk ps.toList/\∀cv,DY pos ps.toList=some cv->∃c,cv=.ref c/\H c=some (.own a)/\c≠a/\h.CodeRec (.ref c) q
 | .met f x=>h.get? a=some (acv (.ref f) (.ref x))
 | .ext φ=>φ h/\(∃o,h.get? a=some o)/\∀h1 h2:bL,φ h1->(∀o,h1.get? a=some o->h2.get? a=some o)->φ h2
noncomputable def eW(H:Hp)(h:bL):Prop:=∀a o,H a=some o->cD P w H h a o
end
section
variable{P:cH}{w:cj}{H H':Hp}{h h':bL}{a:aa}{o:HO}
theorem cD.lt(x:cD P w H h a o):a<h.objs.size:=by
 cases o with
 |lst xs=>obtain⟨_,_,_,_,e⟩:=x;exact bV e
 |tup xs=>obtain⟨_,_,_,p⟩:=x;exact p.lt
 |dK kvs=>obtain⟨_,_,_,_,o,_,_,e,_⟩:=x;exact bV e
 |dT kvs=>obtain⟨_,_,_,_,o,_,_,e,_⟩:=x;exact bV e
 |set S n=>obtain⟨o,_,_,_,e,_⟩:=x;exact bV e
 |ins C dx fs=>obtain⟨_,_,_,e,_⟩:=x;exact bV e
 |own y=>obtain⟨_,e⟩:=x;exact bV e
 |xd fs=>obtain⟨_,⟨_,_,_,e,_⟩,_⟩:=x;exact bV e
 |ME lo hi=>obtain⟨_,_,_,e⟩:=x;exact bV e
 |cC ob u=>obtain⟨e,_⟩:=x;exact bV e
 |yS ps=>exact bV (show h.get? a=some _ from x)
 |dU q pos=>obtain⟨_,e,_⟩:=x;exact bV e
 |met f y=>exact bV (show h.get? a=some _ from x)
 |ext φ=>obtain⟨_,⟨_,e⟩,_⟩:=x;exact bV e
theorem Paired.Y5{α β:Type}{F G:α->β->Prop}:∀ {l₁:List α} {l₂:List β},Paired F l₁ l₂->(∀a b,F a b->G a b)->Paired G l₁ l₂
 |_,_,.nil,_=>.nil
 |_,_,.cons r t,f=>.cons (f _ _ r) (Paired.Y5 t f)
theorem cD.stay(x:cD P w H h a o)(k:∀b u,(b=a\/H b=some (.own a))->h.get? b=some u->h'.get? b=some u)
  (ho:∀b,H b=some (.own a)->H' b=some (.own a)) (ht:∀b xs,H b=some (.tup xs)->H' b=some (.tup xs)):cD P w H' h' a o:=by
 induction o with
 |lst xs=>obtain⟨z,its,n,r,e⟩:=x;exact⟨z,its,n,r,k _ _ (.inl rfl) e⟩
 |tup xs=>obtain⟨z,its,r,ob,e,c⟩:=x;exact⟨z,its,r,ob,k _ _ (.inl rfl) e,c⟩
 |dK kvs=>obtain⟨z,y,vs,r,ob,es,ep,e,c⟩:=x;exact⟨z,y,vs,r,ob,es,ep,k _ _ (.inl rfl) e,c⟩
 |dT kvs=>
  obtain⟨z,y,xs,r,ob,es,ep,e,c⟩:=x
  exact⟨z,y,xs,Paired.Y5 r fun p q z=>⟨z.1,ht _ _ z.2.1,z.2.2⟩,ob,es,ep,k _ _ (.inl rfl) e,c⟩
 |set S n=>obtain⟨ob,es,ep,t,e,c⟩:=x;exact⟨ob,es,ep,t,k _ _ (.inl rfl) e,c⟩
 |ins C dx fs=>
  obtain⟨d,z,ne,e,mA,⟨od,es,ep,e2,c⟩,r⟩:=x
  exact⟨ho _ d,z,ne,k _ _ (.inl rfl) e,mA,⟨od,es,ep,k _ _ (.inr d) e2,c⟩,r⟩
 |own y=>obtain⟨ob,e⟩:=x;exact⟨ob,k _ _ (.inl rfl) e⟩
 |xd fs=>obtain⟨mA,⟨od,es,ep,e,c⟩,r⟩:=x;exact⟨mA,⟨od,es,ep,k _ _ (.inl rfl) e,c⟩,r⟩
 |ME lo hi=>obtain⟨t,u,v,e⟩:=x;exact⟨t,u,v,k _ _ (.inl rfl) e⟩
 |cC ob u ih=>obtain⟨e,q⟩:=x;exact⟨k _ _ (.inl rfl) e,ih q⟩
 |dU q pos=>
  obtain⟨ps,e,tr,k1⟩:=x
  refine⟨ps,k _ _ (.inl rfl) e,tr,fun cv BB=>?_⟩
  obtain⟨c,e0,o1,ne,c2,oc,vs,tq,e1,e2,r⟩:=k1 cv BB
  subst e0
  cases e1
  exact⟨_,rfl,ho _ o1,ne,_,oc,vs,tq,rfl,k _ _ (.inr o1) e2,r⟩
 |yS ps=>
  have e:h.get? a=some {cls:=.none,data:=.fields ps}:=x
  show h'.get? a=some {cls:=.none,data:=.fields ps}
  exact k a _ (.inl rfl) e
 |met f y=>
  have e:h.get? a=some (acv (.ref f) (.ref y)):=x
  show h'.get? a=some (acv (.ref f) (.ref y))
  exact k a _ (.inl rfl) e
 |ext φ=>obtain⟨p,⟨o,e⟩,st⟩:=x;exact⟨st _ _ p fun o q=>k _ _ (.inl rfl) q,⟨o,k _ _ (.inl rfl) e⟩,st⟩
theorem eW.lt(x:eW P w H h)(e:H a=some o):a<h.objs.size:=(x a o e).lt
theorem eW.fresh(x:eW P w H h)(e:h.objs.size<=a):H a=none:=by
 cases q:H a with
 |none=>rfl
 |some u=>exact absurd (gq (x.lt q) e) (mT _)
theorem eW.kept(x:eW P w H h)(k:∀b u,h.get? b=some u->h'.get? b=some u):eW P w H h':=fun a o e=>
 (x a o e).stay (fun b u _ q=>k b u q) (fun _ q=>q) fun _ _ q=>q
theorem eW.laid(x:eW P w H h)(k:∀b u,h.get? b=some u->h'.get? b=some u)(hp:h.objs.size<=a)(new:cD P w (upd H a o) h' a o):eW P w (upd H a o) h':=fun b u e=>by
 have hn:=x.fresh hp
 by_cases hb:b=a
 ·subst hb;rw[au]at e;cases e;exact new
 ·rw[aA hb]at e
  exact(x b u e).stay (fun c v _ q=>k c v q) (fun c q=>by rw[aA (bf q hn)];exact q) fun c xs q=>by rw[aA (bf q hn)];exact q
end
noncomputable def Rd(H:Hp)(a:aa)(u:HO):Prop:=H a=some u\/∃o,H a=some (.cC o u)
theorem Rd.ok{P:cH}{w:cj}{H:Hp}{h:bL}{a:aa}{u:HO}(r:Rd H a u)(x:eW P w H h):cD P w H h a u:=by
 rcases r with r | ⟨o,r⟩
 ·exact x a u r
 ·obtain⟨_,q⟩:=x a _ r
  exact q
noncomputable def Dp:Option HO->Prop
 |some (.lst _)=>True
 |some (.dK _)=>True
 |some (.dT _)=>True
 |some (.set _ _)=>True
 |some (.ins _ _ _)=>True
 |some (.ext _)=>True
 |some (.dU _ _)=>True
 |_=>False
section
variable{P:cH}{w:cj}{H:Hp}{h h':bL}{x e:aa}{o':HO}
theorem eW.write(ok:eW P w H h)(mu:Dp (H x))(he:e=x\/H e=some (.own x))(k:∀b u,b≠e->h.get? b=some u->h'.get? b=some u)(BD:∃u,h'.get? e=some u)
  (new:cD P w (upd H x o') h' x o'):eW P w (upd H x o') h':=fun b u q=>by
 have aiS:∀c y,H c=some (.own y)->c≠x:=fun c y r z=>by subst z;rw[r]at mu;exact mu
 have aq8:∀c xs,H c=some (.tup xs)->c≠x:=fun c xs r z=>by subst z;rw[r]at mu;exact mu
 by_cases hb:b=x
 ·subst hb;rw[au]at q;cases q;exact new
 ·rw[aA hb]at q
  by_cases zW:b=e
  ·have q':H b=some (.own x):=by
    rcases he with z | z
    ·exact absurd (zW.trans z) hb
    ·rw[zW];exact z
   rw[q]at q';cases q'
   obtain⟨v,hv⟩:=BD
   exact⟨v,by rw[zW];exact hv⟩
  ·refine(ok b u q).stay (fun c v hc r=>k c v ?_ r) (fun c r=>by rw[aA (aiS c b r)];exact r) fun c xs r=>by rw[aA (aq8 c xs r)];exact r
   rcases hc with rfl | hc
   ·exact zW
   ·rintro rfl
    rcases he with z | z
    ·exact aiS c b hc z
    ·rw[hc]at z;cases z;exact hb rfl
end
structure Un(fs ex:List aa)(H H':Hp)(h h':bL):Prop where
 keep:∀b o,h.get? b=some o->H b=none->b∉fs->b∉ex->h'.get? b=some o
 slot:∀b o,h.get? b=some o->H b=none->b∈fs->b∉ex->∃sl,h'.get? b=some {o with slots:=sl}
 free:∀b o,h.get? b=some o->H b=none->b∉ex->H' b=none
 there:∀b o,h.get? b=some o->b∉ex->∃o',h'.get? b=some o'
 tups:∀b xs,H b=some (.tup xs)->H' b=some (.tup xs)
 mY:∀b o u,H b=some (.cC o u)->H' b=some (.cC o u)
 qP:∀b ps,H b=some (.yS ps)->∃more,H' b=some (.yS (ps++more))
section
variable{fs fs' ex ex':List aa}{H H1 H2:Hp}{h h1 h2 h':bL}{a x e:aa}{o:HO}
theorem Un.any(u:Un fs ex H H1 h h1){b:aa}{ob:Obj}(q:h.get? b=some ob)(n:H b=none)(hx:b∉ex):∃sl,h1.get? b=some {ob with slots:=sl}:=by
 by_cases hb:b∈fs
 ·exact u.slot b ob q n hb hx
 ·exact⟨ob.slots,u.keep b ob q n hb hx⟩
theorem Un.kept(k:∀b u,h.get? b=some u->h'.get? b=some u):Un fs ex H H h h':=
 ⟨fun b ob q _ _ _=>k b ob q,fun b ob q _ _ _=>⟨ob.slots,k b ob q⟩,fun _ _ _ n _=>n,fun b ob q _=>⟨ob,k b ob q⟩,fun _ _ q=>q,fun _ _ _ q=>q,fun _ ps q=>⟨#[],by rw[q];simp⟩⟩
theorem Un.refl:Un fs ex H H h h:=Un.kept fun _ _ q=>q
theorem Un.laid(k:∀b u,h.get? b=some u->h'.get? b=some u)(hp:h.objs.size<=a)(hn:H a=none):Un fs ex H (upd H a o) h h' where
 keep:=fun b u q _ _ _=>k b u q
 slot:=fun b u q _ _ _=>⟨u.slots,k b u q⟩
 free:=fun b u q n _=>by rw[aA (dw (gq (bV q) hp))];exact n
 there:=fun b u q _=>⟨u,k b u q⟩
 tups:=fun b xs q=>by rw[aA (bf q hn)];exact q
 mY:=fun b u xs q=>by rw[aA (bf q hn)];exact q
 qP:=fun b ps q=>⟨#[],by rw[aA (bf q hn),q];simp⟩
theorem Un.write(mu:Dp (H x))(he:e=x\/H e=some (.own x))(k:∀b u,b≠e->h.get? b=some u->h'.get? b=some u)(BD:∃u,h'.get? e=some u):Un fs ex H (upd H x o) h h':=by
 have hx:∀b,H b=none->b≠x:=fun b n z=>by subst z;rw[n]at mu;exact mu
 have hb:∀b,H b=none->b≠e:=fun b n z=>by
  subst z
  rcases he with r | r
  ·exact hx b n r
  ·rw[n]at r;cases r
 have hm:∀b u,H b=some u->¬Dp (some u)->b≠x:=fun b u q nm z=>by subst z;rw[q]at mu;exact nm mu
 refine⟨fun b u q n _ _=>k b u (hb b n) q,fun b u q n _ _=>⟨u.slots,k b u (hb b n) q⟩,fun b u q n _=>by rw[aA (hx b n)];exact n,fun b u q _=>?_,
  fun b xs q=>by rw[aA (hm b _ q fun z=>z)];exact q,fun b u xs q=>by rw[aA (hm b _ q fun z=>z)];exact q,fun b ps q=>⟨#[],by rw[aA (hm b _ q fun z=>z),q];simp⟩⟩
 by_cases zW:b=e
 ·subst zW;exact BD
 ·exact⟨u,k b u zW q⟩
end
noncomputable def Nc(h:bL)(H:Hp):List Addr:=(bT h.objs.size).filter fun a=>(H a).isSome
noncomputable def rZ(h:bL)(H:Hp):Heap:=PySem.W.hideAll h (Nc h H)
theorem aoU(h:bL)(H:Hp):(rZ h H).objs.size=h.objs.size:=PySem.W.hideAll_size _ _
theorem aoT{h:bL}{H:Hp}{b:aa}{o:Obj}(e:h.get? b=some o)(n:H b=none):(rZ h H).get? b=some o:=
 PySem.W.hideAll_get _ e fun hm=>by
  have q:(H b).isSome=true:=(Dl.mp hm).2
  rw[n]at q;simp at q
theorem atg{h:bL}{H:Hp}{b:aa}{o:Obj}(e:(rZ h H).get? b=some o):h.get? b=some o/\H b=none:=by
 have e':h.get? b=some o:=PySem.W.of_hideAll (Nc h H) e
 refine⟨e',?_⟩
 cases q:H b with
 |none=>rfl
 |some x=>
  have hm:b∈Nc h H:=Dl.mpr ⟨iG.mpr (bV e'),by simp[q]⟩
  have z:(rZ h H).get? b=none:=PySem.W.hideAll_none (Nc h H) hm
  rw[z]at e;cases e
structure Mod(K:bG)(mg:Str->Option ao)(base:bL):Prop where
 BZ:K.In base
 glob:base.Ns bx mg
 blt:∃mb,base.Ns uK mb/\∀x:Str,x≠"__name__"->mb x=xT x
 nolimit:base.NoLimit
 bmod:∃bm o,mg "__builtins__" = some (.ref bm)/\bm≠uK/\base.get? bm=some o/\o.cls=.type "module"/\o.dict=some uK/\o.data=.plain
structure Cx where
 prog:cH
 w:cj
 K:bG
 mg:Str->Option ao
 base:bL
 A:cS
 N:List Str
 s₀:aB
 H₀:Hp
 env:Env
 outer:List Env
 stack:List Env
 ex:List aa
 fn:Str->Bool
 calm:Bool
 pn:List (aa×Obj)
 xe:ao->aB->Prop
noncomputable def qa(l:List Env):List Addr:=l.filterMap (·.frame)
noncomputable abbrev Cx.fs(X:Cx):List Addr:=qa X.outer
noncomputable def OA(sc:iI)(x:Str):Prop:=sc.names.lookup x=some .local\/sc.names.lookup x=some .cell\/sc.names.lookup x=some .free
noncomputable def Loc(sc:iI)(x:Str):Prop:=sc.names.lookup x=some .local\/sc.names.lookup x=some .cell
noncomputable def Look(env:Env)(h:bL)(m:Str->Option ao)(x:Str)(u:ao):Prop:=
 (env.kindOf x=some .local/\m x=some u)\/((env.kindOf x=some .cell\/env.kindOf x=some .free)/\∃c,env.cells.lookup x=some c/\h.IsCell c (some u))
structure Cx.Ok(X:Cx):Prop where
 mod:Mod X.K X.mg X.base
 kind:X.env.scope.kind=.function
 glob:X.env.globals=bx
 blt:X.env.builtins=uK
 above:X.s₀.heap.objs.size<=X.env.locals
 inj:∀x y c,X.env.cells.lookup x=some c->X.env.cells.lookup y=some c->x=y
 has:∀x,(X.env.kindOf x=some .cell\/X.env.kindOf x=some .free)->∃c,X.env.cells.lookup x=some c
 DU:∀x c,X.fn x=true->X.env.cells.lookup x=some c->X.s₀.heap.objs.size<=c
 hd:X.calm=true->X.A.handled=none
 frames:X.A.frames=some X.stack
 stk:X.stack=X.outer\/(X.stack=X.env::X.outer/\X.env.frame=some X.env.locals)
 D6:∀b∈X.ex,b≠X.env.locals/\∀x c,X.env.cells.lookup x=some c->c≠b
 bs:∀b o,X.base.get? b=some o->X.s₀.heap.get? b=some o/\X.H₀ b=none
 rQ:X.base.objs.size<=X.s₀.heap.objs.size
 Cm:∀b o,X.base.get? b=some o->b∉X.ex
 Bp:∀b∈X.ex,b∉X.fs
 o9:X.s₀.heap.FunFrames X.base X.outer
 zR:∀b∈X.fs,X.H₀ b=none
structure Inv(X:Cx)(ah:List (aa×Obj))(σ:List (Option V))(H:Hp)(s:aB):Prop where
 ok:X.Ok
 os:s.os=X.s₀.os
 bare:xm s.gens
 base:Un X.fs X.ex X.H₀ H X.s₀.heap s.heap
 loc:∃m,s.heap.Ns X.env.locals m/\∀(i:Nat) (x:Str) (v:V),X.N[i]?=some x->σ[i]?=some (some v)->OA X.env.scope x->∃u,RelV v u/\Look X.env s.heap m x u
 cell:∀x c,X.env.cells.lookup x=some c->∃v,s.heap.IsCell c v
 free:H X.env.locals=none
 kK:∀x c,X.env.cells.lookup x=some c->H c=none
 pin:∀p∈X.pn++ah,s.heap.get? p.1=some p.2/\H p.1=none/\p.1≠X.env.locals/\p.1∉X.fs/\∀v,p.2.data≠.cell v
 hok:eW X.prog X.w H s.heap
 len:σ.length=X.N.length
section
variable{X:Cx}{ah:List (aa×Obj)}{σ:List (Option V)}{H H':Hp}{s:aB}{h':bL}
theorem Cx.Ok.aq5(ok:X.Ok){b:aa}{o:Obj}(e:X.base.get? b=some o):b∉X.fs:=fun hb=>by
 have:=(ok.o9.mem hb).1
 rw[e]at this;cases this
theorem Inv.bs(I:Inv X ah σ H s):∀b o,X.base.get? b=some o->s.heap.get? b=some o/\H b=none:=fun b o e=>
 ⟨I.base.keep b o (I.ok.bs b o e).1 (I.ok.bs b o e).2 (I.ok.aq5 e) (I.ok.Cm b o e),I.base.free b o (I.ok.bs b o e).1 (I.ok.bs b o e).2 (I.ok.Cm b o e)⟩
theorem Inv.bk(I:Inv X ah σ H s):∀b o,X.base.get? b=some o->s.heap.get? b=some o:=fun b o e=>(I.bs b o e).1
theorem Inv.mod(I:Inv X ah σ H s):Mod X.K X.mg X.base:=I.ok.mod
theorem Inv.gY(I:Inv X ah σ H s):X.K.In s.heap:=I.ok.mod.BZ.keeps I.bk
theorem Inv.nolimit(I:Inv X ah σ H s):s.heap.NoLimit:=I.ok.mod.nolimit.keeps I.bk
theorem Inv.lt(I:Inv X ah σ H s):X.env.locals<s.heap.objs.size:=let ⟨_,hn,_⟩:=I.loc;hn.lt
theorem Inv.sz(I:Inv X ah σ H s):X.s₀.heap.objs.size<=s.heap.objs.size:=fP I.ok.above (lG I.lt)
theorem Inv.aq7(I:Inv X ah σ H s){a:aa}(h:s.heap.objs.size<=a):a∉X.fs:=fun hb=>by
 obtain⟨_,o,ho,_⟩:=I.ok.o9.mem hb
 exact absurd (gq (bV ho) (fP I.sz h)) (mT _)
theorem Inv.zK(I:Inv X ah σ H s):∀x c,X.env.cells.lookup x=some c->c≠X.env.locals:=fun x c e z=>by
 obtain⟨v,o,ho,hd⟩:=I.cell x c e
 obtain⟨m,⟨o',es,ep,oh,zY,_⟩,_⟩:=I.loc
 rw[z,oh]at ho;cases ho;rw[zY]at hd;cases hd
theorem Inv.o9(I:Inv X ah σ H s):s.heap.FunFrames X.base X.outer:=by
 have all:∀(l:List Env),(∀b∈qa l,b∈X.fs)->X.s₀.heap.FunFrames X.base l->s.heap.FunFrames X.base l:=by
  intro l
  induction l with
  |nil=>intro _ _;trivial
  |cons env r ih=>
   intro hs hl
   obtain⟨hk,⟨L,o,hf,hn,ho,hd⟩,hr⟩:=hl
   have hL:L∈X.fs:=hs L (by unfold qa;rw[nK,hf];exact lR)
   obtain⟨sl,e⟩:=I.base.slot L o ho (I.ok.zR L hL) hL fun z=>I.ok.Bp L z hL
   exact⟨hk,⟨L,_,hf,hn,e,hd⟩,ih (fun b hb=>hs b (by unfold qa;rw[nK,hf];exact iS _ hb)) hr⟩
 exact all X.outer (fun _ hb=>hb) I.ok.o9
theorem Inv.stack(I:Inv X ah σ H s):s.heap.FunFrames X.base X.stack:=by
 rcases I.ok.stk with e | ⟨e,hf⟩
 ·rw[e];exact I.o9
 ·rw[e]
  obtain⟨m,hn,_⟩:=I.loc
  refine .cons (by rw[I.ok.kind];decide) hf hn ?_ I.o9
  exact Heap.get?_none_of_le (fP I.ok.rQ I.ok.above)
theorem Inv.M0(I:Inv X ah σ H s):∀b∈qa X.stack,b∈X.env.locals::X.fs:=fun b hb=>by
 rcases I.ok.stk with e | ⟨e,hf⟩
 ·rw[e]at hb;exact iS _ hb
 ·rw[e]at hb
  unfold qa at hb
  rw[nK,hf]at hb
  exact hb
theorem Inv.aaB(I:Inv X ah σ H s):∀b∈qa X.stack,H b=none:=fun b hb=>by
 rcases dY.mp (I.M0 b hb)with e | hb
 ·rw[e];exact I.free
 ·obtain⟨_,o,ho,_⟩:=I.ok.o9.mem hb
  exact I.base.free b o ho (I.ok.zR b hb) fun z=>I.ok.Bp b z hb
theorem Inv.step{g':Array GenState}{t':Nat}{d':Drawn}{ch:List aa}(I:Inv X ah σ H s)
  (gX:∀b∈ch,(b∈X.ex\/X.s₀.heap.objs.size<=b)/\b≠X.env.locals/\(∀x c,X.env.cells.lookup x=some c->c≠b)/\∀p∈X.pn++ah,p.1≠b)
  (keep:∀b o,b≠X.env.locals->b∉X.fs->b∉ch->s.heap.get? b=some o->H b=none->h'.get? b=some o)
  (slot:∀b o,b≠X.env.locals->b∈X.fs->b∉ch->s.heap.get? b=some o->H b=none->∃sl,h'.get? b=some {o with slots:=sl}) (free:∀b o,b∉ch->s.heap.get? b=some o->H b=none->H' b=none)
  (there:∀b o,b∉ch->s.heap.get? b=some o->∃o',h'.get? b=some o')
  (tups:∀b xs,H b=some (.tup xs)->H' b=some (.tup xs)) (mY:∀b o u,H b=some (.cC o u)->H' b=some (.cC o u)) (qP:∀b ps,H b=some (.yS ps)->∃more,H' b=some (.yS (ps++more)))
  (ns:∀m,s.heap.Ns X.env.locals m->h'.Ns X.env.locals m) (hok:eW X.prog X.w H' h') (hg:xm g') :
  Inv X ah σ H' {s with heap:=h',gens:=g',drawn:=d',toks:=t'}:=by
 have neL:∀b o,X.s₀.heap.get? b=some o->b≠X.env.locals:=fun b o e=>dw (gq (bV e) I.ok.above)
 have Mc:∀b o,X.s₀.heap.get? b=some o->b∉X.ex->b∉ch:=fun b o e hx hb=>by
  rcases(gX b hb).1 with z | z
  ·exact hx z
  ·exact absurd (gq (bV e) z) (mT _)
 have aeb:∀x c,X.env.cells.lookup x=some c->∀v,s.heap.IsCell c v->h'.IsCell c v:=fun x c e v ⟨o,ho,hd⟩=>by
  have FN:c∉ch:=fun z=>(gX c z).2.2.1 x c e rfl
  by_cases hc:c∈X.fs
  ·obtain⟨sl,q⟩:=slot c o (I.zK x c e) hc FN ho (I.kK x c e)
   exact⟨_,q,hd⟩
  ·exact⟨o,keep c o (I.zK x c e) hc FN ho (I.kK x c e),hd⟩
 refine⟨I.ok,I.os,hg,⟨fun b o e n hb hx=>?_,fun b o e n hb hx=>?_,fun b o e n hx=>?_,fun b o e hx=>?_,fun b xs e=>tups b xs (I.base.tups b xs e),fun b o xs e=>mY b o xs (I.base.mY b o xs e),fun b ps e=>?_⟩,?_,fun x c e=>?_,?_,fun x c e=>?_,fun p hp=>?_,hok,I.len⟩
 ·exact keep b o (neL b o e) hb (Mc b o e hx) (I.base.keep b o e n hb hx) (I.base.free b o e n hx)
 ·obtain⟨sl,e1⟩:=I.base.slot b o e n hb hx
  obtain⟨sl',e2⟩:=slot b _ (neL b o e) hb (Mc b o e hx) e1 (I.base.free b o e n hx)
  exact⟨sl',e2⟩
 ·obtain⟨o',e1⟩:=I.base.there b o e hx
  exact free b o' (Mc b o e hx) e1 (I.base.free b o e n hx)
 ·obtain⟨o',e1⟩:=I.base.there b o e hx
  exact there b o' (Mc b o e hx) e1
 ·obtain⟨m1,e1⟩:=I.base.qP b ps e
  obtain⟨m2,e2⟩:=qP b _ e1
  exact⟨m1++m2,by rw[e2,Array.append_assoc]⟩
 ·obtain⟨m,hn,hl⟩:=I.loc
  refine⟨m,ns m hn,fun i x v e1 e2 e3=>?_⟩
  obtain⟨u,r,l⟩:=hl i x v e1 e2 e3
  refine⟨u,r,?_⟩
  rcases l with l | ⟨k,c,e,z⟩
  ·exact .inl l
  ·exact .inr ⟨k,c,e,aeb x c e _ z⟩
 ·obtain⟨v,z⟩:=I.cell x c e
  exact⟨v,aeb x c e v z⟩
 ·obtain⟨m,⟨o,_,_,ho,_⟩,_⟩:=I.loc
  exact free _ o (fun z=>(gX _ z).2.1 rfl) ho I.free
 ·obtain⟨v,o,ho,hd⟩:=I.cell x c e
  exact free c o (fun z=>(gX c z).2.2.1 x c e rfl) ho (I.kK x c e)
 ·obtain⟨e,n,ne,nf,d⟩:=I.pin p hp
  have FN:p.1∉ch:=fun z=>(gX p.1 z).2.2.2 p hp rfl
  exact⟨keep p.1 p.2 ne nf FN e n,free p.1 p.2 FN e n,ne,nf,d⟩
theorem Inv.un{t':Nat}(I:Inv X ah σ H s)(u:Un X.fs [] H H' s.heap h')(hok:eW X.prog X.w H' h'):Inv X ah σ H' {s with heap:=h',toks:=t'}:=by
 obtain⟨m,⟨o,es,ep,ho,r⟩,_⟩:=id I.loc
 obtain⟨sl,hL⟩:=u.any ho I.free (by simp)
 exact I.step (g':=s.gens) (d':=s.drawn) (ch:=[]) (fun _ z=>nomatch z) (fun b o _ hb _ e n=>u.keep b o e n hb (by simp)) (fun b o _ hb _ e n=>u.slot b o e n hb (by simp)) (fun b o _ e n=>u.free b o e n (by simp)) (fun b o _ e=>u.there b o e (by simp)) u.tups u.mY u.qP (fun m' hm=>by
  obtain⟨o',TR,TM,oh,r'⟩:=hm
  rw[ho]at oh;cases oh
  exact⟨_,TR,TM,hL,r'⟩) hok I.bare
theorem Inv.call{g':Array GenState}{t':Nat}{d':Drawn}{ch:List aa}(I:Inv X ah σ H s)(u:Un (qa X.stack) ch H H' s.heap h')(hok:eW X.prog X.w H' h')(hg:xm g')
  (gX:∀b∈ch,(b∈X.ex\/X.s₀.heap.objs.size<=b)/\b≠X.env.locals/\(∀x c,X.env.cells.lookup x=some c->c≠b)/\∀p∈X.pn++ah,p.1≠b) :
  Inv X ah σ H' {s with heap:=h',gens:=g',drawn:=d',toks:=t'}:=by
 obtain⟨m,⟨o,es,ep,ho,r⟩,_⟩:=id I.loc
 obtain⟨sl,hL⟩:=u.any ho I.free fun z=>(gX _ z).2.1 rfl
 exact I.step (ch:=ch) gX (fun b o hL hb hc e n=>u.keep b o e n (fun z=>(dY.mp (I.M0 b z)).elim hL hb) hc) (fun b o _ _ hc e n=>u.any e n hc) (fun b o hc e n=>u.free b o e n hc) (fun b o hc e=>u.there b o e hc) u.tups u.mY u.qP (fun m' hm=>by
  obtain⟨o',TR,TM,oh,r'⟩:=hm
  rw[ho]at oh;cases oh
  exact⟨_,TR,TM,hL,r'⟩) hok hg
theorem Inv.turned{t':Nat}{it:aa}(I:Inv X ah σ H s)(k:∀b o,b≠it->s.heap.get? b=some o->h'.get? b=some o)(hn:H it=none)(hL:it≠X.env.locals)
  (h1:it∈X.ex\/X.s₀.heap.objs.size<=it) (h2:∀x c,X.env.cells.lookup x=some c->c≠it) (h3:∀p∈X.pn++ah,p.1≠it):Inv X ah σ H {s with heap:=h',toks:=t'}:=by
 have qq:∀b u,H b=some u->b≠it:=fun b u e z=>by rw[z,hn]at e;cases e
 refine I.step (g':=s.gens) (d':=s.drawn) (ch:=[it]) (fun b hb=>?_) (fun b o _ _ hc e _=>k b o (fun z=>hc (by simp[z])) e) (fun b o _ _ hc e _=>⟨o.slots,k b o (fun z=>hc (by simp[z])) e⟩) (fun _ _ _ _ n=>n)
  (fun b o hc e=>⟨o,k b o (fun z=>hc (by simp[z])) e⟩) (fun _ _ e=>e) (fun _ _ _ e=>e) (fun b ps e=>⟨#[],by rw[e];simp⟩) (fun m hm=>?_) (fun b u e=>?_) I.bare
 ·have e:b=it:=by simpa using hb
  subst e
  exact⟨h1,hL,h2,h3⟩
 ·obtain⟨o,es,ep,ho,r⟩:=hm
  exact⟨o,es,ep,k _ o (dB hL) ho,r⟩
 ·refine(I.hok b u e).stay (fun c v hc q=>k c v ?_ q) (fun _ q=>q) fun _ _ q=>q
  rcases hc with z | z
  ·rw[z];exact qq b u e
  ·exact qq c _ z
theorem Inv.tok(I:Inv X ah σ H s)(t:Nat):Inv X ah σ H {s with toks:=t}:=I.un (h':=s.heap) (t':=t) Un.refl I.hok
theorem Inv.kept{t':Nat}(I:Inv X ah σ H s)(k:∀b u,s.heap.get? b=some u->h'.get? b=some u):Inv X ah σ H {s with heap:=h',toks:=t'}:=I.un (Un.kept k) (I.hok.kept k)
theorem Inv.laid{a:aa}{o:HO}{t':Nat}(I:Inv X ah σ H s)(k:∀b u,s.heap.get? b=some u->h'.get? b=some u)(hp:s.heap.objs.size<=a)(new:cD X.prog X.w (upd H a o) h' a o) :
  Inv X ah σ (upd H a o) {s with heap:=h',toks:=t'}:=I.un (Un.laid k hp (I.hok.fresh hp)) (I.hok.laid k hp new)
theorem Inv.write{x e:aa}{o:HO}{t':Nat}(I:Inv X ah σ H s)(mu:Dp (H x))(he:e=x\/H e=some (.own x))(k:∀b u,b≠e->s.heap.get? b=some u->h'.get? b=some u)(BD:∃u,h'.get? e=some u)
  (new:cD X.prog X.w (upd H x o) h' x o):Inv X ah σ (upd H x o) {s with heap:=h',toks:=t'}:=I.un (Un.write mu he k BD) (I.hok.write mu he k BD new)
theorem Inv.ajj{aji:List (aa×Obj)}(I:Inv X ah σ H s)(h:∀p∈aji,s.heap.get? p.1=some p.2/\H p.1=none/\p.1≠X.env.locals/\p.1∉X.fs/\∀v,p.2.data≠.cell v):Inv X aji σ H s:=
 ⟨I.ok,I.os,I.bare,I.base,I.loc,I.cell,I.free,I.kK,fun p hp=>(lQ.mp hp).elim (fun z=>I.pin p (abU _ z)) (h p),I.hok,I.len⟩
theorem aiQ{N:List Str}(hN:N.Nodup){i j:Nat}{x:Str}(a:N[i]?=some x)(b:N[j]?=some x):i=j:=by
 obtain⟨h1,e1⟩:=iw.mp a
 obtain⟨h2,e2⟩:=iw.mp b
 exact(abM hN).mp (e1.trans e2.symm)
theorem akW{M:Model}{A:cS}{E:ao->aB->Prop}{i:Nat}{x:Str}{v:V}{u:ao}{Q:Unit->aB->Prop}(I:Inv X ah σ H s)(hN:X.N.Nodup)(hi:X.N[i]?=some x)(hx:Loc X.env.scope x)(r:RelV v u)
  (h:∀s',Inv X ah (σ.set i (some v)) H s'->(∃a,Il a s.heap s'.heap/\(a=X.env.locals\/X.env.cells.lookup x=some a))->Q () s') (hf:X.fn x=true\/X.env.scope.names.lookup x=some .local:=by first | exact .inl rfl | exact .inr rfl | assumption):aK M A (storeName X.env x u) Q E s:=by
 obtain⟨m,hn,hl⟩:=id I.loc
 have aoG:(X.env.scope.kind == .class||(X.env.scope.kind == .module&&X.env.locals != X.env.globals))=false:=by rw[I.ok.kind];rfl
 have hiσ:i<σ.length:=by rw[I.len];exact(iw.mp hi).1
 have zK:=I.zK
 have ale:∀ {a:aa} {h':bL},(∃o,s.heap.get? a=some o/\H a=none)->Il a s.heap h'->eW X.prog X.w H h':=fun {a h'} ha hs b ob e=>by
  obtain⟨_,_,ag2⟩:=ha
  refine(I.hok b ob e).stay (fun c w' hc q=>(hs.2 c ?_).trans q) (fun _ q=>q) fun _ _ q=>q
  rintro rfl
  rcases hc with rfl | hc
  ·rw[ag2]at e;cases e
  ·rw[ag2]at hc;cases hc
 rcases hx with hk | hk
 ·refine wpAny_storeName_local hk hn (fun h' yq hs=>?_) aoG
  obtain⟨oL,_,_,sr,_⟩:=id hn
  refine h _ ⟨I.ok,I.os,I.bare,⟨fun b o e n hb hx=>?_,fun b o e n hb hx=>?_,I.base.free,fun b o e hx=>?_,I.base.tups,I.base.mY,I.base.qP⟩,⟨_,yq,fun j y v' e1 e2 e3=>?_⟩,fun y c e=>?_,I.free,I.kK,fun p hp=>?_,ale ⟨oL,sr,I.free⟩ hs,by simpa using I.len⟩ ⟨_,hs,.inl rfl⟩
  ·exact(hs.2 b (dw (gq (bV e) I.ok.above))).trans (I.base.keep b o e n hb hx)
  ·obtain⟨sl,e1⟩:=I.base.slot b o e n hb hx
   exact⟨sl,(hs.2 b (dw (gq (bV e) I.ok.above))).trans e1⟩
  ·obtain⟨o',e1⟩:=I.base.there b o e hx
   exact⟨o',(hs.2 b (dw (gq (bV e) I.ok.above))).trans e1⟩
  ·by_cases hj:j=i
   ·subst hj
    rw[hi]at e1;cases e1
    rw[abL hiσ]at e2
    cases e2
    exact⟨u,r,.inl ⟨hk,by simp⟩⟩
   ·rw[abK (dB hj)]at e2
    obtain⟨u',r',q⟩:=hl j y v' e1 e2 e3
    refine⟨u',r',?_⟩
    rcases q with⟨k,e⟩ | ⟨k,c,e,z⟩
    ·refine .inl ⟨k,?_⟩
     have:y≠x:=fun e=>hj (aiQ hN e1 (e▸hi))
     simp[this,e]
    ·exact .inr ⟨k,c,e,z.sameBut hs (zK y c e)⟩
  ·obtain⟨w',z⟩:=I.cell y c e
   exact⟨w',z.sameBut hs (zK y c e)⟩
  ·obtain⟨e,n,ne,nf,d⟩:=I.pin p hp
   exact⟨(hs.2 p.1 ne).trans e,n,ne,nf,d⟩
 ·have VA:X.fn x=true:=by
   rcases hf with z | z
   ·exact z
   ·rw[z]at hk;cases hk
  obtain⟨c,hc⟩:=I.ok.has x (.inl hk)
  obtain⟨w',z⟩:=I.cell x c hc
  refine wpAny_storeName_cell I.ok.kind hk hc z (fun h' d8 hs=>?_)
  obtain⟨oc,hoc,apu⟩:=id z
  refine h {s with heap:=h'} ⟨I.ok,I.os,I.bare,⟨fun b o e n hb hx=>?_,fun b o e n hb hx=>?_,I.base.free,fun b o e hx=>?_,I.base.tups,I.base.mY,I.base.qP⟩,⟨m,hn.sameBut hs (dB (zK x c hc)),fun j y v' e1 e2 e3=>?_⟩,fun y c' e=>?_,I.free,I.kK,fun p hp=>?_,ale ⟨oc,hoc,I.kK x c hc⟩ hs,by simpa using I.len⟩ ⟨c,hs,.inr hc⟩
  ·exact(hs.2 b (dw (gq (bV e) (I.ok.DU x c VA hc)))).trans (I.base.keep b o e n hb hx)
  ·obtain⟨sl,e1⟩:=I.base.slot b o e n hb hx
   exact⟨sl,(hs.2 b (dw (gq (bV e) (I.ok.DU x c VA hc)))).trans e1⟩
  ·obtain⟨o',e1⟩:=I.base.there b o e hx
   exact⟨o',(hs.2 b (dw (gq (bV e) (I.ok.DU x c VA hc)))).trans e1⟩
  ·by_cases hj:j=i
   ·subst hj
    rw[hi]at e1;cases e1
    rw[abL hiσ]at e2
    cases e2
    exact⟨u,r,.inr ⟨.inl hk,c,hc,d8⟩⟩
   ·rw[abK (dB hj)]at e2
    obtain⟨u',r',q⟩:=hl j y v' e1 e2 e3
    refine⟨u',r',?_⟩
    rcases q with q | ⟨k,c',e,z'⟩
    ·exact .inl q
    ·refine .inr ⟨k,c',e,z'.sameBut hs ?_⟩
     rintro rfl
     exact hj (aiQ hN e1 (I.ok.inj _ _ _ e hc▸hi))
  ·by_cases hcc:c'=c
   ·subst hcc;exact⟨_,d8⟩
   ·obtain⟨w2,z2⟩:=I.cell y c' e
    exact⟨w2,z2.sameBut hs hcc⟩
  ·obtain⟨e,n,ne,nf,d⟩:=I.pin p hp
   refine⟨(hs.2 p.1 ?_).trans e,n,ne,nf,d⟩
   intro q
   rw[q,hoc]at e
   have q':oc=p.2:=cY e
   exact d w' (by rw[<- q'];exact apu)
theorem M3{M:Model}{A:cS}{E:ao->aB->Prop}{i:Nat}{x:Str}{v:V}{u:ao}{Q:Unit->aB->Prop}(I:Inv X ah σ H s)(hN:X.N.Nodup)(hi:X.N[i]?=some x)(hx:Loc X.env.scope x)(r:RelV v u)
  (h:∀s',Inv X ah (σ.set i (some v)) H s'->Q () s') (hf:X.fn x=true\/X.env.scope.names.lookup x=some .local:=by first | exact .inl rfl | exact .inr rfl | assumption):aK M A (storeName X.env x u) Q E s:=
 akW I hN hi hx r (fun s' I' _=>h s' I') hf
theorem Inv.anr{s':aB}{ch:List aa}(I:Inv X ah σ H s)(ho:s'.os=s.os)(u:Un (qa X.stack) ch H H' s.heap s'.heap)(hok:eW X.prog X.w H' s'.heap)(hg:xm s'.gens)
  (gX:∀b∈ch,(b∈X.ex\/X.s₀.heap.objs.size<=b)/\b≠X.env.locals/\(∀x c,X.env.cells.lookup x=some c->c≠b)/\∀p∈X.pn++ah,p.1≠b):Inv X ah σ H' s':=by
 obtain⟨h',g',d',t',o'⟩:=s'
 have e:o'=s.os:=ho
 subst e
 exact I.call (g':=g') (t':=t') (d':=d') u hok hg gX
end
noncomputable abbrev XK:=ao->Option aa->Hp->Prop
noncomputable abbrev St:=List (Option V)
noncomputable abbrev VK:=V->Hp->Prop
noncomputable abbrev TE:=St->Hp->VK->Prop
noncomputable abbrev TT:=St->Hp->(Bool->Hp->Prop)->Prop
noncomputable abbrev TA:=St->Hp->(List V->Hp->Prop)->Prop
structure Ends where
 nx:St->Hp->Prop
 rt:VK
 bk:St->Hp->Prop:=fun _ _=>False
 ct:St->Hp->Prop:=fun _ _=>False
noncomputable abbrev TS:=Ends->St->Hp->Prop
noncomputable def EP(X:Cx)(ah:List (aa×Obj))(σ:St)(Q:VK)(u:ao)(s':aB):Prop:=∃v H',Inv X ah σ H' s'/\RelV v u/\Q v H'
noncomputable def TP(X:Cx)(ah:List (aa×Obj))(σ:St)(Q:Bool->Hp->Prop)(b:Bool)(s':aB):Prop:=∃H',Inv X ah σ H' s'/\Q b H'
noncomputable def AP(X:Cx)(ah:List (aa×Obj))(σ:St)(Q:List V->Hp->Prop)(us:List ao)(s':aB):Prop:=∃vs H',Inv X ah σ H' s'/\bu vs us/\Q vs H'
noncomputable def SP(X:Cx)(ah:List (aa×Obj))(D:Ends)(f:Flow)(s':aB):Prop:=
 match f with
 | .next=>∃σ' H',Inv X ah σ' H' s'/\D.nx σ' H'
 | .brk=>∃σ' H',Inv X ah σ' H' s'/\D.bk σ' H'
 | .cont=>∃σ' H',Inv X ah σ' H' s'/\D.ct σ' H'
 | .ret u=>∃v σ' H',Inv X ah σ' H' s'/\RelV v u/\D.rt v H'
noncomputable def PE(X:Cx)(e:aZ)(t:TE):Prop:=
 ∀(ah:List (aa×Obj)) (s:aB) (σ:St) (H:Hp) (Q:VK),Inv X ah σ H s->t σ H Q->aK (aN X.prog X.w) X.A (eval e X.env) (EP X ah σ Q) X.xe s
noncomputable def PT(X:Cx)(e:aZ)(t:TT):Prop:=
 ∀(ah:List (aa×Obj)) (s:aB) (σ:St) (H:Hp) (Q:Bool->Hp->Prop),Inv X ah σ H s->t σ H Q->aK (aN X.prog X.w) X.A (isTrue e X.env (eval e X.env)) (TP X ah σ Q) X.xe s
noncomputable def PW(X:Cx)(e:aZ)(t:TT):Prop:=
 ∀(Nk:Sem ao) (ah:List (aa×Obj)) (s:aB) (σ:St) (H:Hp) (Q:Bool->Hp->Prop),Inv X ah σ H s->t σ H Q->aK (aN X.prog X.w) X.A (isTrue e X.env Nk) (TP X ah σ Q) X.xe s
theorem PW.pt{X:Cx}{e:aZ}{t:TT}(h:PW X e t):PT X e t:=h _
noncomputable def PA(X:Cx)(es:List aZ)(t:TA):Prop:=
 ∀(pos:Pos) (ah:List (aa×Obj)) (s:aB) (σ:St) (H:Hp) (Q:List V->Hp->Prop),Inv X ah σ H s->t σ H Q->aK (aN X.prog X.w) X.A (spliced (jJ pos (dR es X.env))) (AP X ah σ Q) X.xe s
noncomputable def PS(X:Cx)(st:iT)(t:TS):Prop:=
 ∀(ah:List (aa×Obj)) (s:aB) (σ:St) (H:Hp) (D:Ends),Inv X ah σ H s->t D σ H->aK (aN X.prog X.w) X.A (exec st X.env) (SP X ah D) X.xe s
noncomputable def jt(X:Cx)(st:List iT)(t:TS):Prop:=
 ∀(ah:List (aa×Obj)) (s:aB) (σ:St) (H:Hp) (D:Ends),Inv X ah σ H s->t D σ H->aK (aN X.prog X.w) X.A (execs st X.env) (SP X ah D) X.xe s
theorem aV{α:Type}{t:Sem α}{Q Q':α->aB->Prop}{M:Model}{A:cS}{E:ao->aB->Prop}{s:aB}(h:aK M A t Q E s)(hQ:∀a s,Q a s->Q' a s):aK M A t Q' E s:=iP h hQ fun _ _ x=>x
end L2
namespace L2
open PySem PySem.Spec PyProof.Rows
section
variable{X:Cx}
theorem Pa{a b:aZ}{ta tb:TE}(ha:PE X a ta)(hb:PE X b tb){ah:List (aa×Obj)}{s:aB}{σ:St}{H:Hp}{R:V->V->Hp->Prop}(I:Inv X ah σ H s)(h:ta σ H fun x H1=>tb σ H1 fun y H2=>R x y H2)
  {α:Type} {Q:α->aB->Prop} {f:ao->ao->Sem α}
  (hf:∀v u s2 x y H2,Inv X ah σ H2 s2->RelV x v->RelV y u->R x y H2->aK (aN X.prog X.w) X.A (f v u) Q X.xe s2) :
  aK (aN X.prog X.w) X.A (eval a X.env) (fun v s₁=>aK (aN X.prog X.w) X.A (eval b X.env) (fun u s₂=>aK (aN X.prog X.w) X.A (f v u) Q X.xe s₂) X.xe s₁) X.xe s:=by
 refine aV (ha ah s σ H _ I h) fun v s1 ⟨x,H1,I1,r1,q1⟩=>?_
 refine aV (hb ah s1 σ H1 _ I1 q1) fun u s2 ⟨y,H2,I2,r2,q2⟩=>?_
 exact hf v u s2 x y H2 I2 r1 r2 q2
noncomputable def aaI(i:Nat):TE:=fun σ H Q=>∃v,σ[i]?=some (some v)/\Q v H
noncomputable def tC(v:V):TE:=fun _ H Q=>Q v H
theorem aur{i:Nat}{x:Str}{pos:Pos}(hN:X.N[i]?=some x)(hv:OA X.env.scope x)(hd:(x == ("__debug__" : Str))=false:=by decide) (jd:(x == ("__classdict__" : Str))=false:=by decide):PE X (.Name x pos) (aaI i):=by
 intro ah s σ H Q I h
 obtain⟨v,e,h⟩:=h
 obtain⟨m,hn,hl⟩:=I.loc
 obtain⟨u,r,l⟩:=hl i x v hN e hv
 have fin:EP X ah σ Q u s:=⟨v,H,I,r,h⟩
 rcases l with⟨hk,hm⟩ | ⟨hk,c,hc,agX⟩
 ·exact wpAny_Name (wpAny_loadName_local I.ok.kind hk hn hm fin) hd
 ·rcases hk with hk | hk
  ·exact wpAny_Name (wpAny_loadName_cell I.ok.kind hk hc agX fin) hd
  ·exact wpAny_Name (wpAny_loadName_free I.ok.kind hk hc agX fin jd) hd
theorem aD{i j pos}:PE X (.Constant (.int i) j pos) (tC (.int i)):=fun _ _ _ H _ I h=>wpAny_Constant_int ⟨.int i,H,I.tok _,⟨_,rfl⟩,h⟩
theorem cP{b j pos}:PE X (.Constant (.bool b) j pos) (tC (.bl b)):=fun _ _ _ H _ I h=>Constant_bool ⟨.bl b,H,I,rfl,h⟩
theorem ZN{j pos}:PE X (.Constant .none j pos) (tC .cF):=fun _ _ _ H _ I h=>Constant_none ⟨.cF,H,I,rfl,h⟩
noncomputable def Gl(X:Cx)(x:Str):Prop:=X.env.kindOf x=some .globalImplicit
theorem LU{E:ao->aB->Prop}{ah:List (aa×Obj)}{s:aB}{σ:St}{H:Hp}{x:Str}{u:ao}{pos:Pos}{Q:ao->aB->Prop}(I:Inv X ah σ H s)(hg:Gl X x)(hm:X.mg x=some u)(h:Q u s)
  (hd:(x == ("__debug__" : Str))=false:=by decide):aK (aN X.prog X.w) X.A (eval (.Name x pos) X.env) Q E s:=
 alL I.ok.kind hg (Calls.loadGlobal_global (by rw[I.ok.glob];exact I.mod.glob.keeps I.bk) hm h) hd
theorem qo{E:ao->aB->Prop}{ah:List (aa×Obj)}{s:aB}{σ:St}{H:Hp}{x:Str}{u:ao}{pos:Pos}{Q:ao->aB->Prop}(I:Inv X ah σ H s)(hg:Gl X x)(hm:X.mg x=none)(hv:xT x=some u)(h:Q u s)
  (hn:x≠"__name__":=by decide) (hd:(x == ("__debug__" : Str))=false:=by decide):aK (aN X.prog X.w) X.A (eval (.Name x pos) X.env) Q E s:=by
 obtain⟨mb,h1,h2⟩:=I.mod.blt
 exact alL I.ok.kind hg (Calls.loadGlobal_builtin (by rw[I.ok.glob];exact I.mod.glob.keeps I.bk) hm (by rw[I.ok.blt];exact h1.keeps I.bk) ((h2 x hn).trans hv) h) hd
theorem yM{x:Str}{v:V}{u:ao}{pos:Pos}(hg:Gl X x)(hm:X.mg x=some u)(r:RelV v u)(hd:(x == ("__debug__" : Str))=false:=by decide):PE X (.Name x pos) (tC v):=
 fun _ _ _ H _ I h=>LU I hg hm ⟨v,H,I,r,h⟩ hd
theorem auh{x:Str}{v:V}{u:ao}{pos:Pos}(hg:Gl X x)(hm:X.mg x=none)(hv:xT x=some u)(r:RelV v u)(hn:x≠"__name__":=by decide) (hd:(x == ("__debug__" : Str))=false:=by decide):PE X (.Name x pos) (tC v):=
 fun _ _ _ H _ I h=>qo I hg hm hv ⟨v,H,I,r,h⟩ hn hd
variable{a b:aZ}{ta tb:TE}{pos:Pos}
noncomputable def PC(X:Cx)(op:AM)(a b:aZ)(t:TE):Prop:=
 ∀(ah:List (aa×Obj)) (s:aB) (σ:St) (H:Hp) (Q:VK),Inv X ah σ H s->t σ H Q->
  aK (aN X.prog X.w) X.A (eval a X.env) (fun v s₁=>aK (aN X.prog X.w) X.A (eval b X.env) (fun u s₂=>aK (aN X.prog X.w) X.A (jK op v u) (EP X ah σ Q) X.xe s₂) X.xe s₁) X.xe s
noncomputable def tB(t:TE):TT:=fun σ H Q=>t σ H fun x H1=>∃c,x=.bl c/\Q c H1
theorem aki{op:AM}{t:TE}(h:PC X op a b t)(h1:behindInMarks op b=false:=by first | exact azx _ (by decide) (by decide) | rfl):PT X (.Compare a [op] [b] pos) (tB t):=by
 intro ah s σ H Q I hw
 refine wpAny_isTrue_Compare1 (aV (h ah s σ H _ I hw) fun v s1 h1=>aV h1 fun u s2 h2=>aV h2 fun c s3 ⟨x,H1,I1,r1,q1⟩=>?_) h1
 obtain⟨d,rfl,q⟩:=q1
 cases r1
 exact qZ ⟨H1,I1,q⟩
theorem dm{e:aZ}{t:TE}(h:PE X e t)(he:∀Nk,isTrue e X.env Nk=(do let v <- Nk;Hy e.pos;BL [v] (truthy v)):=by intro _;rfl):PT X e (tB t):=by
 intro ah s σ H Q I hw
 refine isTrue_plain (aV (h ah s σ H _ I hw) fun v s1 ⟨x,H1,I1,r1,q1⟩=>?_) (he _)
 obtain⟨d,rfl,q⟩:=q1
 cases r1
 exact qZ ⟨H1,I1,q⟩
variable{tA M7:TT}{qC:List aZ}
noncomputable def ax1(t u:TT):TT:=fun σ H Q=>t σ H fun c H1=>if c=true then u σ H1 Q else Q false H1
noncomputable def tOr(t u:TT):TT:=fun σ H Q=>t σ H fun c H1=>if c=true then Q true H1 else u σ H1 Q
noncomputable def ayj(t:TT):TT:=fun σ H Q=>t σ H fun c H1=>Q (!c) H1
theorem vC(ha:PT X a tA):PW X (.BoolOp .And [a] pos) tA:=by
 intro wh ah s σ H Q I h
 refine isTrue_and (aV (ha ah s σ H Q I h) fun c s1 e=>?_)
 cases c with
 |true=>exact isTrue_and_nil e
 |false=>exact e
theorem jP(ha:PT X a tA):PW X (.BoolOp .Or [a] pos) tA:=by
 intro wh ah s σ H Q I h
 refine isTrue_or (aV (ha ah s σ H Q I h) fun c s1 e=>?_)
 cases c with
 |false=>exact isTrue_or_nil e
 |true=>exact e
theorem qA(ha:PT X a tA)(hb:PW X (.BoolOp .And (b::qC) pos) M7):PW X (.BoolOp .And (a::b::qC) pos) (ax1 tA M7):=by
 intro wh ah s σ H Q I h
 refine isTrue_and (aV (ha ah s σ H _ I h) fun c s1 ⟨H1,I1,q1⟩=>?_)
 cases c with
 |true=>exact hb wh ah s1 σ H1 Q I1 q1
 |false=>exact⟨H1,I1,q1⟩
theorem ji(ha:PT X a tA)(hb:PW X (.BoolOp .Or (b::qC) pos) M7):PW X (.BoolOp .Or (a::b::qC) pos) (tOr tA M7):=by
 intro wh ah s σ H Q I h
 refine isTrue_or (aV (ha ah s σ H _ I h) fun c s1 ⟨H1,I1,q1⟩=>?_)
 cases c with
 |true=>exact⟨H1,I1,q1⟩
 |false=>exact hb wh ah s1 σ H1 Q I1 q1
theorem eT(ha:PT X a tA):PT X (.UnaryOp .Not a pos) (ayj tA):=by
 intro ah s σ H Q I h
 exact isTrue_not (ha ah s σ H (fun c H1=>Q (!c) H1) I h)
noncomputable def ax2(ta tb:TE):TE:=fun σ H Q=>ta σ H fun x H1=>∃c,x=.bl c/\if c=true then tb σ H1 Q else Q (.bl false) H1
noncomputable def ayl(ta tb:TE):TE:=fun σ H Q=>ta σ H fun x H1=>∃c,x=.bl c/\if c=true then Q (.bl true) H1 else tb σ H1 Q
noncomputable def ayk(ta:TE):TE:=fun σ H Q=>ta σ H fun x H1=>∃c,x=.bl c/\Q (.bl (!c)) H1
theorem iZ{op}{t:TE}(h:PE X a t):PE X (.BoolOp op [a] pos) t:=fun ah s σ H Q I hw=>BoolOp_one (h ah s σ H Q I hw)
theorem gO(ha:PE X a ta)(hb:PE X (.BoolOp .And (b::qC) pos) tb):PE X (.BoolOp .And (a::b::qC) pos) (ax2 ta tb):=by
 intro ah s σ H Q I h
 refine BoolOp_and (aV (ha ah s σ H _ I h) fun v s1 ⟨x,H1,I1,r1,q1⟩=>?_)
 obtain⟨c,rfl,q1⟩:=q1
 cases r1
 refine qZ ?_
 cases c with
 |true=>exact hb ah s1 σ H1 Q I1 q1
 |false=>exact⟨.bl false,H1,I1,rfl,q1⟩
theorem ajg(ha:PE X a ta)(hb:PE X (.BoolOp .Or (b::qC) pos) tb):PE X (.BoolOp .Or (a::b::qC) pos) (ayl ta tb):=by
 intro ah s σ H Q I h
 refine BoolOp_or (aV (ha ah s σ H _ I h) fun v s1 ⟨x,H1,I1,r1,q1⟩=>?_)
 obtain⟨c,rfl,q1⟩:=q1
 cases r1
 refine qZ ?_
 cases c with
 |false=>exact hb ah s1 σ H1 Q I1 q1
 |true=>exact⟨.bl true,H1,I1,rfl,q1⟩
theorem ajf(ha:PE X a ta):PE X (.UnaryOp .Not a pos) (ayk ta):=by
 intro ah s σ H Q I h
 refine UnaryOp_ (aV (ha ah s σ H _ I h) fun v s1 ⟨x,H1,I1,r1,q1⟩=>?_)
 obtain⟨c,rfl,q1⟩:=q1
 cases r1
 exact not_of (qZ ⟨.bl (!c),H1,I1,rfl,q1⟩)
noncomputable def tIf(t:TT)(ta tb:TE):TE:=fun σ H Q=>t σ H fun c H1=>if c=true then ta σ H1 Q else tb σ H1 Q
theorem aje{c:aZ}(hc:PT X c tA)(ha:PE X a ta)(hb:PE X b tb):PE X (.IfExp c a b pos) (tIf tA ta tb):=by
 intro ah s σ H Q I h
 refine wpAny_IfExp (aV (hc ah s σ H _ I h) fun d s1 ⟨H1,I1,q1⟩=>?_)
 cases d with
 |true=>exact ha ah s1 σ H1 Q I1 q1
 |false=>exact hb ah s1 σ H1 Q I1 q1
end
end L2
namespace L2
open PySem PySem.Spec PyProof.Rows
noncomputable def dO(K:bG)(H:Hp)(a:aa)(xs:List V):Prop:=
 Rd H a (.lst xs)\/
  ∃(o:Obj) (its:Array ao) (n:Nat),K.lookup a=some o/\o.cls=.type "list"/\o.dict=none/\o.data=.seq its n/\its.size<=aX/\bu xs its.toList
noncomputable def gc(K:bG)(H:Hp)(a:aa)(xs:List V):Prop:=
 Rd H a (.tup xs)\/
  ∃(o:Obj) (its:Array ao) (n:Nat),K.lookup a=some o/\o.cls=.type "tuple"/\o.data=.seq its n/\its.size<=aX/\bu xs its.toList
noncomputable def anf:ao->Option V
 | .none=>some .cF
 | .bool b=>some (.bl b)
 | .int i _=>some (.int i)
 | .str x _=>some (.str x)
 | .bytes b _=>some (.oZ b)
 | .float b _=>some (.flt b)
 | .ref a=>some (.ref a)
 | .type n=>some (.ty n)
 |_=>none
theorem RelV.abs{x:V}{u:ao}(r:RelV x u):anf u=some x:=by
 cases x with
 |cF=>cases r;rfl
 |bl _=>cases r;rfl
 |int _=>obtain⟨t,rfl⟩:=r;rfl
 |str _=>obtain⟨t,rfl⟩:=r;rfl
 |oZ _=>obtain⟨t,rfl⟩:=r;rfl
 |flt _=>obtain⟨t,rfl⟩:=r;rfl
 |ref _=>cases r;rfl
 |ty _=>cases r;rfl
theorem RelV.inj{x y:V}{u:ao}(r:RelV x u)(q:RelV y u):x=y:=cY (r.abs.symm.trans q.abs)
theorem bu.inj:∀ {xs ys:List V} {us:List ao},bu xs us->bu ys us->xs=ys
 |_,_,_,.nil,.nil=>rfl
 |_,_,_,.cons r t,.cons r' t'=>by rw[r.inj r',bu.inj t t']
section
variable{X:Cx}{ah:List (aa×Obj)}{σ:St}{H:Hp}{s:aB}{a:aa}{xs ys:List V}
theorem dO.of{K:bG}(h:H a=some (.lst xs)):dO K H a xs:=.inl (.inl h)
theorem gc.of{K:bG}(h:H a=some (.tup xs)):gc K H a xs:=.inl (.inl h)
theorem Inv.list(I:Inv X ah σ H s)(h:dO X.K H a xs):∃its:List ao,bu xs its/\PlainL s.heap a its.toArray/\xs.length<=sizeLine:=by
 rcases h with h | ⟨o,its,n,hk,hc,hd,hs,hz,r⟩
 ·obtain⟨z,its,n,r,e⟩:=h.ok I.hok
  exact⟨its,r,⟨_,n,e,rfl,rfl,rfl⟩,z⟩
 ·refine⟨its.toList,r,⟨o,n,I.gY a o hk,hc,hd,by simpa using hs⟩,?_⟩
  have e:=r.length
  simp only[lM]at e
  omega
theorem Inv.tuple(I:Inv X ah σ H s)(h:gc X.K H a xs):∃its:List ao,bu xs its/\IsTup s.heap a its.toArray/\xs.length<=sizeLine:=by
 rcases h with h | ⟨o,its,n,hk,hc,hs,hz,r⟩
 ·obtain⟨z,its,r,p⟩:=h.ok I.hok
  exact⟨its,r,p,z⟩
 ·refine⟨its.toList,r,⟨o,I.gY a o hk,hc,n,by simpa using hs⟩,?_⟩
  have e:=r.length
  simp only[lM]at e
  omega
theorem Inv.aqB(I:Inv X ah σ H s)(h:dO X.K H a xs)(h':dO X.K H a ys):xs=ys:=by
 obtain⟨its,r,⟨o,n,e,_,_,d⟩,_⟩:=I.list h
 obtain⟨its',r',⟨o',n',e',_,_,d'⟩,_⟩:=I.list h'
 rw[e]at e';cases e'
 rw[d]at d'
 injection d' with d1 _
 have:its=its':=by simpa using congrArg Array.toList d1
 subst this
 exact r.inj r'
theorem Inv.ayE(I:Inv X ah σ H s)(h:gc X.K H a xs)(h':gc X.K H a ys):xs=ys:=by
 obtain⟨its,r,⟨o,e,_,n,d⟩,_⟩:=I.tuple h
 obtain⟨its',r',⟨o',e',_,n',d'⟩,_⟩:=I.tuple h'
 rw[e]at e';cases e'
 rw[d]at d'
 injection d' with d1 _
 have:its=its':=by simpa using congrArg Array.toList d1
 subst this
 exact r.inj r'
end
noncomputable abbrev Cx.tZ(X:Cx)(E:ao->aB->Prop):Cx:={X with xe:=E}
noncomputable abbrev Cx.Cn(X:Cx):Cx:=X.tZ fun _ _=>False
theorem Cx.Ok.tZ{X:Cx}(ok:X.Ok)(E:ao->aB->Prop):(X.tZ E).Ok:=
 ⟨ok.mod,ok.kind,ok.glob,ok.blt,ok.above,ok.inj,ok.has,ok.DU,ok.hd,ok.frames,ok.stk,ok.D6,ok.bs,ok.rQ,ok.Cm,ok.Bp,ok.o9,ok.zR⟩
theorem Cx.Ok.yW{X:Cx}{E:ao->aB->Prop}(ok:(X.tZ E).Ok):X.Ok:=
 ⟨ok.mod,ok.kind,ok.glob,ok.blt,ok.above,ok.inj,ok.has,ok.DU,ok.hd,ok.frames,ok.stk,ok.D6,ok.bs,ok.rQ,ok.Cm,ok.Bp,ok.o9,ok.zR⟩
section
variable{X:Cx}{ah:List (aa×Obj)}{σ:St}{H:Hp}{s:aB}{E:ao->aB->Prop}
theorem Inv.tZ(I:Inv X ah σ H s)(E:ao->aB->Prop):Inv (X.tZ E) ah σ H s:=⟨I.ok.tZ E,I.os,I.bare,I.base,I.loc,I.cell,I.free,I.kK,I.pin,I.hok,I.len⟩
theorem Inv.yW(I:Inv (X.tZ E) ah σ H s):Inv X ah σ H s:=⟨I.ok.yW,I.os,I.bare,I.base,I.loc,I.cell,I.free,I.kK,I.pin,I.hok,I.len⟩
theorem SP.yW{D:Ends}{f:Flow}{s':aB}(h:SP (X.tZ E) ah D f s'):SP X ah D f s':=by
 cases f with
 |next=>obtain⟨σ',H',I,q⟩:=h;exact⟨σ',H',I.yW,q⟩
 |brk=>obtain⟨σ',H',I,q⟩:=h;exact⟨σ',H',I.yW,q⟩
 |cont=>obtain⟨σ',H',I,q⟩:=h;exact⟨σ',H',I.yW,q⟩
 |ret u=>obtain⟨v,σ',H',I,r,q⟩:=h;exact⟨v,σ',H',I.yW,r,q⟩
theorem jt.Cn{st:List iT}{t:TS}(h:jt X.Cn st t):jt X st t:=fun ah s σ H D I hw=>
 iP (h ah s σ H D (I.tZ _) hw) (fun _ _ q=>q.yW) fun _ _ z=>jT z
end
section
variable{X:Cx}{st:iT}{qC:List iT}{t u:TS}{e:aZ}{te:TE}{pos:Pos}
noncomputable def aaH:TS:=fun D σ H=>D.nx σ H
noncomputable def CK(t u:TS):TS:=fun D σ H=>t {D with nx:=u D} σ H
theorem b8:jt X [] aaH:=fun _ _ σ H _ I h=>aaY ⟨σ,H,I,h⟩
theorem aH(h1:PS X st t)(h2:jt X qC u):jt X (st::qC) (CK t u):=by
 intro ah s σ H D I h
 refine wpAny_execs_cons (aV (h1 ah s σ H {D with nx:=u D} I h) fun f s1 q=>?_)
 cases f with
 |next=>
  obtain⟨σ',H',I',q⟩:=q
  exact h2 ah s1 σ' H' D I' q
 |ret v=>exact q
 |brk=>exact q
 |cont=>exact q
theorem aJ(h1:PS X st t):jt X [st] t:=by
 intro ah s σ H D I h
 refine wpAny_execs_cons (aV (h1 ah s σ H D I h) fun f s1 q=>?_)
 cases f with
 |next=>exact aaY q
 |ret v=>exact q
 |brk=>exact q
 |cont=>exact q
theorem Inv.quiet{ah:List (aa×Obj)}{σ:St}{H:Hp}{s:aB}(I:Inv X ah σ H s):interactive X.env=false:=by simp[interactive,I.ok.kind]
noncomputable def ax9(te:TE):TS:=fun D σ H=>te σ H fun _ H1=>D.nx σ H1
theorem fX(he:PE X e te)(hs:M5 e none pos.line X.env=pure false:=by rfl):PS X (.Expr e pos) (ax9 te):=by
 intro ah s σ H D I h
 exact wpAny_Expr_any (aV (he ah s σ H _ I h) fun v s1 ⟨x,H1,I1,r1,q1⟩=>⟨σ,H1,I1,q1⟩) I.quiet hs
noncomputable def ayo(te:TE):TS:=fun D σ H=>te σ H D.rt
theorem aY(he:PE X e te):PS X (.Return (some e) pos) (ayo te):=by
 intro ah s σ H D I h
 exact wpAny_Return_some (aV (he ah s σ H _ I h) fun v s1 ⟨x,H1,I1,r1,q1⟩=>⟨x,σ,H1,I1,r1,q1⟩)
noncomputable def ayb(c:TT)(t u:TS):TS:=fun D σ H=>c σ H fun b H1=>if b=true then t D σ H1 else u D σ H1
theorem bY{c:aZ}{a b:List iT}{tc:TT}(hc:PT X c tc)(ha:jt X a t)(hb:jt X b u):PS X (.If c a b pos) (ayb tc t u):=by
 intro ah s σ H D I h
 refine wpAny_If (aV (hc ah s σ H _ I h) fun d s1 ⟨H1,I1,q1⟩=>?_)
 cases d with
 |true=>exact ha ah s1 σ H1 D I1 q1
 |false=>exact hb ah s1 σ H1 D I1 q1
noncomputable def ayh:TS:=fun _ _ _=>False
theorem sR{sts:List iT}:jt X sts ayh:=fun _ _ _ _ _ _ h=>h.elim
end
noncomputable abbrev TG:=V->St->Hp->(St->Hp->Prop)->Prop
noncomputable abbrev xN:=List V->St->Hp->(St->Hp->Prop)->Prop
noncomputable def PG(X:Cx)(jm:aZ)(t:TG):Prop:=
 ∀(ah:List (aa×Obj)) (s:aB) (σ:St) (H:Hp) (v:V) (u:ao) (Q:St->Hp->Prop),Inv X ah σ H s->RelV v u->t v σ H Q->
  aK (aN X.prog X.w) X.A (uI jm X.env u) (fun _ s'=>∃σ' H',Inv X ah σ' H' s'/\Q σ' H') X.xe s
noncomputable def rK(X:Cx)(ts:List aZ)(t:xN):Prop:=
 ∀(ah:List (aa×Obj)) (s:aB) (σ:St) (H:Hp) (vs:List V) (us:List ao) (Q:St->Hp->Prop),Inv X ah σ H s->bu vs us->t vs σ H Q->
  aK (aN X.prog X.w) X.A (adJ ((xP ts X.env).map (·.2)) us) (fun _ s'=>∃σ' H',Inv X ah σ' H' s'/\Q σ' H') X.xe s
noncomputable abbrev Ox:=V->V->V->Hp->(Hp->Prop)->Prop
noncomputable def ach(X:Cx)(t:Ox):Prop:=
 ∀(ah:List (aa×Obj)) (s:aB) (σ:St) (H:Hp) (o i v:V) (ov iv u:ao) (Q:Hp->Prop),Inv X ah σ H s->RelV o ov->RelV i iv->RelV v u->t o i v H Q->
  aK (aN X.prog X.w) X.A (MS ov iv u) (fun _ s'=>∃H',Inv X ah σ H' s'/\Q H') X.xe s
section
variable{X:Cx}{pos:Pos}
noncomputable def Bs(i:Nat):TG:=fun v σ H Q=>Q (σ.set i (some v)) H
theorem cK{i:Nat}{x:Str}(hN:X.N.Nodup)(hi:X.N[i]?=some x)(hx:Loc X.env.scope x)(hf:X.fn x=true\/X.env.scope.names.lookup x=some .local:=by first | exact .inl rfl | exact .inr rfl | assumption):PG X (.Name x pos) (Bs i):=by
 intro ah s σ H v u Q I r h
 exact wpAny_assign_Name (M3 I hN hi hx r (fun s' I'=>⟨_,H,I',h⟩) hf)
noncomputable def aos:xN:=fun vs σ H Q=>vs=[]/\Q σ H
noncomputable def aor(t:TG)(u:xN):xN:=fun vs σ H Q=>∃v r,vs=v::r/\t v σ H fun σ' H'=>u r σ' H' Q
theorem qy:rK X [] aos:=by
 intro ah s σ H vs us Q I r h
 obtain⟨e,h⟩:=h
 subst e
 cases r
 exact assignInOrder_nil ⟨σ,H,I,h⟩
theorem i8{e:aZ}{es:List aZ}{t:TG}{u:xN}(h1:PG X e t)(h2:rK X es u)
  (hs:(xP (e::es) X.env).map (·.2)=uI e X.env::(xP es X.env).map (·.2):=by rfl):rK X (e::es) (aor t u):=by
 intro ah s σ H vs us Q I r h
 obtain⟨v,vr,e1,h⟩:=h
 subst e1
 cases r with
 |cons r rr=>
  rw[hs]
  refine adK (aV (h1 ah s σ H _ _ _ I r h) fun _ s1 ⟨σ1,H1,I1,q1⟩=>?_)
  exact h2 ah s1 σ1 H1 _ _ Q I1 rr q1
noncomputable def agN(K:bG)(n:Nat)(t:xN):TG:=fun v σ H Q=>∃a xs,v=.ref a/\gc K H a xs/\xs.length=n/\t xs σ H Q
theorem yN{es:List aZ}{k:Nat}{t:xN}{n:Nat}(hc:X.calm=true)(h:rK X es t)
  (hn:(xP es X.env).length=n:=by rfl) (eY:(xP es X.env).findIdx? (·.1)=none:=by rfl):PG X (.Tuple es k pos) (agN X.K n t):=by
 intro ah s σ H v u Q I r hw
 obtain⟨a,xs,e1,hq,hl,hw⟩:=hw
 subst e1
 cases r
 obtain⟨its,rv,ht,hz⟩:=I.tuple hq
 refine assign_Tuple_tuple (I.ok.hd hc) ht (by simp[hn,<- hl,rv.length]) eY fun h' hx=>?_
 have I1:Inv X ah σ H {s with heap:=h'}:=I.kept (t':=s.toks) fun b o e=>hx b o (dw (bV e)) e
 exact h ah _ σ H xs _ Q I1 (by simpa using rv) hw
noncomputable def aot(to ti:TE)(t:Ox):TG:=fun v σ H Q=>to σ H fun o H1=>ti σ H1 fun i H2=>t o i v H2 fun H3=>Q σ H3
theorem Gb{o i:aZ}{to ti:TE}{t:Ox}(ho:PE X o to)(hi:PE X i ti)(hs:ach X t)
  (ha:∀v,uI (.Subscript o i pos) X.env v=(do
   let ov <- BL [v] (eval o X.env)
   let iv <- BL [v,ov] (eval i X.env)
   Hy pos
   BL [v,ov,iv] (MS ov iv v)
   release [v,ov,iv] []):=by intro _;rfl):PG X (.Subscript o i pos) (aot to ti t):=by
 intro ah s σ H v u Q I r h
 rw[ha]
 refine aF (jS (aV (ho ah s σ H _ I h) fun ov s1 ⟨x,H1,I1,r1,q1⟩=>?_))
 refine aF (jS (aV (hi ah s1 σ H1 _ I1 q1) fun iv s2 ⟨y,H2,I2,r2,q2⟩=>?_))
 refine aF (CU (aF (jS (aV (hs ah s2 σ H2 x y v ov iv u _ I2 r1 r2 r q2) fun _ s3 ⟨H3,I3,q3⟩=>?_))))
 exact wpAny_release ⟨σ,H3,I3,q3⟩
noncomputable def M6(te:TE)(g:TG):TS:=fun D σ H=>te σ H fun x H1=>g x σ H1 D.nx
theorem Ge{tg e:aZ}{te:TE}{g:TG}(he:PE X e te)(hg:PG X tg g)(hs:ak4 [tg] e pos.line X.env=pure false:=by rfl)(hw:ak0 [tg] e X.env=pure none:=by rfl)
  (h1:(xP [tg] X.env).map (·.2)=[uI tg X.env]:=by rfl):PS X (.Assign [tg] e pos) (M6 te g):=by
 intro ah s σ H D I h
 refine wpAny_Assign_stores (aV (he ah s σ H _ I h) fun v s1 ⟨x,H1,I1,r1,q1⟩=>?_) hs hw
 rw[h1]
 exact aV (hg ah s1 σ H1 x v _ I1 r1 q1) fun _ s2 q=>q
theorem bR{i:Nat}{x:Str}{e:aZ}{te:TE}{yO:Pos}(hN:X.N.Nodup)(hi:X.N[i]?=some x)(hx:Loc X.env.scope x)(he:PE X e te)(hs:M5 e (some (.Name x yO)) pos.line X.env=pure false:=by rfl)(hf:X.fn x=true\/X.env.scope.names.lookup x=some .local:=by first | exact .inl rfl | exact .inr rfl | assumption) :
  PS X (.Assign [.Name x yO] e pos) (M6 te (Bs i)):=by
 intro ah s σ H D I h
 refine wpAny_Assign_Name (aV (he ah s σ H _ I h) fun v s1 ⟨y,H1,I1,r1,q1⟩=>?_) hs
 exact M3 I1 hN hi hx r1 (fun s2 I2=>⟨_,H1,I2,q1⟩) hf
noncomputable def aym(i j:Nat)(ta:TA):TS:=fun D σ H=>ta σ H fun vs H1=>∃v w,vs=[v,w]/\D.nx ((σ.set i (some v)).set j (some w)) H1
theorem Mw{i j:Nat}{x y:Str}{a b:aZ}{ta:TA}{px py pt:Pos}{kt k2 Z5}(hc:X.calm=true)(hN:X.N.Nodup)(hi:X.N[i]?=some x)(hj:X.N[j]?=some y)(je:i≠j)
  (hx:X.env.scope.names.lookup x=some .local) (hy:X.env.scope.names.lookup y=some .local) (ha:PA X [a,b] ta)
  (hw:ak0 [.Tuple [.Name x px,.Name y py] kt pt] (.Tuple [a,b] k2 Z5) X.env=pure (some [x,y]))
  (hs:ak4 [.Tuple [.Name x px,.Name y py] kt pt] (.Tuple [a,b] k2 Z5) pos.line X.env=pure false:=by rfl) :
  PS X (.Assign [.Tuple [.Name x px,.Name y py] kt pt] (.Tuple [a,b] k2 Z5) pos) (aym i j ta):=by
 intro ah s σ H D I h
 rw[exec_Assign_arm]
 refine aF (CU ?_)
 rw[hs]
 refine aF (bJ ?_)
 rw[if_neg (by decide)]
 refine aF (Tuple_ (aV (ha _ ah s σ H _ I h) fun us s1 ⟨vs,H1,I1,r1,q1⟩=>?_))
 obtain⟨v,w,e1,q1⟩:=q1
 subst e1
 obtain⟨u1,u2,rfl,rv,kW⟩:∃u1 u2,us=[u1,u2]/\RelV v u1/\RelV w u2:=by
  cases r1 with
  |cons p q=>
   cases q with
   |cons p' q'=>
    cases q'
    exact⟨_,_,rfl,p,p'⟩
 refine aaZ ?_ (by show 2<=aX;decide)
 have I2:Inv X ah σ H1 {s1 with heap:=s1.heap.push {cls:=.type "tuple",data:=.seq [u1,u2].toArray}}:=I1.kept (t':=s1.toks) fun b o e=>cM _ e
 rw[hw]
 refine aF (bJ ?_)
 show aK (aN X.prog X.w) X.A (do rule "assign.swapped-stores";let items <- unpackItems (.ref s1.heap.objs.size) 2 none;adJ [fun v=>Pc X.env y v,fun v=>Pc X.env x v] items.reverse;pure Flow.next) _ _ _
 refine aF (qY (aF (unpackItems_tuple (items:=#[u1,u2]) (I.ok.hd hc) (IsTup.new s1.heap _) fun h' qi=>?_)))
 have I3:=I2.kept (h':=h') (t':=s1.toks) fun b o e=>qi b o (dw (bV e)) e
 show aK _ _ (adJ [fun v=>Pc X.env y v,fun v=>Pc X.env x v] [u2,u1] >>= fun _=>pure Flow.next) _ _ _
 refine aF (adK (wpAny_bindName (M3 I3 hN hj (.inl hy) kW (fun s2 I4=>?_) (.inr hy))))
 refine adK (wpAny_bindName (M3 I4 hN hi (.inl hx) rv (fun s3 I5=>assignInOrder_nil (bJ ?_)) (.inr hx)))
 rw[List.set_comm _ _ (dB je)]at I5
 exact⟨_,H1,I5,q1⟩
end
section
variable{X:Cx}{pos:Pos}
noncomputable def ak9(c:TT)(tb:TS):TS:=fun D σ H=>∃W:Nat->St->Hp->Prop,(∃m,W m σ H)/\∀m σ H,W m σ H->
 c σ H fun b H1=>if b=true then ∃N:St->Hp->Prop,(∀σ' H',N σ' H'->∃m',m'<m/\W m' σ' H')/\tb {D with nx:=N,ct:=N,bk:=D.nx} σ H1 else D.nx σ H1
theorem auG{c:aZ}{body:List iT}{tc:TT}{tb:TS}(hp:PassesOwn (aN X.prog X.w) X.A X.env X.xe)(hc:PT X c tc)(hb:jt X body tb):PS X (.While c body [] pos) (ak9 tc tb):=by
 intro ah s σ H D I h
 obtain⟨W,⟨m0,w0⟩,qQ⟩:=h
 refine wpAny_While (codeAny_whileLoop (fun n s'=>∃σ' H',Inv X ah σ' H' s'/\W n σ' H') ?_ m0 ⟨σ,H,I,w0⟩)
 rintro n s1 ⟨σ1,H1,I1,w1⟩
 refine CT hp (aV (hc ah s1 σ1 H1 _ I1 (qQ n σ1 H1 w1)) fun b s2 ⟨H2,I2,q2⟩=>?_)
 cases b with
 |true=>
  obtain⟨N,hN,q2⟩:=q2
  rw[if_pos rfl]
  refine CT hp (aV (hb ah s2 σ1 H2 _ I2 q2) fun f s3 q3=>?_)
  cases f with
  |next=>
   obtain⟨σ3,H3,I3,n3⟩:=q3
   obtain⟨m',hm,w3⟩:=hN σ3 H3 n3
   exact⟨m',hm,σ3,H3,I3,w3⟩
  |cont=>
   obtain⟨σ3,H3,I3,n3⟩:=q3
   obtain⟨m',hm,w3⟩:=hN σ3 H3 n3
   exact⟨m',hm,σ3,H3,I3,w3⟩
  |brk=>exact q3
  |ret v=>exact q3
 |false=>
  rw[if_neg gw]
  exact aaY ⟨σ1,H2,I2,q2⟩
end
structure It where
 go:Nat->Hp->Prop
 nG:Nat->Hp->V->Hp->Prop
 stop:Nat->Hp->Prop
noncomputable def iR(X:Cx)(ah:List (aa×Obj))(H:Hp)(b:aa):Prop:=
 H b=none/\b≠X.env.locals/\b∉X.fs/\(b∈X.ex\/X.s₀.heap.objs.size<=b)/\(∀x c,X.env.cells.lookup x=some c->c≠b)/\∀p∈X.pn++ah,p.1≠b
theorem Inv.p9{X:Cx}{ah:List (aa×Obj)}{σ:St}{H H':Hp}{s:aB}{b:aa}(I:Inv X ah σ H s)(hb:s.heap.objs.size<=b)(hn:H' b=none):iR X ah H' b:=by
 refine⟨hn,kE (gq I.lt hb),I.aq7 hb,.inr (fP I.sz hb),fun x c e z=>?_,fun p hp z=>?_⟩
 ·obtain⟨v,q⟩:=I.cell x c e
  exact absurd (gq q.lt (by rw[z];exact hb)) (mT _)
 ·exact absurd (gq (bV (I.pin p hp).1) (by rw[z];exact hb)) (mT _)
structure uE(P:cH)(w:cj)(K:bG)(tg:aZ)(J:It)(fp:List aa)(it:aa)(tn:Nat->bL->Prop):Prop where
 mem:it∈fp
 obj:∀i h,tn i h->∀b∈fp,∃o,h.get? b=some o/\∀v,o.data≠.cell v
 keep:∀i h h',tn i h->(∀b∈fp,∀o,h.get? b=some o->h'.get? b=some o)->tn i h'
 item:∀(X:Cx),X.prog=P->X.w=w->X.K=K->X.calm=true->∀(i:Nat) (ah:List (aa×Obj)) (s:aB) (σ:St) (H:Hp) (E:ao->aB->Prop),Inv X ah σ H s->(∀b∈fp,iR X ah H b)->tn i s.heap->J.go i H->
  aK (aN P w) X.A (qB (.ref it)) (fun r s1=>∃u,r=some u/\
   aK (aN P w) X.A (YW tg (.ref it) u) (fun _ s2=>∃x H',Inv X ah σ H' s2/\RelV x u/\J.nG i H x H'/\tn (i+1) s2.heap/\∀b∈fp,H' b=none) E s1) E s
 done:∀(X:Cx),X.prog=P->X.w=w->X.K=K->X.calm=true->∀(i:Nat) (ah:List (aa×Obj)) (s:aB) (σ:St) (H:Hp) (E:ao->aB->Prop),Inv X ah σ H s->(∀b∈fp,iR X ah H b)->tn i s.heap->J.stop i H->
  aK (aN P w) X.A (qB (.ref it)) (fun r s1=>r=none/\Inv X ah σ H s1) E s
 self:∀(A:cS) (i:Nat) (s:aB) (Q:ao->aB->Prop) (E:ao->aB->Prop),tn i s.heap->Q (.ref it) s->aK (aN P w) A (pyIter (.ref it)) Q E s
noncomputable abbrev TI:=St->Hp->(It->Hp->Prop)->Prop
noncomputable def PIE(X:Cx)(ah:List (aa×Obj))(σ:St)(tg:aZ)(R:It->Hp->Prop)(Ly:ao)(s2:aB):Prop:=
 ∃(it:aa) (fp:List aa) (tn:Nat->bL->Prop) (J:It) (H':Hp),Ly=.ref it/\Inv X ah σ H' s2/\uE X.prog X.w X.K tg J fp it tn/\tn 0 s2.heap/\(∀b∈fp,iR X ah H' b)/\R J H'
noncomputable def PI(X:Cx)(tg iter:aZ)(wi:TI):Prop:=
 ∀(ah:List (aa×Obj)) (s:aB) (σ:St) (H:Hp) (R:It->Hp->Prop),Inv X ah σ H s->wi σ H R->
  aK (aN X.prog X.w) X.A (eval iter X.env) (fun v s1=>aK (aN X.prog X.w) X.A (pyIter v) (PIE X ah σ tg R) X.xe s1) X.xe s
theorem KC{M:Model}{A:cS}{E:ao->aB->Prop}{s:aB}{tg:aZ}{it:aa}{u:ao}{o:Obj}{n:String}{vs:Array ao}{Q:Unit->aB->Prop}(ho:s.heap.get? it=some o)(hc:o.cls=.type n)(hd:o.data=.fields vs)
  (hn:["enumerate","zip","dict_itemiterator","dict_reverseitemiterator","odict_iterator","itertools.zip_longest","itertools.pairwise"].contains n=false) (hQ:Q () s):aK M A (YW tg (.ref it) u) Q E s:=by
 unfold YW
 cases tg<;>first
  |exact bJ hQ
  |(cases u<;>first
    |exact bJ hQ
    |(refine aF (wpAny_load ho ?_)
      rw[hc,hd]
      show aK M A (if(["enumerate","zip","dict_itemiterator","dict_reverseitemiterator","odict_iterator","itertools.zip_longest","itertools.pairwise"].contains n&&vs[0]? == some (Cz _))=true then _ else _) Q E s
      rw[if_neg (by intro h;rw[hn,iQ]at h;cases h)]
      exact bJ hQ))
noncomputable def rE(K:bG)(a:aa):It:=
 ⟨fun i H=>∃xs x,dO K H a xs/\xs[i]?=some x,fun i H x H'=>H'=H/\∀xs,dO K H a xs->xs[i]?=some x,fun i H=>∃xs,dO K H a xs/\xs.length<=i⟩
noncomputable def AY(K:bG)(a:aa):It:=
 ⟨fun i H=>∃xs x,gc K H a xs/\xs[i]?=some x,fun i H x H'=>H'=H/\∀xs,gc K H a xs->xs[i]?=some x,fun i H=>∃xs,gc K H a xs/\xs.length<=i⟩
noncomputable def uh(lo:Int)(n:Nat):It:=⟨fun i _=>i<n,fun i H x H'=>H'=H/\x=.int (lo+i),fun i _=>n<=i⟩
theorem ayH{P:cH}{w:cj}{K:bG}{tg:aZ}(a it:aa):uE P w K tg (rE K a) [it] it (fun i h=>h.IsListIter it a i) where
 mem:=by simp
 obj:=fun i h st b hb=>by
  have e:b=it:=by simpa using hb
  subst e
  obtain⟨o,e,c,d⟩:=st
  exact⟨o,e,fun v z=>by rw[d]at z;cases z⟩
 keep:=fun i h h' st k=>st.at fun o e=>k it (by simp) o e
 item:=by
  intro X hP hw hK hc i ah s σ H E I hf st hg
  subst hP hw hK
  obtain⟨xs,x,hq,hx⟩:=hg
  obtain⟨its,rv,p,hz⟩:=I.list hq
  obtain⟨u,hu,ru⟩:=rv.get hx
  obtain⟨f0,f1,f2,f3,f4,f5⟩:=hf it (by simp)
  refine wpAny_pyNext_list_item st p.isList (x:=u) (by simpa using hu) fun h' aU sb=>?_
  have I1:Inv X ah σ H {s with heap:=h'}:=I.turned (t':=s.toks) (fun b o hb e=>(sb.2 b hb).trans e) f0 f1 f3 f4 f5
  obtain⟨o,e,c,d⟩:=id aU
  exact⟨u,rfl,KC (s:={s with heap:=h'}) e c d (by decide) ⟨x,H,I1,ru,⟨rfl,fun ys hy=>by rw[I.aqB hy hq];exact hx⟩,aU,fun b hb=>(hf b hb).1⟩⟩
 done:=by
  intro X hP hw hK hc i ah s σ H E I hf st hg
  subst hP hw hK
  obtain⟨xs,hq,hx⟩:=hg
  obtain⟨its,rv,p,hz⟩:=I.list hq
  obtain⟨f0,f1,f2,f3,f4,f5⟩:=hf it (by simp)
  have hl:=rv.length
  exact wpAny_pyNext_list_end (I.ok.hd hc) st p.isList (by simp;omega) fun h' eb=>⟨rfl,I.turned (t':=s.toks) (fun b o hb e=>eb b o hb e) f0 f1 f3 f4 f5⟩
 self:=fun _ _ _ _ _ st h=>wpAny_pyIter_listiter st h
theorem ayJ{P:cH}{w:cj}{K:bG}{tg:aZ}(a it:aa):uE P w K tg (AY K a) [it] it (fun i h=>h.IsTupleIter it a i) where
 mem:=by simp
 obj:=fun i h st b hb=>by
  have e:b=it:=by simpa using hb
  subst e
  obtain⟨o,e,c,d⟩:=st
  exact⟨o,e,fun v z=>by rw[d]at z;cases z⟩
 keep:=fun i h h' st k=>st.at fun o e=>k it (by simp) o e
 item:=by
  intro X hP hw hK hc i ah s σ H E I hf st hg
  subst hP hw hK
  obtain⟨xs,x,hq,hx⟩:=hg
  obtain⟨its,rv,p,hz⟩:=I.tuple hq
  obtain⟨u,hu,ru⟩:=rv.get hx
  obtain⟨f0,f1,f2,f3,f4,f5⟩:=hf it (by simp)
  refine wpAny_pyNext_tuple_item st (show s.heap.IsTuple a its.toArray from p) (x:=u) (by simpa using hu) fun h' aU sb=>?_
  have I1:Inv X ah σ H {s with heap:=h'}:=I.turned (t':=s.toks) (fun b o hb e=>(sb.2 b hb).trans e) f0 f1 f3 f4 f5
  obtain⟨o,e,c,d⟩:=id aU
  exact⟨u,rfl,KC (s:={s with heap:=h'}) e c d (by decide) ⟨x,H,I1,ru,⟨rfl,fun ys hy=>by rw[I.ayE hy hq];exact hx⟩,aU,fun b hb=>(hf b hb).1⟩⟩
 done:=by
  intro X hP hw hK hc i ah s σ H E I hf st hg
  subst hP hw hK
  obtain⟨xs,hq,hx⟩:=hg
  obtain⟨its,rv,p,hz⟩:=I.tuple hq
  obtain⟨f0,f1,f2,f3,f4,f5⟩:=hf it (by simp)
  have hl:=rv.length
  exact wpAny_pyNext_tuple_end (I.ok.hd hc) st (show s.heap.IsTuple a its.toArray from p) (by simp;omega) fun h' eb=>⟨rfl,I.turned (t':=s.toks) (fun b o hb e=>eb b o hb e) f0 f1 f3 f4 f5⟩
 self:=fun _ _ _ _ _ st h=>wpAny_pyIter_tupleiter st h
theorem ayI{P:cH}{w:cj}{K:bG}{tg:aZ}(it:aa)(lo:Int)(n:Nat):uE P w K tg (uh lo n) [it] it (fun i h=>IsRangeIter h it (lo+(i:Nat)*1) ((n:Int)-(i:Nat)) 1) where
 mem:=by simp
 obj:=fun i h st b hb=>by
  have e:b=it:=by simpa using hb
  subst e
  exact⟨_,st,fun v z=>by
   have z':HW _=C1 v:=z
   cases z'⟩
 keep:=fun i h h' st k=>k it (by simp) _ st
 item:=by
  intro X hP hw hK hc i ah s σ H E I hf st hg
  subst hP hw hK
  obtain⟨f0,f1,f2,f3,f4,f5⟩:=hf it (by simp)
  have W:=Walks.range (prog:=X.prog) (w:=X.w) (I.ok.hd hc) it lo 1 n
  refine W.item i s _ _ hg st fun v h' tk hv aU kk=>?_
  obtain⟨t,rfl⟩:=hv
  have I1:Inv X ah σ H {s with heap:=h',toks:=tk}:=I.turned (fun b o hb e=>kk b o (by simpa using hb) e) f0 f1 f3 f4 f5
  refine⟨_,rfl,KC (s:={s with heap:=h',toks:=tk}) (n:="range_iterator") aU rfl rfl (by decide) ⟨.int (lo+i),H,I1,⟨t,?_⟩,⟨rfl,rfl⟩,aU,fun b hb=>(hf b hb).1⟩⟩
  rw[Int.mul_one]
 done:=by
  intro X hP hw hK hc i ah s σ H E I hf st hg
  subst hP hw hK
  obtain⟨f0,f1,f2,f3,f4,f5⟩:=hf it (by simp)
  exact wpAny_pyNext_range_end (I.ok.hd hc) st (by have:n<=i:=hg;omega) fun h' eb=>⟨rfl,I.turned (t':=s.toks) (fun b o hb e=>eb b o hb e) f0 f1 f3 f4 f5⟩
 self:=fun _ _ _ _ _ st h=>wpAny_pyIter_rangeiter st h
end L2
namespace L2
open PySem PySem.Spec PyProof.Rows
section
variable{X:Cx}{tg:aZ}
noncomputable def apZ(K:bG)(tl:TE):TI:=fun σ H R=>tl σ H fun x H1=>∃a,x=.ref a/\(∃xs,dO K H1 a xs)/\R (rE K a) H1
noncomputable def ap2(K:bG)(tl:TE):TI:=fun σ H R=>tl σ H fun x H1=>∃a,x=.ref a/\(∃xs,gc K H1 a xs)/\R (AY K a) H1
theorem gf{l:aZ}{tl:TE}(hl:PE X l tl):PI X tg l (apZ X.K tl):=by
 intro ah s σ H R I h
 refine aV (hl ah s σ H _ I h) fun v s1 ⟨x,H1,I1,r1,q1⟩=>?_
 obtain⟨a,e,⟨xs,hq⟩,q⟩:=q1
 subst e
 cases r1
 obtain⟨its,rv,p,hz⟩:=I1.list hq
 refine wpAny_pyIter_list p.isList ?_
 refine⟨s1.heap.objs.size,[s1.heap.objs.size],_,_,H1,rfl,I1.kept (t':=s1.toks) fun b o e=>cM _ e,ayH a _,⟨_,gn _ rfl,rfl,rfl⟩,fun b hb=>?_,q⟩
 have e:b=s1.heap.objs.size:=by simpa using hb
 subst e
 exact I1.p9 (br _) (I1.hok.fresh (br _))
theorem ZU{l:aZ}{tl:TE}(hl:PE X l tl):PI X tg l (ap2 X.K tl):=by
 intro ah s σ H R I h
 refine aV (hl ah s σ H _ I h) fun v s1 ⟨x,H1,I1,r1,q1⟩=>?_
 obtain⟨a,e,⟨xs,hq⟩,q⟩:=q1
 subst e
 cases r1
 obtain⟨its,rv,p,hz⟩:=I1.tuple hq
 refine wpAny_pyIter_tuple (show s1.heap.IsTuple a its.toArray from p) ?_
 refine⟨s1.heap.objs.size,[s1.heap.objs.size],_,_,H1,rfl,I1.kept (t':=s1.toks) fun b o e=>cM _ e,ayJ a _,⟨_,gn _ rfl,rfl,rfl⟩,fun b hb=>?_,q⟩
 have e:b=s1.heap.objs.size:=by simpa using hb
 subst e
 exact I1.p9 (br _) (I1.hok.fresh (br _))
theorem akr{ah:List (aa×Obj)}{σ:St}{H:Hp}{s:aB}{R:It->Hp->Prop}{E:ao->aB->Prop}{lo hi:Int}{t u v:Tok}{tk:Nat}(I:Inv X ah σ H s)(h1:-(2^62)<=lo)(h2:lo<2^62)(h3:-(2^62)<=hi)(h4:hi<2^62)
  (q:R (uh lo (hi-lo).toNat) H):aK (aN X.prog X.w) X.A (pyIter (.ref s.heap.objs.size)) (PIE X ah σ tg R) E {s with heap:=s.heap.push {cls:=.type "range",data:=.fields #[.int lo t,.int hi u,.int 1 v]},toks:=tk}:=by
 refine wpAny_pyIter_range (IsRange.new ..) (small_one h1 h2 h3 h4) ?_
 have I1:Inv X ah σ H {s with heap:=s.heap.push {cls:=.type "range",data:=.fields #[.int lo t,.int hi u,.int 1 v]},toks:=tk}:=I.kept fun b o e=>cM _ e
 refine⟨(s.heap.push {cls:=.type "range",data:=.fields #[.int lo t,.int hi u,.int 1 v]}).objs.size,[(s.heap.push {cls:=.type "range",data:=.fields #[.int lo t,.int hi u,.int 1 v]}).objs.size],_,_,H,rfl,
  I1.kept (t':=tk) fun b o e=>cM _ e,ayI _ lo (hi-lo).toNat,?_,fun b hb=>?_,q⟩
 ·have e1:lo+((0:Nat):Int)*1=lo:=by simp
  have e2:(((hi-lo).toNat:Nat):Int)-((0:Nat):Int)=Builtin.Range.rangeSize lo hi 1:=by rw[rangeSize_one];split<;>omega
  show IsRangeIter _ _ (lo+((0:Nat):Int)*1) ((((hi-lo).toNat:Nat):Int)-((0:Nat):Int)) 1
  rw[e1,e2]
  exact gn _ rfl
 ·have e:b=(s.heap.push {cls:=.type "range",data:=.fields #[.int lo t,.int hi u,.int 1 v]}).objs.size:=by simpa using hb
  subst e
  exact I1.p9 (br _) (I1.hok.fresh (br _))
noncomputable def ap0(ta:TA):TI:=fun σ H R=>ta σ H fun vs H1=>∃j:Int,vs=[.int j]/\-(2^62)<=j/\j<2^62/\R (uh 0 j.toNat) H1
noncomputable def ap1(ta:TA):TI:=fun σ H R=>ta σ H fun vs H1=>∃i j:Int,vs=[.int i,.int j]/\(-(2^62)<=i/\i<2^62/\-(2^62)<=j/\j<2^62)/\R (uh i (j-i).toNat) H1
theorem Cr{a:aZ}{ta:TA}{p pos:Pos}(hg:Gl X "range") (hm:X.mg "range" = none) (ha:PA X [a] ta) (hs:dR [a] X.env=[(false,eval a X.env)]:=by rfl):PI X tg (.Call (.Name "range" p) [a] [] pos) (ap0 ta):=by
 intro ah s σ H R I h
 refine Call_ (qo I hg hm boot_range (A7 (aV (ha pos ah s σ H _ I h) fun us s1 ⟨vs,H1,I1,r1,q1⟩=>?_) hs rfl))
 obtain⟨j,e,q1,q2,q⟩:=q1
 subst e
 cases r1 with
 |cons r rr=>
  cases rr
  obtain⟨t,rfl⟩:=r
  exact call_range_1 (akr I1 (by omega) (by omega) q1 q2 (by simpa using q))
theorem auv{a b:aZ}{ta:TA}{p pos:Pos}(hg:Gl X "range") (hm:X.mg "range" = none) (ha:PA X [a,b] ta) (hs:dR [a,b] X.env=[(false,eval a X.env),(false,eval b X.env)]:=by rfl) (BS:dR [b] X.env=[(false,eval b X.env)]:=by rfl) :
  PI X tg (.Call (.Name "range" p) [a,b] [] pos) (ap1 ta):=by
 intro ah s σ H R I h
 refine Call_ (qo I hg hm boot_range (A7 (aV (ha pos ah s σ H _ I h) fun us s1 ⟨vs,H1,I1,r1,q1⟩=>?_) (by rw[hs,BS]) (by rw[BS];rfl)))
 obtain⟨i,j,e,⟨q1,q2,q3,q4⟩,q⟩:=q1
 subst e
 cases r1 with
 |cons r rr=>
  cases rr with
  |cons r' rr=>
   cases rr
   obtain⟨t,rfl⟩:=r
   obtain⟨t',rfl⟩:=r'
   exact call_range_2 (akr I1 q1 q2 q3 q4 q)
noncomputable def aya(wi:TI)(g:TG)(tb:TS):TS:=fun D σ H=>wi σ H fun J H1=>∃W:Nat->Nat->St->Hp->Prop,(∃m,W 0 m σ H1)/\∀i m σ H,W i m σ H->
 (J.stop i H/\D.nx σ H)\/(J.go i H/\∃N:St->Hp->Prop,(∀σ' H',N σ' H'->∃m',m'<m/\W (i+1) m' σ' H')/\∀x H',J.nG i H x H'->g x σ H' fun σ2 H2=>tb {D with nx:=N,ct:=N,bk:=D.nx} σ2 H2)
noncomputable def Gc(fp:List aa)(h:bL):List (aa×Obj):=fp.filterMap fun b=>(h.get? b).map fun o=>(b,o)
theorem L5{fp:List aa}{h:bL}{b:aa}{o:Obj}(hb:b∈fp)(e:h.get? b=some o):(b,o)∈Gc fp h:=abV.mpr ⟨b,hb,by rw[e];rfl⟩
theorem ath{fp:List aa}{h:bL}{p:aa×Obj}(hp:p∈Gc fp h):p.1∈fp/\h.get? p.1=some p.2:=by
 obtain⟨b,hb,e⟩:=abV.mp hp
 cases q:h.get? b with
 |none=>rw[q]at e;cases e
 |some o=>
  rw[q]at e
  have e':(b,o)=p:=cY e
  subst e'
  exact⟨hb,q⟩
theorem Inv.pinned{ah:List (aa×Obj)}{σ:St}{H:Hp}{s:aB}{fp:List aa}(I:Inv X ah σ H s)(hf:∀b∈fp,iR X ah H b)(ho:∀b∈fp,∃o,s.heap.get? b=some o/\∀v,o.data≠.cell v):Inv X (ah++Gc fp s.heap) σ H s:=
 I.ajj fun p hp=>(lQ.mp hp).elim (fun z=>I.pin p (uq _ z)) fun z=>by
  obtain⟨hb,e⟩:=ath z
  obtain⟨f0,f1,f2,_⟩:=hf p.1 hb
  obtain⟨o,e',d⟩:=ho p.1 hb
  rw[e]at e';cases e'
  exact⟨e,f0,f1,f2,d⟩
theorem Inv.Nf{ah pl:List (aa×Obj)}{σ:St}{H:Hp}{s:aB}(I:Inv X (ah++pl) σ H s):Inv X ah σ H s:=I.ajj fun p hp=>I.pin p (uq _ (abU _ hp))
theorem iF{iter:aZ}{body:List iT}{wi:TI}{g:TG}{tb:TS}{pos:Pos}(hp:PassesOwn (aN X.prog X.w) X.A X.env X.xe)(hc:X.calm=true)(hi:PI X tg iter wi)(hg:PG X tg g)(hb:jt X body tb)
  (hs:∀x,foldedSetIterable iter X.env x=pure x:=by intro _;rfl):PS X (.For tg iter body [] pos) (aya wi g tb):=by
 intro ah s σ H D I h
 refine wpAny_For (aV (hi ah s σ H _ I h) fun v s1 h1=>aV h1 fun Ly s2 h2=>?_) hs
 obtain⟨it,fp,tn,J,H2,e,I2,T,jk,f2,W,⟨m0,w0⟩,qQ⟩:=h2
 subst e
 -- yX stays true of the iterator's objects through the LZ
 have aaz:∀ {H':Hp},(∀b∈fp,H' b=none)->∀b∈fp,iR X ah H' b:=fun hn b hb=>⟨hn b hb,(f2 b hb).2⟩
 refine codeAny_forLoop_any (fun n s'=>∃i σ' H',Inv X ah σ' H' s'/\tn i s'.heap/\(∀b∈fp,H' b=none)/\W i n σ' H') ?_ m0 ⟨0,σ,H2,I2,jk,fun b hb=>(f2 b hb).1,w0⟩
 rintro n s3 ⟨i,σ3,H3,I3,eU,fr3,w3⟩
 rcases qQ i n σ3 H3 w3 with⟨stop,qn⟩ | ⟨go,N,hN,step⟩
 ·refine CT hp (aV (T.done X rfl rfl rfl hc i ah s3 σ3 H3 X.xe I3 (aaz fr3) eU stop) fun r s4 ⟨hr,I4⟩=>?_)
  subst hr
  exact aaY ⟨σ3,H3,I4,qn⟩
 ·refine CT hp (aV (T.item X rfl rfl rfl hc i ah s3 σ3 H3 X.xe I3 (aaz fr3) eU go) fun r s4 ⟨u,hr,h4⟩=>?_)
  subst hr
  refine CT hp (aV h4 fun _ s5 ⟨x,H5,I5,r5,y5,cU,KA⟩=>?_)
  have I5':=I5.pinned (aaz KA) (T.obj _ _ cU)
  refine CT hp (aV (hg _ s5 σ3 H5 x u _ I5' r5 (step x H5 y5)) fun _ s6 ⟨σ6,H6,I6,q6⟩=>?_)
  refine CT hp (aV (hb _ s6 σ6 H6 _ I6 q6) fun f s7 q7=>?_)
  have again:∀ {σ7:St} {H7:Hp},Inv X (ah++Gc fp s5.heap) σ7 H7 s7->N σ7 H7->∃m,m<n/\∃i σ' H',Inv X ah σ' H' s7/\tn i s7.heap/\(∀b∈fp,H' b=none)/\W i m σ' H':=fun {σ7 H7} I7 n7=>by
   obtain⟨m',hm,w7⟩:=hN σ7 H7 n7
   refine⟨m',hm,i+1,σ7,H7,I7.Nf,T.keep _ _ _ cU fun b hb o e=>(I7.pin (b,o) (uq _ (uq _ (L5 hb e)))).1,fun b hb=>?_,w7⟩
   obtain⟨o,e,d⟩:=T.obj _ _ cU b hb
   exact(I7.pin (b,o) (uq _ (uq _ (L5 hb e)))).2.1
  cases f with
  |next=>obtain⟨σ7,H7,I7,n7⟩:=q7;exact again I7 n7
  |cont=>obtain⟨σ7,H7,I7,n7⟩:=q7;exact again I7 n7
  |brk=>obtain⟨σ7,H7,I7,q7⟩:=q7;exact⟨σ7,H7,I7.Nf,q7⟩
  |ret v=>obtain⟨x7,σ7,H7,I7,r7,q7⟩:=q7;exact⟨x7,σ7,H7,I7.Nf,r7,q7⟩
end
theorem nX{K:bG}{a:aa}{xs:List V}{g:TG}{tb:TS}{D:Ends}{σ:St}{H:Hp}(Pv:Nat->St->Hp->Prop)(h0:Pv 0 σ H)(hl:∀i σ H,i<=xs.length->Pv i σ H->dO K H a xs)
  (hs:∀i x σ H,xs[i]?=some x->Pv i σ H->g x σ H fun σ2 H2=>tb {D with nx:=Pv (i+1),ct:=Pv (i+1),bk:=D.nx} σ2 H2) (hd:∀σ H,Pv xs.length σ H->D.nx σ H) :
  ∃W:Nat->Nat->St->Hp->Prop,(∃m,W 0 m σ H)/\∀i m σ H,W i m σ H->
   ((rE K a).stop i H/\D.nx σ H)\/((rE K a).go i H/\∃N:St->Hp->Prop,(∀σ' H',N σ' H'->∃m',m'<m/\W (i+1) m' σ' H')/\∀x H',(rE K a).nG i H x H'->g x σ H' fun σ2 H2=>tb {D with nx:=N,ct:=N,bk:=D.nx} σ2 H2):=by
 refine⟨fun i m σ H=>m=xs.length-i/\i<=xs.length/\Pv i σ H,⟨xs.length,by simp,fz _,h0⟩,?_⟩
 rintro i m σ H ⟨rfl,hi,p⟩
 have q:=hl i σ H hi p
 by_cases bQ:i<xs.length
 ·refine .inr ⟨⟨xs,xs[i],q,by simp[bQ]⟩,Pv (i+1),fun σ' H' p'=>⟨xs.length-(i+1),by omega,rfl,bQ,p'⟩,fun x H' y=>?_⟩
  obtain⟨e,y⟩:=y
  subst e
  exact hs i x σ _ (y xs q) p
 ·have e:i=xs.length:=by omega
  subst e
  exact .inl ⟨⟨xs,q,br _⟩,hd σ H p⟩
theorem agA{K:bG}{a:aa}{xs:List V}{g:TG}{tb:TS}{D:Ends}{σ:St}{H:Hp}(Pv:Nat->St->Hp->Prop)(h0:Pv 0 σ H)(hl:∀i σ H,i<=xs.length->Pv i σ H->gc K H a xs)
  (hs:∀i x σ H,xs[i]?=some x->Pv i σ H->g x σ H fun σ2 H2=>tb {D with nx:=Pv (i+1),ct:=Pv (i+1),bk:=D.nx} σ2 H2) (hd:∀σ H,Pv xs.length σ H->D.nx σ H) :
  ∃W:Nat->Nat->St->Hp->Prop,(∃m,W 0 m σ H)/\∀i m σ H,W i m σ H->
   ((AY K a).stop i H/\D.nx σ H)\/((AY K a).go i H/\∃N:St->Hp->Prop,(∀σ' H',N σ' H'->∃m',m'<m/\W (i+1) m' σ' H')/\∀x H',(AY K a).nG i H x H'->g x σ H' fun σ2 H2=>tb {D with nx:=N,ct:=N,bk:=D.nx} σ2 H2):=by
 refine⟨fun i m σ H=>m=xs.length-i/\i<=xs.length/\Pv i σ H,⟨xs.length,by simp,fz _,h0⟩,?_⟩
 rintro i m σ H ⟨rfl,hi,p⟩
 have q:=hl i σ H hi p
 by_cases bQ:i<xs.length
 ·refine .inr ⟨⟨xs,xs[i],q,by simp[bQ]⟩,Pv (i+1),fun σ' H' p'=>⟨xs.length-(i+1),by omega,rfl,bQ,p'⟩,fun x H' y=>?_⟩
  obtain⟨e,y⟩:=y
  subst e
  exact hs i x σ _ (y xs q) p
 ·have e:i=xs.length:=by omega
  subst e
  exact .inl ⟨⟨xs,q,br _⟩,hd σ H p⟩
theorem En{lo:Int}{n:Nat}{g:TG}{tb:TS}{D:Ends}{σ:St}{H:Hp}(Pv:Nat->St->Hp->Prop)(h0:Pv 0 σ H)
  (hs:∀i σ H,i<n->Pv i σ H->g (.int (lo+i)) σ H fun σ2 H2=>tb {D with nx:=Pv (i+1),ct:=Pv (i+1),bk:=D.nx} σ2 H2) (hd:∀σ H,Pv n σ H->D.nx σ H) :
  ∃W:Nat->Nat->St->Hp->Prop,(∃m,W 0 m σ H)/\∀i m σ H,W i m σ H->
   ((uh lo n).stop i H/\D.nx σ H)\/((uh lo n).go i H/\∃N:St->Hp->Prop,(∀σ' H',N σ' H'->∃m',m'<m/\W (i+1) m' σ' H')/\∀x H',(uh lo n).nG i H x H'->g x σ H' fun σ2 H2=>tb {D with nx:=N,ct:=N,bk:=D.nx} σ2 H2):=by
 refine⟨fun i m σ H=>m=n-i/\i<=n/\Pv i σ H,⟨n,by simp,fz _,h0⟩,?_⟩
 rintro i m σ H ⟨rfl,hi,p⟩
 by_cases bQ:i<n
 ·refine .inr ⟨bQ,Pv (i+1),fun σ' H' p'=>⟨n-(i+1),by omega,rfl,bQ,p'⟩,fun x H' y=>?_⟩
  obtain⟨e,y⟩:=y
  subst e y
  exact hs i σ _ bQ p
 ·have e:i=n:=by omega
  subst e
  exact .inl ⟨br _,hd σ H p⟩
theorem ay'{c:TT}{tb:TS}{D:Ends}{σ:St}{H:Hp}(Pv:St->Hp->Prop)(μ:St->Hp->Nat)(h0:Pv σ H)
  (hs:∀σ H,Pv σ H->c σ H fun b H1=>if b=true then tb {D with nx:=fun σ' H'=>Pv σ' H'/\μ σ' H'<μ σ H,ct:=fun σ' H'=>Pv σ' H'/\μ σ' H'<μ σ H,bk:=D.nx} σ H1 else D.nx σ H1)
  (mono:∀σ H Q Q',(∀b H1,Q b H1->Q' b H1)->c σ H Q->c σ H Q'):ak9 c tb D σ H:=by
 refine⟨fun m σ H=>m=μ σ H/\Pv σ H,⟨_,rfl,h0⟩,?_⟩
 rintro m σ H ⟨rfl,p⟩
 refine mono σ H _ _ (fun b H1 q=>?_) (hs σ H p)
 cases b with
 |true=>exact⟨_,fun σ' H' ⟨p',l⟩=>⟨_,l,rfl,p'⟩,q⟩
 |false=>exact q
end L2
namespace L2
open PySem PySem.Spec PyProof.Rows
noncomputable abbrev R2:=V->V->Hp->VK->Prop
noncomputable def fQ(X:Cx)(f:ao->ao->Sem ao)(r:R2):Prop:=
 ∀(ah:List (aa×Obj)) (s:aB) (σ:St) (H:Hp) (x y:V) (v u:ao) (Q:VK),Inv X ah σ H s->RelV x v->RelV y u->r x y H Q->
  aK (aN X.prog X.w) X.A (f v u) (EP X ah σ Q) X.xe s
noncomputable def Oz(X:Cx)(f:ao->Sem ao)(r:V->Hp->VK->Prop):Prop:=
 ∀(ah:List (aa×Obj)) (s:aB) (σ:St) (H:Hp) (x:V) (v:ao) (Q:VK),Inv X ah σ H s->RelV x v->r x H Q->
  aK (aN X.prog X.w) X.A (f v) (EP X ah σ Q) X.xe s
noncomputable def jq(X:Cx)(f:ao)(r:List V->Hp->VK->Prop):Prop:=
 ∀(ah:List (aa×Obj)) (s:aB) (σ:St) (H:Hp) (xs:List V) (us:List ao) (Q:VK),Inv X ah σ H s->bu xs us->r xs H Q->
  aK (aN X.prog X.w) X.A (call f us) (EP X ah σ Q) X.xe s
noncomputable def M9(r:R2)(ta tb:TE):TE:=fun σ H Q=>ta σ H fun x H1=>tb σ H1 fun y H2=>r x y H2 Q
noncomputable def tUn(r:V->Hp->VK->Prop)(ta:TE):TE:=fun σ H Q=>ta σ H fun x H1=>r x H1 Q
noncomputable def rI(C:Int->Int->Prop)(g:Int->Int->V):R2:=fun x y H Q=>∃i j,x=.int i/\y=.int j/\C i j/\Q (g i j) H
noncomputable def yP(g:Int->Int->V):R2:=fun x y H Q=>∃i j,x=.int i/\y=.int j/\Q (g i j) H
noncomputable def rU(g:Int->V):V->Hp->VK->Prop:=fun x H Q=>∃i,x=.int i/\Q (g i) H
section
variable{X:Cx}{a b c:aZ}{ta tb tc:TE}{pos:Pos}
theorem Pb(ha:PE X a ta)(hb:PE X b tb){ah:List (aa×Obj)}{s:aB}{σ:St}{H:Hp}{R:V->V->Hp->Prop}(I:Inv X ah σ H s)
  (h:ta σ H fun x H1=>tb σ H1 fun y H2=>R x y H2) {Q:ao->aB->Prop} {f:ao->ao->Sem ao}
  (hf:∀v u s2 x y H2,Inv X ah σ H2 s2->RelV x v->RelV y u->R x y H2->aK (aN X.prog X.w) X.A (f v u) Q X.xe s2) :
  aK (aN X.prog X.w) X.A (eval a X.env) (fun v s₁=>aK (aN X.prog X.w) X.A (eval b X.env) (fun u s₂=>aK (aN X.prog X.w) X.A (f v u) Q X.xe s₂) X.xe s₁) X.xe s:=by
 refine aV (ha ah s σ H _ I h) fun v s1 ⟨x,H1,I1,r1,q1⟩=>?_
 refine aV (hb ah s1 σ H1 _ I1 q1) fun u s2 ⟨y,H2,I2,r2,q2⟩=>?_
 exact hf v u s2 x y H2 I2 r1 r2 q2
theorem bM{op:Operator}{r:R2}(ho:fQ X (zF op) r)(ha:PE X a ta)(hb:PE X b tb):PE X (.BinOp a op b pos) (M9 r ta tb):=by
 intro ah s σ H Q I h
 exact wpAny_BinOp (Pb ha hb I h fun v u s2 x y H2 I2 rx ry q=>ho ah s2 σ H2 x y v u Q I2 rx ry q)
theorem sO{op:UnaryOp}{r:V->Hp->VK->Prop}(ho:Oz X (unaryOp op) r)(ha:PE X a ta):PE X (.UnaryOp op a pos) (tUn r ta):=by
 intro ah s σ H Q I h
 exact UnaryOp_ (aV (ha ah s σ H _ I h) fun v s1 ⟨x,H1,I1,r1,q1⟩=>ho ah s1 σ H1 x v Q I1 r1 q1)
theorem ZL{f:ao->ao->Sem ao}{C:Int->Int->Prop}{g:Int->Int->Int}
  (rule:∀(i j:Int) (t u:Tok) (s:aB) (Q:ao->aB->Prop) (E:ao->aB->Prop),C i j->Q (.int (g i j) s.toks) {s with toks:=s.toks+1}->aK (aN X.prog X.w) X.A (f (.int i t) (.int j u)) Q E s) :
  fQ X f (rI C fun i j=>.int (g i j)):=by
 intro ah s σ H x y v u Q I rx ry h
 obtain⟨i,j,rfl,rfl,hc,q⟩:=h
 obtain⟨t,rfl⟩:=rx
 obtain⟨t',rfl⟩:=ry
 exact rule i j t t' s _ _ hc ⟨.int (g i j),H,I.tok _,⟨_,rfl⟩,q⟩
theorem ai9{f:ao->ao->Sem ao}{g:Int->Int->Int}
  (rule:∀(i j:Int) (t u:Tok) (s:aB) (Q:ao->aB->Prop) (E:ao->aB->Prop),Q (.int (g i j) s.toks) {s with toks:=s.toks+1}->aK (aN X.prog X.w) X.A (f (.int i t) (.int j u)) Q E s) :
  fQ X f (yP fun i j=>.int (g i j)):=by
 intro ah s σ H x y v u Q I rx ry h
 obtain⟨i,j,rfl,rfl,q⟩:=h
 obtain⟨t,rfl⟩:=rx
 obtain⟨t',rfl⟩:=ry
 exact rule i j t t' s _ _ ⟨.int (g i j),H,I.tok _,⟨_,rfl⟩,q⟩
theorem Mp{f:ao->ao->Sem ao}{g:Int->Int->Bool}
  (rule:∀(i j:Int) (t u:Tok) (s:aB) (Q:ao->aB->Prop) (E:ao->aB->Prop),Q (.bool (g i j)) s->aK (aN X.prog X.w) X.A (f (.int i t) (.int j u)) Q E s) :
  fQ X f (yP fun i j=>.bl (g i j)):=by
 intro ah s σ H x y v u Q I rx ry h
 obtain⟨i,j,rfl,rfl,q⟩:=h
 obtain⟨t,rfl⟩:=rx
 obtain⟨t',rfl⟩:=ry
 exact rule i j t t' s _ _ ⟨.bl (g i j),H,I,rfl,q⟩
noncomputable def alK(i j:Int):Prop:=0<j/\j<1073741824
noncomputable def Nu(i j:Int):Prop:=(-(2^64)<i/\i<2^64)\/(-(2^64)<j/\j<2^64)
theorem Nu.ok{i j:Int}(h:Nu i j):IntMulOk i j:=by
 rcases h with⟨h1,h2⟩ | ⟨h1,h2⟩
 ·exact .of_left (intBits_le_64 h1 h2)
 ·exact .of_right (intBits_le_64 h1 h2)
theorem g9:fQ X (zF .Add) (yP fun i j=>.int (i+j)):=ai9 fun _ _ _ _ _ _ _ q=>add_int q
theorem mF:fQ X (zF .Sub) (yP fun i j=>.int (i-j)):=ai9 fun _ _ _ _ _ _ _ q=>sub_int q
theorem oH:fQ X (zF .Mult) (rI Nu fun i j=>.int (i*j)):=ZL fun _ _ _ _ _ _ _ hc q=>mul_int q hc.ok
theorem Cp:fQ X (zF .FloorDiv) (rI alK fun i j=>.int (i/j)):=ZL fun i j _ _ _ _ _ hc q=>by
 have h1:(0:Int)<j:=hc.1
 have h2:j<1073741824:=hc.2
 exact floordiv_int (by omega) (by rw[Int.fdiv_eq_ediv_of_nonneg i (by omega)];exact q) (.inl (PyProof.noPylong_small (by omega)))
theorem qw:fQ X (zF .Mod) (rI (fun _ j=>0<j) fun i j=>.int (i%j)):=ZL fun i j _ _ _ _ _ hc q=>by
 have h1:(0:Int)<j:=hc
 exact mod_int' (by omega) (by rw[Int.fmod_eq_emod_of_nonneg i (by omega)];exact q)
theorem unI{f:ao->Sem ao}{g:Int->Int}
  (rule:∀(i:Int) (t:Tok) (s:aB) (Q:ao->aB->Prop) (E:ao->aB->Prop),Q (.int (g i) s.toks) {s with toks:=s.toks+1}->aK (aN X.prog X.w) X.A (f (.int i t)) Q E s) :
  Oz X f (rU fun i=>.int (g i)):=by
 intro ah s σ H x v Q I rx h
 obtain⟨i,rfl,q⟩:=h
 obtain⟨t,rfl⟩:=rx
 exact rule i t s _ _ ⟨.int (g i),H,I.tok _,⟨_,rfl⟩,q⟩
theorem tX:Oz X (unaryOp .USub) (rU fun i=>.int (-i)):=unI fun _ _ _ _ _ q=>neg_int q
end
noncomputable def akJ:V->V->Bool
 | .cF,.cF=>true | .cF,.int _=>true | .int _,.cF=>true | .cF,.bl _=>true | .bl _,.cF=>true | .cF,.str _=>true | .str _,.cF=>true
 | .int _,.int _=>true | .bl _,.bl _=>true | .str _,.str _=>true | .oZ _,.oZ _=>true
 | .int _,.str _=>true | .str _,.int _=>true | .bl _,.str _=>true | .str _,.bl _=>true
 |_,_=>false
noncomputable def rEq:R2:=fun x y H Q=>akJ x y=true/\Q (.bl (decide (x=y))) H
noncomputable def rNe:R2:=fun x y H Q=>akJ x y=true/\Q (.bl (!decide (x=y))) H
theorem agi{i j:Int}:decide (V.int i=V.int j)=(i == j):=by
 rw[rB]
 simp
theorem agf{i j:Bool}:decide (V.bl i=V.bl j)=(i == j):=by
 rw[rB]
 simp
theorem agj{i j:Str}:decide (V.str i=V.str j)=(i == j):=by
 rw[rB]
 simp
theorem agg{i j:Array UInt8}:decide (V.oZ i=V.oZ j)=(i.toList == j.toList):=by
 rw[rB]
 cases i
 cases j
 simp
section
variable{X:Cx}{a b c:aZ}{ta tb tc:TE}{pos:Pos}
theorem fB{ah:List (aa×Obj)}{σ:St}{H:Hp}{s:aB}{Q:VK}{k k':Bool}(I:Inv X ah σ H s)(q:Q (.bl k) H)(e:k=k'):EP X ah σ Q (.bool k') s:=by
 subst e
 exact⟨.bl k,H,I,rfl,q⟩
theorem gv:fQ X (jK .Eq) rEq:=by
 intro ah s σ H x y v u Q I rx ry h
 obtain⟨hs,q⟩:=h
 cases x with
 |cF=>
  cases rx
  cases y with
  |cF=>cases ry;exact PySem.EqNone.eq_none_none (fB I q (by simp))
  |bl j=>cases ry;exact PySem.EqNone.eq_none_bool (fB I q (by simp))
  |int j=>obtain⟨t',rfl⟩:=ry;exact PySem.EqNone.eq_none_int (fB I q (by simp))
  |str j=>obtain⟨t',rfl⟩:=ry;exact PySem.EqNone.eq_none_str (fB I q (by simp))
  |_=>exact absurd (show false=true from hs) gw
 |bl i=>
  cases rx
  cases y with
  |cF=>cases ry;exact PySem.EqNone.eq_bool_none (fB I q (by simp))
  |bl j=>cases ry;exact eq_bool (fB I q agf)
  |str j=>obtain⟨t',rfl⟩:=ry;exact PySem.EqMixed.eq_bool_str (fB I q (by simp))
  |_=>exact absurd (show false=true from hs) gw
 |int i=>
  obtain⟨t,rfl⟩:=rx
  cases y with
  |cF=>cases ry;exact PySem.EqNone.eq_int_none (fB I q (by simp))
  |int j=>obtain⟨t',rfl⟩:=ry;exact eq_int (fB I q agi)
  |str j=>obtain⟨t',rfl⟩:=ry;exact PySem.EqMixed.eq_int_str (fB I q (by simp))
  |_=>exact absurd (show false=true from hs) gw
 |str i=>
  obtain⟨t,rfl⟩:=rx
  cases y with
  |cF=>cases ry;exact PySem.EqNone.eq_str_none (fB I q (by simp))
  |bl j=>cases ry;exact PySem.EqMixed.eq_str_bool (fB I q (by simp))
  |int j=>obtain⟨t',rfl⟩:=ry;exact PySem.EqMixed.eq_str_int (fB I q (by simp))
  |str j=>obtain⟨t',rfl⟩:=ry;exact eq_str (fB I q agj)
  |_=>exact absurd (show false=true from hs) gw
 |oZ i=>
  obtain⟨t,rfl⟩:=rx
  cases y with
  |oZ j=>obtain⟨t',rfl⟩:=ry;exact PySem.W.eq_bytes (fB I q agg)
  |_=>exact absurd (show false=true from hs) gw
 |_=>cases y<;>exact absurd (show false=true from hs) gw
theorem pL:fQ X (jK .NotEq) rNe:=by
 intro ah s σ H x y v u Q I rx ry h
 obtain⟨hs,q⟩:=h
 cases x with
 |cF=>
  cases rx
  cases y with
  |cF=>cases ry;exact PySem.EqNone.ne_none_none (fB I q (by simp))
  |bl j=>cases ry;exact PySem.EqNone.ne_none_bool (fB I q (by simp))
  |int j=>obtain⟨t',rfl⟩:=ry;exact PySem.EqNone.ne_none_int (fB I q (by simp))
  |str j=>obtain⟨t',rfl⟩:=ry;exact PySem.EqNone.ne_none_str (fB I q (by simp))
  |_=>exact absurd (show false=true from hs) gw
 |bl i=>
  cases rx
  cases y with
  |cF=>cases ry;exact PySem.EqNone.ne_bool_none (fB I q (by simp))
  |bl j=>cases ry;exact ne_bool (fB I q (congrArg not agf))
  |str j=>obtain⟨t',rfl⟩:=ry;exact PySem.EqMixed.ne_bool_str (fB I q (by simp))
  |_=>exact absurd (show false=true from hs) gw
 |int i=>
  obtain⟨t,rfl⟩:=rx
  cases y with
  |cF=>cases ry;exact PySem.EqNone.ne_int_none (fB I q (by simp))
  |int j=>obtain⟨t',rfl⟩:=ry;exact ne_int (fB I q (congrArg not agi))
  |str j=>obtain⟨t',rfl⟩:=ry;exact PySem.EqMixed.ne_int_str (fB I q (by simp))
  |_=>exact absurd (show false=true from hs) gw
 |str i=>
  obtain⟨t,rfl⟩:=rx
  cases y with
  |cF=>cases ry;exact PySem.EqNone.ne_str_none (fB I q (by simp))
  |bl j=>cases ry;exact PySem.EqMixed.ne_str_bool (fB I q (by simp))
  |int j=>obtain⟨t',rfl⟩:=ry;exact PySem.EqMixed.ne_str_int (fB I q (by simp))
  |str j=>obtain⟨t',rfl⟩:=ry;exact ne_str (fB I q (congrArg not agj))
  |_=>exact absurd (show false=true from hs) gw
 |oZ i=>
  obtain⟨t,rfl⟩:=rx
  cases y with
  |oZ j=>obtain⟨t',rfl⟩:=ry;exact PySem.W.ne_bytes (fB I q (congrArg not agg))
  |_=>exact absurd (show false=true from hs) gw
 |_=>cases y<;>exact absurd (show false=true from hs) gw
theorem oG:fQ X (jK .Lt) (yP fun i j=>.bl (decide (i<j))):=Mp fun _ _ _ _ _ _ _ q=>lt_int q
theorem Mr:fQ X (jK .LtE) (yP fun i j=>.bl (decide (i<=j))):=Mp fun _ _ _ _ _ _ _ q=>le_int q
theorem mD:fQ X (jK .Gt) (yP fun i j=>.bl (decide (j<i))):=Mp fun _ _ _ _ _ _ _ q=>gt_int q
theorem aub:fQ X (jK .GtE) (yP fun i j=>.bl (decide (j<=i))):=Mp fun _ _ _ _ _ _ _ q=>ge_int q
theorem ajb:fQ X (jK .IsNot) (fun x y H Q=>y=.cF/\Q (.bl (!decide (x=.cF))) H):=by
 intro ah s σ H x y v u Q I rx ry h
 obtain⟨rfl,q⟩:=h
 cases ry
 refine isnot_none_gen (fB I q ?_)
 cases x<;>first
  |(cases rx;rfl)
  |(obtain⟨t,rfl⟩:=rx;rfl)
theorem bI(b:aZ){op:AM}(h:op≠.In:=by decide)(h2:op≠.NotIn:=by decide):behindInMarks op b=false:=by
 have e1:(op == CmpOp.In)=false:=by cases op<;>first | rfl | exact absurd rfl h
 have e2:(op == CmpOp.NotIn)=false:=by cases op<;>first | rfl | exact absurd rfl h2
 cases b<;>simp[behindInMarks,e1,e2]
theorem fW{op:AM}{r:R2}(ho:fQ X (jK op) r)(ha:PE X a ta)(hb:PE X b tb)(hm:behindInMarks op b=false):PE X (.Compare a [op] [b] pos) (M9 r ta tb):=by
 intro ah s σ H Q I h
 exact wpAny_Compare1 (Pb ha hb I h fun v u s2 x y H2 I2 rx ry q=>ho ah s2 σ H2 x y v u Q I2 rx ry q) hm
noncomputable def ak8(t:TE):TT:=fun σ H Q=>t σ H fun x H'=>∃k,x=.bl k/\Q k H'
theorem cG{op:AM}{r:R2}(ho:fQ X (jK op) r)(ha:PE X a ta)(hb:PE X b tb)(hm:behindInMarks op b=false):PT X (.Compare a [op] [b] pos) (ak8 (M9 r ta tb)):=by
 intro ah s σ H Q I h
 refine wpAny_isTrue_Compare1 (aV (ha ah s σ H _ I h) fun v s1 ⟨x,H1,I1,r1,q1⟩=>aV (hb ah s1 σ H1 _ I1 q1) fun u s2 ⟨y,H2,I2,r2,q2⟩=>
  aV (ho ah s2 σ H2 x y v u _ I2 r1 r2 q2) fun c s3 ⟨z,H3,I3,r3,k,e,q3⟩=>?_) hm
 subst e
 cases r3
 exact qZ ⟨H3,I3,q3⟩
noncomputable def ak6(r r':R2)(ta tb tc:TE):TE:=fun σ H Q=>ta σ H fun x H1=>tb σ H1 fun y H2=>r x y H2 fun z H3=>∃k,z=.bl k/\
 (if k=true then tc σ H3 fun w' H4=>r' y w' H4 Q else Q (.bl false) H3)
theorem auk{op As:AM}{r r':R2}(ho:fQ X (jK op) r)(oh:fQ X (jK As) r')(ha:PE X a ta)(hb:PE X b tb)(hc:PE X c tc)
  (hm:lastMarks [op,As] [b,c]=false:=by with_unfolding_all rfl):PE X (.Compare a [op,As] [b,c] pos) (ak6 r r' ta tb tc):=by
 intro ah s σ H Q I h
 refine Compare_chain (aV (ha ah s σ H _ I h) fun v s1 ⟨x,H1,I1,r1,q1⟩=>chain_link (aV (hb ah s1 σ H1 _ I1 q1) fun u s2 ⟨y,H2,I2,r2,q2⟩=>
  aV (ho ah s2 σ H2 x y v u _ I2 r1 r2 q2) fun d s3 ⟨z,H3,I3,r3,k,e,q3⟩=>?_)) hm
 subst e
 cases r3
 refine qZ ?_
 cases k with
 |false=>exact ite_ff ⟨.bl false,H3,I3,rfl,q3⟩
 |true=>exact ite_tt (chain_last (aV (hc ah s3 σ H3 _ I3 q3) fun w' s4 ⟨z',H4,I4,r4,q4⟩=>oh ah s4 σ H4 y z' u w' Q I4 r2 r4 q4))
theorem auH{op As:AM}{r r':R2}(ho:fQ X (jK op) r)(oh:fQ X (jK As) r')(ha:PE X a ta)(hb:PE X b tb)(hc:PE X c tc)
  (hm:lastMarks [op,As] [b,c]=false:=by with_unfolding_all rfl):PT X (.Compare a [op,As] [b,c] pos) (ak8 (ak6 r r' ta tb tc)):=by
 intro ah s σ H Q I h
 refine isTrue_chain (aV (ha ah s σ H _ I h) fun v s1 ⟨x,H1,I1,r1,q1⟩=>test_link (aV (hb ah s1 σ H1 _ I1 q1) fun u s2 ⟨y,H2,I2,r2,q2⟩=>
  aV (ho ah s2 σ H2 x y v u _ I2 r1 r2 q2) fun d s3 ⟨z,H3,I3,r3,k,e,q3⟩=>?_)) hm
 subst e
 cases r3
 refine qZ ?_
 cases k with
 |false=>
  obtain⟨k',e',q'⟩:=q3
  cases e'
  exact ite_ff ⟨H3,I3,q'⟩
 |true=>
  refine ite_tt (test_last (aV (hc ah s3 σ H3 _ I3 q3) fun w' s4 ⟨z',H4,I4,r4,q4⟩=>aV (oh ah s4 σ H4 y z' u w' _ I4 r2 r4 q4) fun d' s5 ⟨z2,H5,I5,r5,k2,e2,q5⟩=>?_))
  subst e2
  cases r5
  exact qZ ⟨H5,I5,q5⟩
theorem LW:(aX:Nat)<2^63:=by rw[tK];decide
theorem vals1{x:V}{us:List ao}(r:bu [x] us):∃u,us=[u]/\RelV x u:=by
 cases r with
 |cons r1 r2=>cases r2;exact⟨_,rfl,r1⟩
theorem vals2{x y:V}{us:List ao}(r:bu [x,y] us):∃u w',us=[u,w']/\RelV x u/\RelV y w':=by
 cases r with
 |cons r1 r2=>
  cases r2 with
  |cons r3 r4=>cases r4;exact⟨_,_,rfl,r1,r3⟩
theorem ant(hc:X.calm=true):jq X (.builtin "max") (fun xs H Q=>∃i j,xs=[.int i,.int j]/\Q (.int (if j>i then j else i)) H):=by
 intro ah s σ H xs us Q I r h
 obtain⟨i,j,rfl,q⟩:=h
 obtain⟨u,w',rfl,⟨t,rfl⟩,⟨t',rfl⟩⟩:=vals2 r
 refine max_two_ints (I.ok.hd hc) fun h' tk k=>⟨_,H,I.kept k,?_,q⟩
 by_cases hj:j>i
 ·rw[if_pos hj,if_pos hj];exact⟨_,rfl⟩
 ·rw[if_neg hj,if_neg hj];exact⟨_,rfl⟩
theorem QE(hc:X.calm=true):jq X (.builtin "min") (fun xs H Q=>∃i j,xs=[.int i,.int j]/\Q (.int (if j<i then j else i)) H):=by
 intro ah s σ H xs us Q I r h
 obtain⟨i,j,rfl,q⟩:=h
 obtain⟨u,w',rfl,⟨t,rfl⟩,⟨t',rfl⟩⟩:=vals2 r
 refine min_two_ints (I.ok.hd hc) fun h' tk k=>⟨_,H,I.kept k,?_,q⟩
 by_cases hj:j<i
 ·rw[if_pos hj,if_pos hj];exact⟨_,rfl⟩
 ·rw[if_neg hj,if_neg hj];exact⟨_,rfl⟩
end
structure zq(h:bL)(x dx C:aa)(mA:Str->Option ao):Prop where
 obj:h.get? x=some (zx C dx)
 ns:h.Ns1 dx mA
 ne:dx≠x
theorem aqF{h:bL}{dx:aa}{mA:Str->Option ao}(n:h.Ns1 dx mA):∃od,h.get? dx=some od/\∀name,Ot name od=some (mA name):=by
 obtain⟨o,es,ep,ho,hd,hk,_,hm⟩:=n
 refine⟨o,ho,fun name=>?_⟩
 have e:=hm name
 unfold nsFind findBy at e
 rw[<- Array.find?_toList]at e
 unfold Ot
 rw[hd]
 dsimp only
 split
 ·rename_i y q
  rw[q]at e
  exact congrArg some e
 ·rename_i q
  rw[q]at e
  have a:es.toList.any (·.refKey)=false:=by
   rw[List.any_eq_false]
   intro y hy
   obtain⟨z,t,EL⟩:=hk y (Array.mem_toList_iff.mp hy)
   simp[DictEntry.refKey,EL]
  have a':¬es.toList.any (·.refKey)=true:=by rw[a];exact gw
  rw[if_neg a']
  exact congrArg some e
theorem zq.look{h:bL}{x dx C:aa}{mA:Str->Option ao}(I:zq h x dx C mA):∃od,PySem.W.InstAt h x (zx C dx) C (some od)/\∀name,Ot name od=some (mA name):=
 let ⟨od,ho,hl⟩:=aqF I.ns
 ⟨od,⟨I.obj,rfl,rfl,ho⟩,hl⟩
section
variable{prog:cH}{w:cj}{A:cS}{E:ao->aB->Prop}{s:aB}{K:bG}{x dx C f:aa}{mA:Str->Option ao}{name:Str}{v:ao}
theorem get_map{expr:Bool}{Q:ao->aB->Prop}(X:K.In s.heap)(I:zq s.heap x dx C mA)(hg:uC K C name=true)(hh:xK K C=true)
  (ha:dN K (.ref C) name=some none) (hv:mA name=some v) (hv':am4 v=true) (h:Q v {s with toks:=s.toks+1}) :
  aK (aN prog w) A (getAttr (.ref x) name expr) Q E s:=by
 obtain⟨od,J,hl⟩:=I.look
 exact PySem.W.get_value X J (acw hg).1 (PySem.W.findObj_own hh ha rfl (by rw[hl,hv])) hv' h
theorem aou{pl:Sem Bool}{Q:ao×List ao->aB->Prop}(X:K.In s.heap)(I:zq s.heap x dx C mA)(hg:uC K C name=true)
  (hf:dN K (.ref C) name=some (some (.ref f))) (ht:lH K (.ref f)=true) (hv:mA name=none) (h:Q (.ref f,[.ref x]) s) :
  aK (aN prog w) A (UW (.ref x) name pl) Q E s:=by
 obtain⟨od,J,hl⟩:=I.look
 exact PySem.W.method_fn X J (acw hg).1 (acw hg).2 hf (beq_iff_eq.mp ht) (by show(Ot name od).map (·.isSome)=some false;rw[hl,hv];rfl) h
theorem avD{ns:List Str}{Q:Unit->aB->Prop}(X:K.In s.heap)(I:zq s.heap x dx C mA)
  (hs:dN K (.ref C) "__setattr__" = some (some (.builtin "object.__setattr__"))) (hp:zB K C=true) (ht:acz K C name=some none) (hh:xK K C=true)
  (hw:acB mA ns) (hsz:ns.length<=aX)
  (h:∀h',zq h' x dx C (fun y=>if y=name then some v else mA y)->Il dx s.heap h'->Q () {s with heap:=h',toks:=s.toks+2}) :
  aK (aN prog w) A (setAttr (.ref x) name v) Q E s:=by
 obtain⟨od,J,hl⟩:=I.look
 refine PySem.W.set_plain X J hs (PySem.W.osa_open (s:={s with toks:=s.toks+1}) (r:=none) X J hp ht fun b=>?_)
 obtain⟨cd,hc,zY⟩:=PySem.W.any_some hh
 have hx:s.heap.get? x=some ⟨.ref C,some dx,.plain,#[]⟩:=I.obj
 refine aF (bJ (aF (aF (wpAny_loadPart hx (aF (PySem.W.Looks.here (s:={s with toks:=s.toks+1}) (PySem.W.looks_clsIn X hc) ?_))))))
 rw[zY]
 refine bJ (a:=some dx) (aF (bJ (aF ?_)))
 refine wpAny_nsSet1 (s:={s with toks:=s.toks+1}) I.ns fun h' ER BS=>?_
 obtain⟨oD,esD,epD,hoD,hdD,hcD⟩:=ER.count (PySem.Within.cons name v hw)
 refine aF (wpAny_lookBehind hoD (by rw[hdD];exact pastItsLine_dict (fP hcD (by rw[gF];omega))) ?_)
 exact bJ (h _ ⟨(BS.2 _ (dB I.ne)).trans I.obj,ER,I.ne⟩ BS)
theorem aqJ{R:zC->aB->Prop}{vs:List ao}{kw:List (Str×ao)}(X:K.In s.heap)(hm:zy K C=true)
  (hi:dN K (.ref C) "__init__" = some (some (.ref f))) (hf:PySem.W.typeIn K (.ref f)=some (.type "function"))
  (h:mX (aN prog w) (A.under (.builtin "type.__call__" ⟨.ref C::vs,kw⟩)) (.call (.ref f) ⟨.ref (s.heap.objs.size+1)::vs,kw⟩) (PySem.W.InitBack (s.heap.objs.size+1) R)
   {s with heap:=(s.heap.push xJ).push (zx C s.heap.objs.size)}) :
  mX (aN prog w) A (.call (.ref C) ⟨vs,kw⟩) R s:=by
 obtain⟨hh,g,d,t,os⟩:=s
 exact PySem.W.make_core (PySem.W.makes_of X hm) (PySem.W.looks_findIn X hi) (fun self=>PySem.W.bind_fn X self hf) (.inl rfl) h
end
noncomputable def gP(f:Str)(v:V):List (Str×V)->List (Str×V)
 | []=>[(f,v)]
 |(g,x)::r=>if g=f then(g,v)::r else(g,x)::gP f v r
theorem ow(f g:Str)(v:V):∀fs:List (Str×V),(gP f v fs).lookup g=if g=f then some v else fs.lookup g
 | []=>by
  show zl g [(f,v)]=_
  by_cases h:g=f
  ·have hb:(g == f)=true:=beq_iff_eq.mpr h
   simp only[zl,hb,if_pos h]
  ·have hb:(g == f)=false:=beq_eq_false_iff_ne.mpr h
   simp only[zl,hb,if_neg h]
 |(k,x)::r=>by
  have ih:=ow f g v r
  rw[show gP f v ((k,x)::r)=(if k=f then(k,v)::r else(k,x)::gP f v r)from rfl]
  by_cases hk:k=f
  ·rw[if_pos hk]
   by_cases h:g=k
   ·have hb:(g == k)=true:=beq_iff_eq.mpr h
    simp only[zl,hb,if_pos (h.trans hk)]
   ·have hb:(g == k)=false:=beq_eq_false_iff_ne.mpr h
    simp only[zl,hb,if_neg (fun e:g=f=>h (e.trans hk.symm))]
  ·rw[if_neg hk]
   by_cases h:g=k
   ·have hb:(g == k)=true:=beq_iff_eq.mpr h
    simp only[zl,hb,if_neg (fun e:g=f=>hk (h.symm.trans e))]
   ·have hb:(g == k)=false:=beq_eq_false_iff_ne.mpr h
    simp only[zl,hb]
    exact ih
theorem XH(f:Str)(v:V):∀fs:List (Str×V),f∈(gP f v fs).map (·.1)/\∀g,g∈fs.map (·.1)->g∈(gP f v fs).map (·.1)
 | []=>⟨by simp[gP],fun g h=>by simp at h⟩
 |(k,x)::r=>by
  obtain⟨i1,i2⟩:=XH f v r
  rw[show gP f v ((k,x)::r)=(if k=f then(k,v)::r else(k,x)::gP f v r)from rfl]
  by_cases hk:k=f
  ·rw[if_pos hk]
   subst hk
   exact⟨by simp,fun g h=>by simpa using h⟩
  ·rw[if_neg hk]
   refine⟨?_,fun g h=>?_⟩
   ·rw[dM]
    exact iS _ i1
   ·rw[dM]at h ⊢
    rcases dY.mp h with e | e
    ·exact dY.mpr (.inl e)
    ·exact iS _ (i2 g e)
theorem aiH(f:Str)(v:V):∀fs:List (Str×V),(gP f v fs).length<=fs.length+1
 | []=>by simp[gP]
 |(k,x)::r=>by
  have ih:=aiH f v r
  rw[show gP f v ((k,x)::r)=(if k=f then(k,v)::r else(k,x)::gP f v r)from rfl]
  by_cases hk:k=f
  ·rw[if_pos hk,gF,gF];omega
  ·rw[if_neg hk,gF,gF];omega
theorem jX.some_of{v:V}{o:Option ao}(r:jX (some v) o):∃u,o=some u/\RelV v u:=by
 cases o with
 |none=>exact(show False from r).elim
 |some u=>exact⟨u,rfl,r⟩
theorem jX.none_of{o:Option ao}(r:jX none o):o=none:=by
 cases o with
 |none=>rfl
 |some u=>exact(show False from r).elim
theorem aoD{v:V}{u:ao}(r:RelV v u):am4 u=true:=by
 cases v with
 |cF=>cases(show u=lU from r);rfl
 |bl b=>cases(show u=uF b from r);rfl
 |int i=>obtain⟨t,e⟩:=(show ∃t,u=uG i t from r);cases e;rfl
 |str x=>obtain⟨t,e⟩:=(show ∃t,u=IT x t from r);cases e;rfl
 |oZ b=>obtain⟨t,e⟩:=(show ∃t,u=Value.bytes b t from r);cases e;rfl
 |flt b=>obtain⟨t,e⟩:=(show ∃t,u=acE b t from r);cases e;rfl
 |ref a=>cases(show u=cI a from r);rfl
 |ty n=>cases(show u=Be n from r);rfl
section
variable{P:cH}{w:cj}{H H':Hp}{h h':bL}{a C dx:aa}{fs fs':List (Str×V)}
theorem Lv(hok:eW P w H h)(e:H a=some (.ins C dx fs)):∃mA,zq h a dx C mA/\(∀f,jX (fs.lookup f) (mA f))/\acB mA (fs.map (·.1))/\fs.length<=1000/\H dx=some (.own a):=by
 obtain⟨d,z,ne,ob,mA,n,r,q⟩:=(show cD P w H h a (.ins C dx fs)from hok a _ e)
 exact⟨mA,⟨ob,n,ne⟩,r,q,z,d⟩
end
structure lB(K:bG)(C:aa):Prop where
 pg:uC K C Bc=true
 hd:xK K C=true
 po:zB K C=true
 sa:dN K (.ref C) "__setattr__" = some (some (.builtin "object.__setattr__"))
theorem lB.get{K:bG}{C:aa}(c:lB K C)(f:Str):uC K C f=true:=c.pg
noncomputable def nQ(K:bG)(C:aa)(f:Str):Prop:=dN K (.ref C) f=some none
theorem nQ.ayz{K:bG}{C:aa}{f:Str}(n:nQ K C f):acz K C f=some none:=by
 unfold acz
 rw[show dN K (.ref C) f=some none from n]
 rfl
structure pX(K:bG)(C:aa)(m:Str)(f:aa):Prop where
 at_:dN K (.ref C) m=some (some (.ref f))
 fn:lH K (.ref f)=true
 kp:bO K (.ref f)=true
section
variable{X:Cx}{ah:List (aa×Obj)}{σ:St}{H:Hp}{s:aB}{a C dx:aa}{fs:List (Str×V)}{f:Str}{v:V}{A:cS}{E:ao->aB->Prop}
theorem aow{b:Bool}{Q:ao->aB->Prop}(I:Inv X ah σ H s)(e:H a=some (.ins C dx fs))(c:lB X.K C)(n:nQ X.K C f)(l:fs.lookup f=some v)
  (h:∀u s',Inv X ah σ H s'->RelV v u->Q u s'):aK (aN X.prog X.w) A (getAttr (.ref a) f b) Q E s:=by
 obtain⟨mA,O,r,_,_,_⟩:=Lv I.hok e
 obtain⟨u,hu,ru⟩:=jX.some_of (v:=v) (o:=mA f) (by rw[<- l];exact r f)
 exact get_map I.gY O (c.get f) c.hd n hu (aoD ru) (h u _ (I.tok _) ru)
theorem agS{m:Str}{g:aa}{pl:Sem Bool}{Q:ao×List ao->aB->Prop}(I:Inv X ah σ H s)(e:H a=some (.ins C dx fs))(c:lB X.K C)(k:pX X.K C m g)(l:fs.lookup m=none)
  (h:Q (.ref g,[.ref a]) s):aK (aN X.prog X.w) A (UW (.ref a) m pl) Q E s:=by
 obtain⟨mA,O,r,_,_,_⟩:=Lv I.hok e
 have hn:mA m=none:=jX.none_of (by rw[<- l];exact r m)
 exact aou I.gY O (c.get m) k.at_ k.fn hn h
theorem avE{y:V}{u:ao}{Q:Unit->aB->Prop}(I:Inv X ah σ H s)(e:H a=some (.ins C dx fs))(c:lB X.K C)(n:nQ X.K C f)(hl:fs.length<1000)(ry:RelV y u)
  (h:∀s',Inv X ah σ (upd H a (.ins C dx (gP f y fs))) s'->Q () s'):aK (aN X.prog X.w) A (setAttr (.ref a) f u) Q E s:=by
 obtain⟨mA,O,r,wi,_,ho⟩:=Lv I.hok e
 have hz:(fs.map (·.1)).length<=sizeLine:=by rw[aC,tK];omega
 refine avD I.gY O c.sa c.po n.ayz c.hd wi hz fun h' O' sb=>h _ ?_
 have hd:∃o,h'.get? dx=some o:=let ⟨o,_,_,e',_⟩:=O'.ns;⟨o,e'⟩
 refine I.write (x:=a) (e:=dx) (by rw[e];exact rO) (.inr ho) (fun b q hb z=>(sb.2 b hb).trans z) hd ?_
 refine⟨by rw[aA O.ne];exact ho,?_,O.ne,O'.obj,_,O'.ns,fun g=>?_,fun g hg=>?_⟩
 ·have:=aiH f y fs;omega
 ·show jX ((gP f y fs).lookup g) (if g=f then some u else mA g)
  rw[ow]
  by_cases q:g=f
  ·rw[if_pos q,if_pos q];exact ry
  ·rw[if_neg q,if_neg q];exact r g
 ·by_cases q:g=f
  ·rw[q];exact(XH f y fs).1
  ·refine(XH f y fs).2 g (wi g fun z=>hg ?_)
   show(if g=f then some u else mA g)=none
   rw[if_neg q];exact z
theorem Inv.made(I:Inv X ah σ H s):Inv X ah σ (upd (upd H s.heap.objs.size (.own (s.heap.objs.size+1))) (s.heap.objs.size+1) (.ins C s.heap.objs.size []))
  {s with heap:=(s.heap.push xJ).push (zx C s.heap.objs.size)}:=by
 have e1:(s.heap.push xJ).get? s.heap.objs.size=some xJ:=gn s.heap rfl
 have e2:((s.heap.push xJ).push (zx C s.heap.objs.size)).get? (s.heap.objs.size+1)=some (zx C s.heap.objs.size):=by
  have:=gn (s.heap.push xJ) (o:=zx C s.heap.objs.size) rfl
  rwa[C8]at this
 have e3:(s.heap.push xJ).Ns s.heap.objs.size (fun _=>none):=⟨xJ,#[],_,e1,rfl,(fun e he=>absurd he (by simp)),fun _=>rfl⟩
 have I1:=I.laid (a:=s.heap.objs.size) (o:=.own (s.heap.objs.size+1)) (h':=s.heap.push xJ) (t':=s.toks) (fun b u q=>cM _ q) (br _) ⟨_,e1⟩
 refine I1.laid (a:=s.heap.objs.size+1) (o:=.ins C s.heap.objs.size []) (t':=s.toks) (fun b u q=>cM _ q) (Od (C8 _ _)) ?_
 have ne:s.heap.objs.size≠s.heap.objs.size+1:=dw (II _)
 refine⟨by rw[aA ne,au],fz _,ne,e2,fun _=>none,(Heap.Ns1.of_empty e3).at fun o q=>cM _ q,fun _=>rO,fun y hy=>absurd rfl hy⟩
theorem anm{prog:cH}{w:cj}{env:Env}{e:aZ}{f:Str}{pos:Pos}{s:aB}{Q:ao->aB->Prop}(hb:IV e f env (eval e env)=eval e env)
  (h:aK (aN prog w) A (eval e env) (fun o s₁=>aK (aN prog w) A (getAttr o f true) Q E s₁) E s):aK (aN prog w) A (eval (.Attribute e f pos) env) Q E s:=
 Attribute_any_ h (by rw[arm_eval_Attribute,hb])
end
noncomputable def ax'(K:bG)(ta:TE)(f:Str):TE:=fun σ H Q=>ta σ H fun x H1=>∃a C dx fs v,x=.ref a/\H1 a=some (.ins C dx fs)/\lB K C/\nQ K C f/\fs.lookup f=some v/\Q v H1
noncomputable def au5(K:bG)(ta tv:TE)(f:Str):TS:=fun D σ H=>tv σ H fun y H1=>ta σ H1 fun x H2=>∃a C dx fs,x=.ref a/\H2 a=some (.ins C dx fs)/\lB K C/\nQ K C f/\fs.length<1000/\
 D.nx σ (upd H2 a (.ins C dx (gP f y fs)))
section
variable{X:Cx}{o e value:aZ}{f:Str}{pos yO oM:Pos}{ta tv:TE}
theorem eK(he:PE X e ta)(hb:IV e f X.env (eval e X.env)=eval e X.env):PE X (.Attribute e f pos) (ax' X.K ta f):=by
 intro ah s σ H Q I h
 refine anm hb (aV (he ah s σ H _ I h) fun u s1 ⟨x,H1,I1,rx,a,C,dx,fs,v,ex,ea,c,n,l,q⟩=>?_)
 subst ex
 obtain rfl:u=cI a:=rx
 exact aow I1 ea c n l fun u' s2 I2 ru=>⟨v,H1,I2,ru,q⟩
theorem Au(ha:PE X o ta)(hv:PE X value tv)(hs:M5 value (some (.Attribute o f yO)) pos.line X.env=pure false):PS X (.Assign [.Attribute o f yO] value pos) (au5 X.K ta tv f):=by
 intro ah s σ H D I h
 refine plainObj_wpAny_Assign_Attribute (aV (hv ah s σ H _ I h) fun u s1 ⟨y,H1,I1,ry,q⟩=>aV (ha ah s1 σ H1 _ I1 q) fun ov s2 ⟨x,H2,I2,rx,a,C,dx,fs,ex,ea,c,n,l,q2⟩=>?_) hs
 subst ex
 obtain rfl:ov=cI a:=rx
 exact avE I2 ea c n l ry fun s3 I3=>⟨σ,_,I3,q2⟩
theorem azv{pl:Sem Bool}{m:Str}{jZ:Pos}{args:List aZ}{ah:List (aa×Obj)}{s:aB}{σ:St}{H:Hp}{Q:ao->aB->Prop}{te:TE}(he:PE X e te)(I:Inv X ah σ H s)
  (h:te σ H fun x H1=>∃a C dx fs g,x=.ref a/\H1 a=some (.ins C dx fs)/\lB X.K C/\pX X.K C m g/\fs.lookup m=none/\
   ∀s1,Inv X ah σ H1 s1->aK (aN X.prog X.w) X.A (callWith pos (.ref g) [.ref a] (jJ pos (dR args X.env)) (uJ pos (ve [] X.env))) Q X.xe s1)
  (ht:eval (.Call (.Attribute e m jZ) args [] pos) X.env=(do
   let ov <- eval e X.env
   Hy jZ.atName
   let (f,first) <- BL [ov] (UW ov m pl)
   callWith pos f first (jJ pos (dR args X.env)) (uJ pos (ve [] X.env)))) :
  aK (aN X.prog X.w) X.A (eval (.Call (.Attribute e m jZ) args [] pos) X.env) Q X.xe s:=by
 refine am7 (pl:=pl) (aV (he ah s σ H _ I h) fun u s1 ⟨x,H1,I1,rx,a,C,dx,fs,g,ex,ea,c,k,l,q⟩=>?_) ht
 subst ex
 obtain rfl:u=cI a:=rx
 exact agS I1 ea c k l (q s1 I1)
end
section
variable{X:Cx}{ah:List (aa×Obj)}{σ:St}{H:Hp}{s:aB}{A:cS}{E:ao->aB->Prop}{Q:ao->aB->Prop}{c:ao}{b:Bool}
inductive kF(K:bG)(H:Hp):V->ao->Prop where
 |cF:kF K H .cF (.type "NoneType")
 |bl (x:Bool):kF K H (.bl x) (.type "bool")
 |int (i:Int):kF K H (.int i) (.type "int")
 |str (x:Str):kF K H (.str x) (.type "str")
 |flt (x:UInt64):kF K H (.flt x) (.type "float")
 |lst {a:aa} {xs:List V} (e:H a=some (.lst xs)):kF K H (.ref a) (.type "list")
 |cC {a:aa} {o:Obj} {xs:List V} (e:H a=some (.cC o (.lst xs))):kF K H (.ref a) (.type "list")
 |tup {a:aa} {xs:List V} (e:H a=some (.tup xs)):kF K H (.ref a) (.type "tuple")
 |dK {a:aa} {kvs:List (Key×V)} (e:H a=some (.dK kvs)):kF K H (.ref a) (.type "dict")
 |dT {a:aa} {kvs:List (List Key×V)} (e:H a=some (.dT kvs)):kF K H (.ref a) (.type "dict")
 |ins {a C dx:aa} {fs:List (Str×V)} (e:H a=some (.ins C dx fs)) (cl:lB K C) (ha:dN K (.ref C) "__class__" = some (some (.builtin "object.__class__")))
   (hn:acy K (.builtin "object.__class__") "__get__" = some (some (.builtin "getset_descriptor.__get__"))) (htk:acA K (.builtin "object.__class__")=some true)
   (hm:zA K C (.type "object")=some true):kF K H (.ref a) (.ref C)
theorem aho{x:V}{u t:ao}(I:Inv X ah σ H s)(rx:RelV x u)(ty:kF X.K H x t)(e:bz X.K t c=some b)(h:∀tk,Q (.bool b) {s with toks:=tk}) :
  aK (aN X.prog X.w) A (call (.builtin "isinstance") [u,c]) Q E s:=by
 cases ty with
 |cF=>cases(show u=lU from rx);exact rM PySem.W.kitx_none I.gY rO e (fun z=>nomatch z) h
 |bl y=>cases(show u=uF y from rx);exact rM PySem.W.kitx_bool I.gY rO e (fun z=>nomatch z) h
 |int i=>obtain⟨t,q⟩:=(show ∃t,u=uG i t from rx);cases q;exact rM PySem.W.kitx_int I.gY rO e (fun z=>nomatch z) h
 |str y=>obtain⟨t,q⟩:=(show ∃t,u=IT y t from rx);cases q;exact rM PySem.W.kitx_str I.gY rO e (fun z=>nomatch z) h
 |flt y=>obtain⟨t,q⟩:=(show ∃t,u=acE y t from rx);cases q;exact rM PySem.W.kitx_float I.gY rO e (fun z=>nomatch z) h
 | @lst a xs ea=>
  cases(show u=cI a from rx)
  obtain⟨_,_,n,_,h1⟩:=(show cD X.prog X.w H s.heap a (.lst xs)from I.hok a _ ea)
  exact rM am6 I.gY ⟨_,h1,rfl⟩ e (fun z=>nomatch z) h
 | @cC a ob xs ea=>
  cases(show u=cI a from rx)
  obtain⟨_,_,_,n,_,h1⟩:=(show cD X.prog X.w H s.heap a (.cC ob (.lst xs))from I.hok a _ ea)
  exact rM am6 I.gY ⟨_,h1,rfl⟩ e (fun z=>nomatch z) h
 | @tup a xs ea=>
  cases(show u=cI a from rx)
  obtain⟨_,_,_,p⟩:=(show cD X.prog X.w H s.heap a (.tup xs)from I.hok a _ ea)
  obtain⟨o,h1,h2,_⟩:=p
  exact rM PySem.W.kitx_tuple I.gY ⟨o,h1,h2⟩ e (fun z=>nomatch z) h
 | @dK a kvs ea=>
  cases(show u=cI a from rx)
  obtain⟨_,_,vs,_,p⟩:=(show cD X.prog X.w H s.heap a (.dK kvs)from I.hok a _ ea)
  obtain⟨o,es,ep,h1,h2,_⟩:=p
  exact rM am5 I.gY ⟨o,h1,h2.1⟩ e (fun z=>nomatch z) h
 | @dT a kvs ea=>
  cases(show u=cI a from rx)
  obtain⟨_,_,xs,_,o,es,ep,h1,h2,_⟩:=(show cD X.prog X.w H s.heap a (.dT kvs)from I.hok a _ ea)
  exact rM am5 I.gY ⟨o,h1,h2.1⟩ e (fun z=>nomatch z) h
 | @ins a C dx fs ea cl ha hn htk hm=>
  cases(show u=cI a from rx)
  obtain⟨mA,O,_⟩:=Lv I.hok ea
  obtain⟨od,J,_⟩:=O.look
  exact rM (PySem.W.kitx_own (cl.get _) cl.hd ha hn htk hm) I.gY J e (fun z=>nomatch z) h
end
structure gr(k:Nat)(A:cS):Prop where
 hd:A.handled=none
 dp:A.depth+3*k+5<aku
 un:A.units+16*k+200<nU
theorem gr.mono{j k:Nat}{A:cS}(r:gr k A)(h:j<=k):gr j A:=⟨r.hd,by have:=r.dp;omega,by have:=r.un;omega⟩
theorem gr.deeper{k:Nat}{A:cS}(r:gr (k+1) A)(env:Env):gr k (A.deeper env):=
 ⟨r.hd,by have:=r.dp;show A.depth+1+3*k+5<_;omega,by have:=r.un;show A.units+3+16*k+200<_;omega⟩
theorem aqH{A:cS}{C:aa}{us:List ao}{kw:List (Str×ao)}:(A.under (.builtin "type.__call__" ⟨.ref C::us,kw⟩)).depth=A.depth+1:=by
 first | rfl | simp[abo,Code.weight,Code.isCreation,Code.isGuard,Code.isCaller,Code.frames,abx,guardIds]
theorem aqK{A:cS}{C:aa}{us:List ao}{kw:List (Str×ao)}:(A.under (.builtin "type.__call__" ⟨.ref C::us,kw⟩)).units=A.units+1:=by
 first | rfl | simp[abo,Code.cUnits,Code.frames,abx]
theorem gr.make{k:Nat}{A:cS}(r:gr (k+1) A)(C:aa)(us:List ao)(kw:List (Str×ao)):gr k (A.under (.builtin "type.__call__" ⟨.ref C::us,kw⟩)):=
 ⟨r.hd,by have:=r.dp;rw[aqH];omega,by have:=r.un;rw[aqK];omega⟩
theorem gr.depth{k:Nat}{A:cS}(r:gr k A):A.depth<recursionLimit:=by have:=r.dp;omega
theorem gr.units{k:Nat}{A:cS}(r:gr k A):A.units+64<cLine:=by have:=r.un;omega
noncomputable def M8:TA:=fun _ H Q=>Q [] H
noncomputable def aaG(ta:TE)(tr:TA):TA:=fun σ H Q=>ta σ H fun x H1=>tr σ H1 fun xs H2=>Q (x::xs) H2
section
variable{X:Cx}{e:aZ}{es:List aZ}{te:TE}{t:TA}{pos:Pos}
theorem aq:PA X [] M8:=fun _ _ _ _ H Q I h=>abw ⟨[],H,I,.nil,h⟩
theorem aj(ha:PE X e te)(hr:PA X es t)(hs:dR (e::es) X.env=(false,eval e X.env)::dR es X.env:=by rfl):PA X (e::es) (aaG te t):=by
 intro pos ah s σ H Q I h
 rw[hs]
 show aK _ _ (spliced ((false,eval e X.env)::jJ pos (dR es X.env))) _ _ s
 refine Nv (aV (ha ah s σ H _ I h) fun u s1 ⟨x,H1,I1,r1,q1⟩=>?_)
 exact aV (hr pos ah s1 σ H1 _ I1 q1) fun us s2 ⟨xs,H2,I2,r2,q2⟩=>⟨x::xs,H2,I2,.cons r1 r2,q2⟩
noncomputable def ayt(t:TA):TE:=fun σ H Q=>t σ H fun xs H1=>xs.length<=aX/\∀p,H1 p=none->Q (.ref p) (upd H1 p (.tup xs))
noncomputable def aye(t:TA):TE:=fun σ H Q=>t σ H fun xs H1=>xs.length<=aX/\∀p,H1 p=none->Q (.ref p) (upd H1 p (.lst xs))
theorem i6{x1}(h:PA X es t):PE X (.Tuple es x1 pos) (ayt t):=by
 intro ah s σ H Q I hq
 refine wpAny_Tuple_spliced (aV (h pos ah s σ H _ I hq) fun us s1 ⟨xs,H1,I1,r,z,q⟩=>⟨by rw[<- r.length];exact z,?_⟩)
 have hf:H1 s1.heap.objs.size=none:=I1.hok.fresh (br _)
 refine⟨.ref s1.heap.objs.size,upd H1 s1.heap.objs.size (.tup xs),I1.laid (t':=s1.toks) (fun b u e=>cM _ e) (br _) ?_,rfl,q _ hf⟩
 exact⟨z,us,r,⟨_,gn _ rfl,rfl,_,rfl⟩⟩
theorem dD(h:PA X es t):PE X (.List es pos) (aye t):=by
 intro ah s σ H Q I hq
 refine wpAny_List_spliced (aV (h pos ah s σ H _ I hq) fun us s1 ⟨xs,H1,I1,r,z,q⟩=>⟨by rw[<- r.length];exact z,?_⟩)
 have hf:H1 s1.heap.objs.size=none:=I1.hok.fresh (br _)
 refine⟨.ref s1.heap.objs.size,upd H1 s1.heap.objs.size (.lst xs),I1.laid (t':=s1.toks) (fun b u e=>cM _ e) (br _) ?_,rfl,q _ hf⟩
 exact⟨z,us,0,r,gn _ rfl⟩
end
noncomputable abbrev Sp:=List V->Hp->VK->XK->Prop
noncomputable abbrev rC:=List Env->Hp->aB->XK->ao->aB->Prop
structure yZ(P:cH)(w:cj)(K:bG)(mg:Str->Option ao)(base:bL)(A:cS)(outer:List Env)(s:aB)(H:Hp):Prop where
 frames:A.frames=some outer
 mod:Mod K mg base
 bs:∀b o,base.get? b=some o->s.heap.get? b=some o/\H b=none
 rQ:base.objs.size<=s.heap.objs.size
 o9:s.heap.FunFrames base outer
 zR:∀b∈qa outer,H b=none
 hok:eW P w H s.heap
 bare:xm s.gens
noncomputable def CE(outer:List Env)(P:cH)(w:cj)(H:Hp)(s:aB)(Q:VK)(u:ao)(s':aB):Prop:=
 ∃v H',s'.os=s.os/\xm s'.gens/\Un (qa outer) [] H H' s.heap s'.heap/\eW P w H' s'.heap/\RelV v u/\Q v H'
noncomputable def CR(CX:rC)(outer:List Env)(P:cH)(w:cj)(H:Hp)(s:aB)(Q:VK)(E:XK)(r:zC)(s':aB):Prop:=
 match r with
 | .ok (.ret u)=>CE outer P w H s Q u s'
 | .ok _=>False
 | .error e=>CX outer H s E e s'
structure bD(P:cH)(w:cj)(K:bG)(mg:Str->Option ao)(base:bL)(CX:rC)(k:Nat)(f:aa)(fd:bE)(ps:List Str)(sp:Sp):Prop where
 len:∀vs H Q E,sp vs H Q E->vs.length=ps.length
 run:∀(A:cS) (outer:List Env) (s:aB) (H:Hp) (args:Args) (us:List ao) (vs:List V) (Q:VK) (E:XK),gr k A->yZ P w K mg base A outer s H->CY s fd args (ps.zip us)->bu vs us->sp vs H Q E->
  mX (aN P w) A (.call (.ref f) args) (CR CX outer P w H s Q E) s
theorem bD.imp{P:cH}{w:cj}{K:bG}{mg:Str->Option ao}{base:bL}{CX:rC}{k:Nat}{f:aa}{fd:bE}{ps:List Str}{sp sp':Sp}(F:bD P w K mg base CX k f fd ps sp)
  (h:∀vs H Q E,sp' vs H Q E->sp vs H Q E):bD P w K mg base CX k f fd ps sp':=
 ⟨fun vs H Q E q=>F.len vs H Q E (h _ _ _ _ q),fun A outer s H args us vs Q E hr he hb hv hs=>F.run A outer s H args us vs Q E hr he hb hv (h _ _ _ _ hs)⟩
theorem yZ.make{P:cH}{w:cj}{K:bG}{mg:Str->Option ao}{base:bL}{A:cS}{outer:List Env}{s:aB}{H:Hp}(e:yZ P w K mg base A outer s H)(C:aa)(us:List ao)(kw:List (Str×ao)) :
  yZ P w K mg base (A.under (.builtin "type.__call__" ⟨.ref C::us,kw⟩)) outer s H:=⟨by first | exact e.frames | (simpa[abo,Code.envs,abx,pushEnvs]using e.frames),e.mod,e.bs,e.rQ,e.o9,e.zR,e.hok,e.bare⟩
section
variable{X:Cx}{ah:List (aa×Obj)}{σ:St}{H:Hp}{s s':aB}
theorem Inv.agn(I:Inv X ah σ H s):yZ X.prog X.w X.K X.mg X.base X.A X.stack s H:=
 ⟨I.ok.frames,I.ok.mod,I.bs,fP I.ok.rQ I.sz,I.stack,I.aaB,I.hok,I.bare⟩
theorem Inv.after{Q:VK}{u:ao}(I:Inv X ah σ H s)(h:CE X.stack X.prog X.w H s Q u s'):EP X ah σ Q u s':=by
 obtain⟨v,H',os,bare,un,hok,r,q⟩:=h
 obtain⟨hh,g,d,t,os'⟩:=s'
 obtain rfl:os'=s.os:=os
 exact⟨v,H',I.call (h':=hh) (g':=g) (d':=d) (t':=t) (ch:=[]) un hok bare (fun b z=>absurd z (by simp)),r,q⟩
end
noncomputable def ak5(sp:Sp)(jc:List V)(E:XK)(t:TA):TE:=fun σ H Q=>t σ H fun vs H1=>sp (vs++jc) H1 Q E
noncomputable def ayg(C:aa)(m:Str)(sp:Sp)(jc:List V)(E:XK)(ta:TE)(t:TA):TE:=fun σ H Q=>ta σ H fun x H1=>∃a dx fs,x=.ref a/\H1 a=some (.ins C dx fs)/\fs.lookup m=none/\
 t σ H1 fun vs H2=>sp (x::(vs++jc)) H2 Q E
noncomputable def ayf(C:aa)(sp:Sp)(jc:List V)(E:XK)(t:TA):TE:=fun σ H Q=>t σ H fun vs H1=>∀x dx,H1 x=none->H1 dx=none->dx≠x->
 sp (.ref x::(vs++jc)) (upd (upd H1 dx (.own x)) x (.ins C dx [])) (fun v H2=>v=.cF/\Q (.ref x) H2) E
noncomputable def Binds(K:bG)(fd:bE)(ps:List Str)(ds:List ao):Prop:=
 ∀(s:aB) (us:List ao),K.In s.heap->(us++ds).length=ps.length->CY s fd ⟨us,[]⟩ (ps.zip (us++ds))
theorem Binds.all{K:bG}{fd:bE}{ps:List Str}(h:∀us:List ao,us.length=ps.length->oX fd ⟨us,[]⟩=pure (ps.zip us)):Binds K fd ps []:=fun s us _ hl=>by
 rw[Iu]at hl ⊢
 exact .of_eq (h us hl)
noncomputable def zu(CX:rC)(X:Cx)(E:XK):Prop:=∀(ah:List (aa×Obj)) (σ:St) (H:Hp) (s:aB) (e:ao) (s':aB),Inv X ah σ H s->CX X.stack H s E e s'->X.xe e s'
section
variable{X:Cx}{CX:rC}{k:Nat}{f C:aa}{fd:bE}{ps:List Str}{sp:Sp}{jc:List V}{ds:List ao}{E:XK}{x m:Str}{p pos jZ:Pos}{e o:aZ}{es:List aZ}{ta:TE}{t:TA}
theorem Z8{ah:List (aa×Obj)}{σ:St}{H:Hp}{s:aB}{Q:VK}{us:List ao}{vs:List V}(F:bD X.prog X.w X.K X.mg X.base CX k f fd ps sp)(hr:gr k X.A)(hb:Binds X.K fd ps ds)(hd:bu jc ds)(hx:zu CX X E)
  (I:Inv X ah σ H s) (r:bu vs us) (h:sp (vs++jc) H Q E):aK (aN X.prog X.w) X.A (call (.ref f) us) (EP X ah σ Q) X.xe s:=by
 have r2:bu (vs++jc) (us++ds):=r.append hd
 have hl:(us++ds).length=ps.length:=by rw[<- r2.length];exact F.len _ _ _ _ h
 refine aaW (RY (F.run X.A X.stack s H ⟨us,[]⟩ (us++ds) (vs++jc) Q E hr I.agn (hb s us I.gY hl) r2 h) fun r s' hq=>?_)
 cases r with
 |error e=>exact hx ah σ H s e s' I hq
 |ok fl=>
  cases fl with
  |ret u=>exact I.after hq
  |next=>exact jT hq
  |brk=>exact jT hq
  |cont=>exact jT hq
theorem aP(F:bD X.prog X.w X.K X.mg X.base CX k f fd ps sp)(hr:gr k X.A)(hg:Gl X x)(hm:X.mg x=some (.ref f))(hk:bO X.K (.ref f)=true)(hb:Binds X.K fd ps ds)(hd:bu jc ds)(hx:zu CX X E)
  (ha:PA X (e::es) t) (nZ:(x == ("__debug__" : Str))=false:=by decide) (he:dR (e::es) X.env=(false,eval e X.env)::dR es X.env:=by rfl) (jx:(jJ pos (dR es X.env)).any (·.1)=false:=by rfl) :
  PE X (.Call (.Name x p) (e::es) [] pos) (ak5 sp jc E t):=by
 intro ah s σ H Q I h
 refine AH (LU I hg hm ?_ nZ)
 refine acu (h₀:=X.base) I.ok.mod.BZ hk (aV (ha pos ah s σ H _ I h) fun us s1 ⟨vs,H1,I1,r,q⟩=>⟨I1.gY,?_⟩) he jx
 exact Z8 F hr hb hd hx I1 r q
theorem aui(F:bD X.prog X.w X.K X.mg X.base CX k f fd ps sp)(hr:gr k X.A)(hg:Gl X x)(hm:X.mg x=some (.ref f))(hk:bO X.K (.ref f)=true)(hb:Binds X.K fd ps ds)(hd:bu jc ds)(hx:zu CX X E)
  (nZ:(x == ("__debug__" : Str))=false:=by decide):PE X (.Call (.Name x p) [] [] pos) (ak5 sp jc E M8):=by
 intro ah s σ H Q I h
 refine AH (LU I hg hm ?_ nZ)
 exact PySem.W.callWith_K0 I.gY hk (Z8 (us:=[]) F hr hb hd hx I .nil h)
theorem kT{pl:Sem Bool}(he:PE X o ta)(c:lB X.K C)(hm:pX X.K C m f)(F:bD X.prog X.w X.K X.mg X.base CX k f fd ps sp)(hr:gr k X.A)(hb:Binds X.K fd ps ds)(hd:bu jc ds)(hx:zu CX X E)(ha:PA X (e::es) t)
  (eY:dR (e::es) X.env=(false,eval e X.env)::dR es X.env:=by rfl) (jx:(jJ pos (dR es X.env)).any (·.1)=false:=by rfl)
  (ht:eval (.Call (.Attribute o m jZ) (e::es) [] pos) X.env=(do
   let ov <- eval o X.env
   Hy jZ.atName
   let (f,first) <- BL [ov] (UW ov m pl)
   callWith pos f first (jJ pos (dR (e::es) X.env)) (uJ pos (ve [] X.env))):=by rfl) :
  PE X (.Call (.Attribute o m jZ) (e::es) [] pos) (ayg C m sp jc E ta t):=by
 intro ah s σ H Q I h
 refine am7 (pl:=pl) (aV (he ah s σ H _ I h) fun u s1 ⟨x,H1,I1,rx,a,dx,fs,ex,ea,l,q⟩=>?_) ht
 subst ex
 obtain rfl:u=cI a:=rx
 refine agS I1 ea c hm l ?_
 refine acu (first:=[.ref a]) (h₀:=X.base) I.ok.mod.BZ hm.kp (aV (ha pos ah s1 σ H1 _ I1 q) fun us s2 ⟨vs,H2,I2,r,q2⟩=>⟨I2.gY,?_⟩) eY jx
 exact Z8 (us:=.ref a::us) (vs:=.ref a::vs) F hr hb hd hx I2 (.cons rfl r) q2
structure Mk(K:bG)(C f:aa):Prop where
 makes:zy K C=true
 init:dN K (.ref C) "__init__" = some (some (.ref f))
 fn:lH K (.ref f)=true
 kp:bO K (.ref C)=true
theorem au2{ah:List (aa×Obj)}{σ:St}{H:Hp}{s:aB}{Q:VK}{us:List ao}{vs:List V}(M:Mk X.K C f)(F:bD X.prog X.w X.K X.mg X.base CX k f fd ps sp)(hr:gr (k+1) X.A)(hb:Binds X.K fd ps ds)(hd:bu jc ds)
  (hx:zu CX X E) (I:Inv X ah σ H s) (r:bu vs us)
  (h:∀x dx,H x=none->H dx=none->dx≠x->sp (.ref x::(vs++jc)) (upd (upd H dx (.own x)) x (.ins C dx [])) (fun v H2=>v=.cF/\Q (.ref x) H2) E) :
  aK (aN X.prog X.w) X.A (call (.ref C) us) (EP X ah σ Q) X.xe s:=by
 have hq:=h (s.heap.objs.size+1) s.heap.objs.size (I.hok.fresh (uw _)) (I.hok.fresh (br _)) (dw (II _))
 have I2:=Inv.made (C:=C) I
 have r2:bu (V.ref (s.heap.objs.size+1)::(vs++jc)) (cI (s.heap.objs.size+1)::(us++ds)):=.cons rfl (r.append hd)
 have hl:(cI (s.heap.objs.size+1)::us++ds).length=ps.length:=by
  have e:=r2.length
  rw[F.len _ _ _ _ hq]at e
  exact e.symm
 refine aaW (aqJ (f:=f) I.gY M.makes M.init (beq_iff_eq.mp M.fn) (RY (F.run _ X.stack _ _ ⟨cI (s.heap.objs.size+1)::us,[]⟩ (cI (s.heap.objs.size+1)::(us++ds)) _ _ E (hr.make C us [])
  (I2.agn.make C us []) (hb _ (cI (s.heap.objs.size+1)::us) I2.gY hl) r2 hq) fun r s' u7=>?_))
 cases r with
 |error e=>exact hx ah σ _ _ e s' I2 u7
 |ok fl=>
  cases fl with
  |ret u=>
   obtain⟨v,H',I3,rv,ev,q3⟩:=I2.after u7
   subst ev
   exact⟨rv,⟨V.ref (s.heap.objs.size+1),H',I3,rfl,q3⟩⟩
  |next=>exact jT u7
  |brk=>exact jT u7
  |cont=>exact jT u7
theorem iO(M:Mk X.K C f)(F:bD X.prog X.w X.K X.mg X.base CX k f fd ps sp)(hr:gr (k+1) X.A)(hg:Gl X x)(hm:X.mg x=some (.ref C))(hb:Binds X.K fd ps ds)(hd:bu jc ds)(hx:zu CX X E)
  (ha:PA X (e::es) t) (nZ:(x == ("__debug__" : Str))=false:=by decide) (he:dR (e::es) X.env=(false,eval e X.env)::dR es X.env:=by rfl) (jx:(jJ pos (dR es X.env)).any (·.1)=false:=by rfl) :
  PE X (.Call (.Name x p) (e::es) [] pos) (ayf C sp jc E t):=by
 intro ah s σ H Q I h
 refine AH (LU I hg hm ?_ nZ)
 refine acu (h₀:=X.base) I.ok.mod.BZ M.kp (aV (ha pos ah s σ H _ I h) fun us s1 ⟨vs,H1,I1,r,q⟩=>⟨I1.gY,?_⟩) he jx
 exact au2 M F hr hb hd hx I1 r q
end
noncomputable def PK(X:Cx)(ql:List AZ)(t:TA):Prop:=
 ∀(pos:Pos) (ah:List (aa×Obj)) (s:aB) (σ:St) (H:Hp) (Q:List V->Hp->Prop),Inv X ah σ H s->t σ H Q->aK (aN X.prog X.w) X.A (evalAll ((uJ pos (ve ql X.env)).map (·.2))) (AP X ah σ Q) X.xe s
section
variable{X:Cx}{CX:rC}{k:Nat}{f C:aa}{fd:bE}{ps ks:List Str}{sp:Sp}{E:XK}{x m:Str}{p pos jZ XI:Pos}{e o:aZ}{es:List aZ}{ql:List AZ}{te ta:TE}{t tk:TA}{nm:Option Str}
theorem auB:PK X [] M8:=fun _ _ _ _ H Q I h=>wpAny_evalAll_nil ⟨[],H,I,.nil,h⟩
theorem auA(ha:PE X e te)(hr:PK X ql t):PK X (⟨nm,e,XI⟩::ql) (aaG te t):=by
 intro pos ah s σ H Q I h
 show aK _ _ (evalAll ((do let v <- eval e X.env;Hy pos;pure v)::(uJ pos (ve ql X.env)).map (·.2))) _ _ s
 refine wpAny_evalAll_cons (aF (aV (ha ah s σ H _ I h) fun u s1 ⟨x,H1,I1,r1,q1⟩=>aF (CU (bJ ?_))))
 exact aV (hr pos ah s1 σ H1 _ I1 q1) fun us s2 ⟨xs,H2,I2,r2,q2⟩=>⟨x::xs,H2,I2,.cons r1 r2,q2⟩
variable{g:List ao->List ao->List ao}{gV:List V->List V->List V}
end
structure bU(N P:List Str)(sc:iI):Prop where
 kind:sc.kind=.function
 co:sc.isCoroutine=false
 gen:sc.isGenerator=false
 nd:N.Nodup
 pre:N.take P.length=P
 par:∀x∈P,sc.names.lookup x=some .local\/sc.names.lookup x=some .cell
 aq6:∀y∈sc.names,y.2≠.free
theorem ad3{kindOf:Str->Option oU}{x:Str}:∀ {binds:List (Str×ao)} {m:Str->Option ao},(∀v,(x,v)∉binds)->zI kindOf binds m x=m x
 | [],_,_=>rfl
 |(n,v)::r,m,h=>by
  unfold zI
  rw[ad3 fun w hw=>h w (iS _ hw)]
  split
  ·have:x≠n:=by rintro rfl;exact h v lR
   simp[this]
  ·rfl
theorem ad1{kindOf:Str->Option oU}{x:Str}:∀ {binds:List (Str×ao)} {m:Str->Option ao},(∀v,(x,v)∉binds)->zG kindOf binds m x=m x
 | [],_,_=>rfl
 |(n,v)::r,m,h=>by
  unfold zG
  rw[ad1 fun w hw=>h w (iS _ hw)]
  split
  ·rfl
  ·have:x≠n:=by rintro rfl;exact h v lR
   simp[this]
theorem ad2{kindOf:Str->Option oU}{x:Str}{v:ao}:∀ {P:List Str} {vs:List ao} {i:Nat} {m:Str->Option ao},P.Nodup->P[i]?=some x->vs[i]?=some v->kindOf x=some .local->
  zI kindOf (P.zip vs) m x=some v
 | [],_,_,_,_,h,_,_=>by simp at h
 |_::_,[],_,_,_,_,h,_=>by simp at h
 |p::P,w::vs,0,m,nd,h1,h2,hk=>by
  simp at h1 h2;subst h1;subst h2
  show zI kindOf ((p,w)::P.zip vs) m p=_
  unfold zI
  rw[ad3 fun v hv=>(nO.mp nd).1 (abX hv).1,if_pos hk]
  simp
 |p::P,w::vs,i+1,m,nd,h1,h2,hk=>by
  show zI kindOf ((p,w)::P.zip vs) m x=_
  unfold zI
  exact ad2 (i:=i) (nO.mp nd).2 (by simpa using h1) (by simpa using h2) hk
theorem ad0{kindOf:Str->Option oU}{x:Str}{v:ao}:∀ {P:List Str} {vs:List ao} {i:Nat} {m:Str->Option ao},P.Nodup->P[i]?=some x->vs[i]?=some v->kindOf x≠some .local->
  zG kindOf (P.zip vs) m x=some v
 | [],_,_,_,_,h,_,_=>by simp at h
 |_::_,[],_,_,_,_,h,_=>by simp at h
 |p::P,w::vs,0,m,nd,h1,h2,hk=>by
  simp at h1 h2;subst h1;subst h2
  show zG kindOf ((p,w)::P.zip vs) m p=_
  unfold zG
  rw[ad1 fun v hv=>(nO.mp nd).1 (abX hv).1,if_neg hk]
  simp
 |p::P,w::vs,i+1,m,nd,h1,h2,hk=>by
  show zG kindOf ((p,w)::P.zip vs) m x=_
  unfold zG
  exact ad0 (i:=i) (nO.mp nd).2 (by simpa using h1) (by simpa using h2) hk
noncomputable def start(N:List Str)(vs:List V):St:=vs.map some++fj (N.length-vs.length) none
noncomputable def zL(CX:rC)(P:cH)(w:cj)(K:bG)(mg:Str->Option ao)(base:bL)(N:List Str)(qual:Str)(scope:iI)(f:aa)(cd:ao)(A:cS)(outer:List Env)(s:aB)(H:Hp)(E:XK):Cx where
 prog:=P
 w:=w
 K:=K
 mg:=mg
 base:=base
 A:=A.deeper (uO qual scope s.heap.objs.size f cd)
 N:=N
 s₀:=s
 H₀:=H
 env:=uO qual scope s.heap.objs.size f cd
 outer:=outer
 stack:=uO qual scope s.heap.objs.size f cd::outer
 ex:=[]
 calm:=true
 fn:=fun _=>true
 pn:=[]
 xe:=fun e s'=>aK (aN P w) (A.deeper (uO qual scope s.heap.objs.size f cd)) (leaving (uO qual scope s.heap.objs.size f cd) e) (fun _ nB=>CX outer H s E e nB) (fun e' nB=>CX outer H s E e' nB) s'
theorem aec{sc:iI}{n:Nat}{x:Str}(h:sc.names.lookup x=some .cell):∃c,(cellsFrom n sc.names []).lookup x=some c:=by
 have q:=am3 sc.names n [] (.inl h)
 exact acd.mp q
theorem ap'{CX:rC}{P:cH}{w:cj}{K:bG}{mg:Str->Option ao}{base:bL}{N ps:List Str}{qual:Str}{scope:iI}{f:aa}{cd:ao}{A:cS}{outer:List Env}{s s1:aB}{H:Hp}{E:XK}{us:List ao}{vs:List V}
  (S:bU N ps scope) (hd:A.handled=none) (e0:yZ P w K mg base A outer s H) (hl:vs.length=ps.length) (r:bu vs us)
  (x:InCallC s s.heap.objs.size (zI (uO qual scope s.heap.objs.size f cd).kindOf (ps.zip us) fun _=>none) (cellsFrom (s.heap.objs.size+1) scope.names []) (zG (uO qual scope s.heap.objs.size f cd).kindOf (ps.zip us) fun _=>none) s1) :
  Inv (zL CX P w K mg base N qual scope f cd A outer s H E) [] (start N vs) H s1:=by
 have jx:ps.length<=N.length:=by have:=congrArg N3 S.pre;rw[jr]at this;omega
 obtain⟨h1,tk,rfl,hk⟩:=x.done
 have vo:∀b:aa,b∉(zL CX P w K mg base N qual scope f cd A outer s H E).ex:=fun b z=>absurd (show b∈([]:List aa)from z) (by simp)
 refine⟨⟨e0.mod,S.kind,rfl,rfl,br _,fun y z c h1 h2=>?_,fun y hy=>?_,fun y c _ h=>?_,fun _=>hd,alD e0.frames,.inr ⟨rfl,rfl⟩,fun b z=>absurd z (vo b),e0.bs,e0.rQ,fun b _ _=>vo b,fun b z=>absurd z (vo b),e0.o9,e0.zR⟩,
  rfl,e0.bare,Un.kept hk,⟨_,x.toInCall.ns,fun i y v h1 h2 h3=>?_⟩,fun y c h=>⟨_,x.cell y c h⟩,e0.hok.fresh (br _),fun y c h=>?_,fun p hp=>absurd (show p∈([]:List (aa×Obj))from hp) (by simp),e0.hok.kept hk,?_⟩
 ·exact name_of_addr x.apart (uD h1) (uD h2)
 ·have hy:scope.names.lookup y=some .cell\/scope.names.lookup y=some .free:=hy
  rcases hy with hy | hy
  ·exact aec hy
  ·exact absurd rfl (S.aq6 _ (uD hy))
 ·exact lG (x.above y c (uD h))
 ·have hi:i<vs.length:=by
   unfold start at h2
   by_cases hi:i<vs.length
   ·exact hi
   ·rw[nN (by simpa using hi)]at h2
    rw[amF]at h2
    split at h2<;>cases h2
  have ha:vs[i]?=some v:=by
   unfold start at h2
   rw[nM (by simpa using hi),dG]at h2
   cases e:vs[i]? with
   |none=>rw[e]at h2;cases h2
   |some a=>rw[e]at h2;cases h2;rfl
  obtain⟨u,hu,rv⟩:=r.get ha
  have hp:ps[i]?=some y:=by
   rw[<- S.pre,List.getElem?_take_of_lt (by omega)];exact h1
  have Mb:ps.Nodup:=by rw[<- S.pre];exact S.nd.sublist (ab1 _ _)
  refine⟨u,rv,?_⟩
  rcases S.par y (eB hp)with k | k
  ·exact .inl ⟨k,ad2 Mb hp hu k⟩
  ·obtain⟨c,e⟩:=aec (n:=s.heap.objs.size+1) k
   refine .inr ⟨.inl k,c,e,?_⟩
   have q:=x.cell y c e
   rw[ad0 Mb hp hu (by show scope.names.lookup y≠_;rw[k];decide)]at q
   exact q
 ·exact e0.hok.fresh (lG (x.above y c (uD h)))
 ·unfold start
  show _=N.length
  rw[bW,aC,rH]
  omega
theorem agx{CX:rC}{P:cH}{w:cj}{K:bG}{mg:Str->Option ao}{base:bL}{k:Nat}{f:aa}{name qual:Str}{params:HR}{body:List iT}{scope:iI}{dV kV doc pm bg ct oc:ao}{an od:Option aa}
  {vq:Array (Option ao)} {N ps:List Str} {sp:Sp} (lk:K.lookup f=some ⟨oc,od,.func (aQ name qual params body scope dV kV doc pm an bg ct),vq⟩) (jd:bX K bg qual=true) (S:bU N ps scope)
  (len:∀vs H Q E,sp vs H Q E->vs.length=ps.length)
  (EC:∀(A:cS) (outer:List Env) (s:aB) (H:Hp) (vs:List V) (Q:VK) (E:XK),gr k (A.deeper (uO qual scope s.heap.objs.size f bg))->sp vs H Q E->
   ∃t,jt (zL CX P w K mg base N qual scope f bg A outer s H E) body t/\t {nx:=fun _ H'=>Q .cF H',rt:=Q} (start N vs) H) :
  bD P w K mg base CX (k+1) f (aQ name qual params body scope dV kV doc pm an bg ct) ps sp:=by
 refine⟨len,fun A outer s H args us vs Q E hr e0 hb r sA=>?_⟩
 have hl:=len _ _ _ _ sA
 have KX:K.In s.heap:=e0.mod.BZ.keeps fun b o e=>(e0.bs b o e).1
 have lim:s.heap.NoLimit:=e0.mod.nolimit.keeps fun b o e=>(e0.bs b o e).1
 have z6:∀y∈ps.zip us,scope.names.lookup y.1=some .local\/(scope.names.lookup y.1=some .cell/\((cellsFrom (s.heap.objs.size+1) scope.names []).lookup y.1).isSome=true):=fun⟨n,v⟩ hy=>by
  rcases S.par n (abX hy).1 with q | q
  ·exact .inl q
  ·exact .inr ⟨q,am3 _ _ _ (.inl q)⟩
 refine codeAny_call_function hr.depth (KX _ _ lk) rfl S.co S.gen rfl (PySem.W.codeRec_of KX jd) (hb _ _ _ _ ?_)
 refine wpAny_newFunctionEnv_cells S.kind z6 fun env he s1 x=>?_
 subst he
 refine⟨lim.keeps x.toInCall.keep,codeAny_func ?_⟩
 obtain⟨t,ht,hq⟩:=EC A outer s H vs Q E (hr.deeper _) sA
 have I:Inv (zL CX P w K mg base N qual scope f bg A outer s H E) [] (start N vs) H s1:=ap' S hr.hd e0 hl r x
 refine iP (ht [] s1 (start N vs) H _ I hq) (fun fl s' hs=>?_) fun e s' hs=>hs
 have fin:∀ {σ':St} {H':Hp} {v:V} {u:ao},Inv (zL CX P w K mg base N qual scope f bg A outer s H E) [] σ' H' s'->RelV v u->Q v H'->CE outer P w H s Q u s':=
  fun {σ' H' v u} J rv q=>⟨v,H',J.os,J.bare,J.base,J.hok,rv,q⟩
 cases fl with
 |ret u=>
  obtain⟨v,σ',H',J,rv,q⟩:=hs
  exact fin J rv q
 |next=>
  obtain⟨σ',H',J,q⟩:=hs
  exact fin (v:=V.cF) (u:=lU) J rfl q
 |brk=>
  obtain⟨_,_,_,q⟩:=hs
  exact jT q
 |cont=>
  obtain⟨_,_,_,q⟩:=hs
  exact jT q
end L2
namespace L2
open PySem PySem.Spec PyProof.Rows
section
variable{X:Cx}{x:Str}{p pos:Pos}{e:aZ}{es:List aZ}{t:TA}{id T:String}{r:List V->Hp->VK->Prop}
noncomputable def tCB(r:List V->Hp->VK->Prop)(t:TA):TE:=fun σ H Q=>t σ H fun vs H1=>r vs H1 Q
theorem bB(hc:jq X (.builtin id) r)(hg:Gl X x)(hm:X.mg x=none)(hv:xT x=some (.builtin id))(ha:PA X (e::es) t)(hn:x≠"__name__":=by decide) (nZ:(x == ("__debug__" : Str))=false:=by decide)
  (he:dR (e::es) X.env=(false,eval e X.env)::dR es X.env:=by rfl) (jx:(jJ pos (dR es X.env)).any (·.1)=false:=by rfl):PE X (.Call (.Name x p) (e::es) [] pos) (tCB r t):=by
 intro ah s σ H Q I h
 refine AH (qo I hg hm hv ?_ hn nZ)
 exact PyProof.Rows.callWith_builtin1 (aV (ha pos ah s σ H _ I h) fun us s1 ⟨vs,H1,I1,r1,q1⟩=>hc ah s1 σ H1 vs us Q I1 r1 q1) he jx
theorem kj(hc:jq X (.type T) r)(hg:Gl X x)(hm:X.mg x=none)(hv:xT x=some (.type T))(ha:PA X (e::es) t)(hn:x≠"__name__":=by decide) (nZ:(x == ("__debug__" : Str))=false:=by decide)
  (he:dR (e::es) X.env=(false,eval e X.env)::dR es X.env:=by rfl) (jx:(jJ pos (dR es X.env)).any (·.1)=false:=by rfl):PE X (.Call (.Name x p) (e::es) [] pos) (tCB r t):=by
 intro ah s σ H Q I h
 refine AH (qo I hg hm hv ?_ hn nZ)
 exact A7 (aV (ha pos ah s σ H _ I h) fun us s1 ⟨vs,H1,I1,r1,q1⟩=>hc ah s1 σ H1 vs us Q I1 r1 q1) he jx
end
end L2
namespace HT
open PySem PyProof.Rows
theorem aoa(A:cS)(s:aB)(a:Int)(t:Tok)(c:Int)(u:Tok):∃e,acD A s (.int a t) (.int c u) e/\(e=true↔a=c):=
 ⟨(a == c),am9 a t c u,by simp⟩
section
variable{prog:cH}{w:cj}{A:cS}{E:ao->aB->Prop}{s:aB}
noncomputable def kX(n d:Nat):Option Int->Nat
 |none=>d
 |some v=>if v<0 then(v+(n:Int)).toNat else min v.toNat n
theorem akA(n d:Nat):kX n d none=d:=rfl
theorem MJ(n d k:Nat):kX n d (some (k:Int))=min k n:=by
 show(if(k:Int)<0 then((k:Int)+(n:Int)).toNat else min (k:Int).toNat n)=min k n
 rw[if_neg (by omega),Ip]
end
end HT
namespace L2
open PySem PySem.Spec PyProof.Rows
noncomputable abbrev TO:=St->Hp->(Option Int->Hp->Prop)->Prop
noncomputable def PO(X:Cx)(e:Option aZ)(t:TO):Prop:=
 ∀(ah:List (aa×Obj)) (s:aB) (σ:St) (H:Hp) (Q:Option Int->Hp->Prop),Inv X ah σ H s->t σ H Q->
  aK (aN X.prog X.w) X.A (evalPart e X.env) (fun u s'=>∃o H',Inv X ah σ H' s'/\IsPart u o/\Q o H') X.xe s
noncomputable def ayi:TO:=fun _ H Q=>Q none H
noncomputable def ayn(t:TE):TO:=fun σ H Q=>t σ H fun x H1=>∃i,x=.int i/\Q (some i) H1
section
variable{X:Cx}{e:aZ}{te:TE}{lo hi:Option aZ}{tl th:TO}{pos p2:Pos}
theorem vA:PO X none ayi:=by
 intro ah s σ H Q I h
 rw[D4]
 exact bJ ⟨none,H,I,.none,h⟩
theorem qz(h:PE X e te):PO X (some e) (ayn te):=by
 intro ah s σ H Q I hw
 rw[D5]
 refine aV (h ah s σ H _ I hw) fun u s1 ⟨x,H1,I1,r1,q1⟩=>?_
 obtain⟨i,rfl,q⟩:=q1
 obtain⟨t,rfl⟩:=r1
 exact⟨some i,H1,I1,.int i t,q⟩
noncomputable def SlR(X:Cx)(r:V->Option Int->Option Int->Hp->VK->Prop):Prop:=
 ∀(ah:List (aa×Obj)) (s:aB) (σ:St) (H:Hp) (x:V) (v vl vu:ao) (lo hi:Option Int) (sl:aa) (Q:VK),Inv X ah σ H s->RelV x v->s.heap.IsSliceOf sl vl vu .none->IsPart vl lo->IsPart vu hi->r x lo hi H Q->
  ∃T id,aaN (.type T) "__getitem__" = pure (some (.builtin id))/\s.TypeIs v T/\aK (aN X.prog X.w) X.A (zS v (.ref sl)) (EP X ah σ Q) X.xe s
noncomputable def tSl(r:V->Option Int->Option Int->Hp->VK->Prop)(te:TE)(tl th:TO):TE:=fun σ H Q=>te σ H fun x H1=>tl σ H1 fun l H2=>th σ H2 fun u H3=>r x l u H3 Q
theorem sN{r:V->Option Int->Option Int->Hp->VK->Prop}(hr:SlR X r)(he:PE X e te)(hl:PO X lo tl)(hu:PO X hi th):PE X (.Subscript e (.Slice lo hi none p2) pos) (tSl r te tl th):=by
 intro ah s σ H Q I h
 refine DB (aV (he ah s σ H _ I h) fun v s1 ⟨x,H1,I1,r1,q1⟩=>?_)
 refine Nl (aV (hl ah s1 σ H1 _ I1 q1) fun vl s2 ⟨l,H2,I2,pl,q2⟩=>aV (hu ah s2 σ H2 _ I2 q2) fun vu s3 ⟨u,H3,I3,pu,q3⟩=>?_)
 rw[D4]
 refine bJ ?_
 have I4:Inv X ah σ H3 {s3 with heap:=s3.heap.push {cls:=.type "slice",data:=.fields #[vl,vu,.none]}}:=I3.kept (t':=s3.toks) fun b ob q=>cM _ q
 obtain⟨T,id,hT,ht,hg⟩:=hr ah {s3 with heap:=s3.heap.push {cls:=.type "slice",data:=.fields #[vl,vu,.none]}} σ H3 x v vl vu l u s3.heap.objs.size Q I4 r1 (Ik ..) pl pu q3
 show aK (aN X.prog X.w) X.A (HB e (.Slice lo hi none p2) v (.ref s3.heap.objs.size)) (EP X ah σ Q) X.xe {s3 with heap:=s3.heap.push {cls:=.type "slice",data:=.fields #[vl,vu,.none]}}
 exact tail_any (ops:=[.ref s3.heap.objs.size,v]) ht hT hg (by with_unfolding_all rfl)
noncomputable def lX(xs:List V)(lo hi:Option Int):List V:=(xs.drop (HT.kX xs.length 0 lo)).take (HT.kX xs.length xs.length hi-HT.kX xs.length 0 lo)
theorem anH(xs:List V)(lo hi:Option Int):(lX xs lo hi).length<=xs.length:=by
 unfold lX
 rw[jr,jV]
 omega
end
noncomputable def qk(n:Nat)(i:Int):Option Nat:=if 0<=i then(if i<n then some i.toNat else none)else if -(n:Int)<=i then some (i+n).toNat else none
noncomputable def j0{α:Type}(xs:List α)(i:Int):Option α:=(qk xs.length i).bind fun j=>xs[j]?
theorem ahq{n:Nat}{i:Int}{j:Nat}(h:qk n i=some j):seqIndex? i n=some j/\j<n/\-(n:Int)<=i/\i<n:=by
 unfold qk at h
 by_cases h0:0<=i
 ·rw[if_pos h0]at h
  by_cases h1:i<n
  ·rw[if_pos h1]at h
   have e:i.toNat=j:=cY h
   exact⟨by rw[seqIndex_of h0 h1,e],by omega,by omega,h1⟩
  ·rw[if_neg h1]at h;cases h
 ·rw[if_neg h0]at h
  by_cases h1:-(n:Int)<=i
  ·rw[if_pos h1]at h
   have e:(i+n).toNat=j:=cY h
   exact⟨by rw[seqIndex_neg (by omega) h1,e],by omega,h1,by omega⟩
  ·rw[if_neg h1]at h;cases h
theorem adV{α:Type}{xs:List α}{i:Int}{v:α}(h:j0 xs i=some v):∃j,seqIndex? i xs.length=some j/\xs[j]?=some v/\j<xs.length/\-(xs.length:Int)<=i/\i<xs.length:=by
 unfold j0 at h
 cases e:qk xs.length i with
 |none=>rw[e]at h;cases h
 |some j=>
  rw[e]at h
  obtain⟨h1,h2,h3,h4⟩:=ahq e
  exact⟨j,h1,h,h2,h3,h4⟩
theorem iV{α:Type}{xs:List α}{j:Nat}{v:α}(h:xs[j]?=some v):j0 xs (j:Int)=some v:=by
 have hj:j<xs.length:=(iw.mp h).1
 have e:qk xs.length (j:Int)=some j:=by
  unfold qk
  rw[if_pos (by omega),if_pos (by omega)];simp
 unfold j0;rw[e];exact h
noncomputable def amU(b:aZ):Prop:=∀o i,aaD b false o i=operate [o,i] (zS o i)
noncomputable def Dd(X:Cx)(r:R2):Prop:=
 ∀(value wZ:aZ) (ah:List (aa×Obj)) (s:aB) (σ:St) (H:Hp) (x y:V) (v u:ao) (Q:VK),Inv X ah σ H s->RelV x v->RelV y u->r x y H Q->
  aaD wZ false v u=operate [v,u] (zS v u)->aK (aN X.prog X.w) X.A (HB value wZ v u) (EP X ah σ Q) X.xe s
noncomputable def Do(X:Cx)(id:String)(r:V->List V->Hp->VK->Prop):Prop:=
 ∀(ah:List (aa×Obj)) (s:aB) (σ:St) (H:Hp) (x:V) (xs:List V) (v:ao) (us:List ao) (Q:VK),Inv X ah σ H s->RelV x v->bu xs us->r x xs H Q->
  aK (aN X.prog X.w) X.A (call (.builtin id) (v::us)) (EP X ah σ Q) X.xe s
section
variable{X:Cx}{a b:aZ}{ta tb:TE}{pos:Pos}
theorem cX{r:R2}(hr:Dd X r)(ha:PE X a ta)(hb:PE X b tb)(hs:amU b):PE X (.Subscript a b pos) (M9 r ta tb):=by
 intro ah s σ H Q I h
 exact DB (Pb ha hb I h fun v u s2 x y H2 I2 rx ry q=>hr a b ah s2 σ H2 x y v u Q I2 rx ry q (hs _ _))
noncomputable def akn(K:bG):R2:=fun x y H Q=>∃p xs i v,x=.ref p/\y=.int i/\dO K H p xs/\j0 xs i=some v/\Q v H
noncomputable def ako(K:bG):R2:=fun x y H Q=>∃p xs i v,x=.ref p/\y=.int i/\gc K H p xs/\j0 xs i=some v/\Q v H
theorem eZ:Dd X (akn X.K):=by
 intro value wZ ah s σ H x y v u Q I rx ry h hs
 obtain⟨p,xs,i,z,rfl,rfl,hq,he,q⟩:=h
 cases rx
 obtain⟨t,rfl⟩:=ry
 obtain⟨its,r,pl,hz⟩:=I.list hq
 obtain⟨j,h1,h2,h3,h4,h5⟩:=adV he
 obtain⟨w,ew,kW⟩:=r.get h2
 have hl:=r.length
 have hn:=LW
 have fin:EP X ah σ Q w s:=⟨z,H,I,kW,q⟩
 by_cases h0:0<=i
 ·have hj:i.toNat=j:=by
   rw[seqIndex_of h0 h5]at h1
   exact cY h1
  exact item_listR pl.isList h0 (by omega) (by rw[hj];simpa using ew) fin hs
 ·have hj:(i+(its.toArray.size:Int)).toNat=j:=by
   rw[seqIndex_neg (by omega) h4]at h1
   rw[cV,<- hl]
   exact cY h1
  exact subscriptTail_builtinR (x:=w) pl.isList.typeIs aav.lookup
   (wpAny_getItem_list_neg (Q:=fun r s'=>r=w/\EP X ah σ Q r s') pl.isList (by omega) (by rw[cV]<;>omega) (by omega) (by rw[hj];simpa using ew) ⟨rfl,fin⟩) hs
theorem ou:Dd X (ako X.K):=by
 intro value wZ ah s σ H x y v u Q I rx ry h hs
 obtain⟨p,xs,i,z,rfl,rfl,hq,he,q⟩:=h
 cases rx
 obtain⟨t,rfl⟩:=ry
 obtain⟨its,r,pl,hz⟩:=I.tuple hq
 obtain⟨j,h1,h2,h3,h4,h5⟩:=adV he
 obtain⟨w,ew,kW⟩:=r.get h2
 have hl:=r.length
 have hn:=LW
 have fin:EP X ah σ Q w s:=⟨z,H,I,kW,q⟩
 exact subscriptTail_builtinR (x:=w) pl.typeIs slot_tuple_getitem.lookup
  (getItem_tuple (j:=j) (Q:=fun r s'=>r=w/\EP X ah σ Q r s') pl (by omega) (by omega) (by rw[cV,<- hl];exact h1) (by simpa using ew) ⟨rfl,fin⟩) hs
theorem aqM(its:List ao)(n j:Nat)(u:ao):eE (·.setIfInBounds j u) {cls:=.type "list",data:=.seq its.toArray n}={cls:=.type "list",data:=.seq (its.set j u).toArray n}:=by
 simp[eE]
theorem Inv.lst{ah:List (aa×Obj)}{σ:St}{H:Hp}{s:aB}{p:aa}{xs:List V}(I:Inv X ah σ H s)(h:H p=some (.lst xs)) :
  ∃(its:List ao) (n:Nat),bu xs its/\s.heap.get? p=some {cls:=.type "list",data:=.seq its.toArray n}/\xs.length<=sizeLine:=by
 obtain⟨z,its,n,r,e⟩:=I.hok p _ h
 exact⟨its,n,r,e,z⟩
theorem Inv.aiL{ah:List (aa×Obj)}{σ:St}{H:Hp}{s:aB}{p:aa}{xs ys:List V}{its its':List ao}{n n':Nat}{f:Obj->Obj}(I:Inv X ah σ H s)(h:H p=some (.lst xs))
  (ho:s.heap.get? p=some {cls:=.type "list",data:=.seq its.toArray n}) (hf:f {cls:=.type "list",data:=.seq its.toArray n}={cls:=.type "list",data:=.seq its'.toArray n'}) (r:bu ys its') (hz:ys.length<=aX) (t:Nat) :
  Inv X ah σ (upd H p (.lst ys)) {s with heap:=s.heap.update p f,toks:=t}:=by
 have e:(s.heap.update p f).get? p=some {cls:=.type "list",data:=.seq its'.toArray n'}:=by
  rw[AU f ho (by rw[hf]<;>rfl),hf]
 refine I.write (x:=p) (e:=p) (by rw[h];trivial) (.inl rfl) (fun b u hb q=>(pU _ _ (dB hb)).trans q) ⟨_,e⟩ ?_
 exact⟨hz,its',n',r,e⟩
noncomputable def auT:V->V->V->Hp->(Hp->Prop)->Prop:=fun o i v H Q=>∃p xs k j,o=.ref p/\i=.int k/\H p=some (.lst xs)/\qk xs.length k=some j/\Q (upd H p (.lst (xs.set j v)))
theorem Hr:ach X auT:=by
 intro ah s σ H o i v ov iv u Q I ro ri rv h
 obtain⟨p,xs,k,j,rfl,rfl,hp,hj,q⟩:=h
 cases ro
 obtain⟨t,rfl⟩:=ri
 obtain⟨its,n,r,ho,hz⟩:=I.lst hp
 obtain⟨h1,h2,h3,h4⟩:=ahq hj
 have hl:=r.length
 have hn:=LW
 have I':Inv X ah σ (upd H p (.lst (xs.set j v))) {s with heap:=s.heap.update p (eE (·.setIfInBounds j u))}:=
  I.aiL hp ho (aqM its n j u) (r.set rv j) (by rw[uo];exact hz) s.toks
 by_cases h0:0<=k
 ·have hk:k.toNat=j:=by
   rw[seqIndex_of h0 h4]at h1
   exact cY h1
  exact PySem.W.ki_setAt ho h0 (by omega) (by rw[cV,<- hl];exact h4) (by rw[hk];exact⟨_,I',q⟩)
 ·have hk:(k+(its.toArray.size:Int)).toNat=j:=by
   rw[seqIndex_neg (by omega) h3]at h1
   rw[cV,<- hl]
   exact cY h1
  exact PySem.W.ki_setBack ho (by omega) (by rw[cV,<- hl];exact h3) (by omega) (by rw[hk];exact⟨_,I',q⟩)
theorem awG(lo hi:Option Int)(n:Nat):(jj lo hi none n).1=((HT.kX n 0 lo:Nat):Int)/\(jj lo hi none n).2.1=((HT.kX n n hi:Nat):Int)/\(jj lo hi none n).2.2=1:=by
 refine⟨?_,?_,rfl⟩
 ·cases lo with
  |none=>simp[jj,HT.kX]
  |some i=>
   simp only[jj,HT.kX,amR,show(1:Int)>0 by decide,if_true]
   by_cases h:i<0
   ·simp only[h,if_true]<;>omega
   ·simp only[h,if_false]<;>omega
 ·cases hi with
  |none=>simp[jj,HT.kX]
  |some i=>
   simp only[jj,HT.kX,amR,show(1:Int)>0 by decide,if_true]
   by_cases h:i<0
   ·simp only[h,if_true]<;>omega
   ·simp only[h,if_false]<;>omega
theorem awF(its:List ao)(lo hi:Option Int):slicePick its.toArray lo hi none=((its.drop (HT.kX its.length 0 lo)).take (HT.kX its.length its.length hi-HT.kX its.length 0 lo)).toArray:=by
 obtain⟨h1,h2,h3⟩:=awG lo hi its.toArray.size
 unfold slicePick
 rw[h1,h2,h3]
 simp only[sliceRange_one,pick_run,cV]<;>rfl
noncomputable def auU(K:bG):V->Option Int->Option Int->Hp->VK->Prop:=fun x lo hi H Q=>∃a xs,x=.ref a/\dO K H a xs/\∀p,H p=none->Q (.ref p) (upd H p (.lst (lX xs lo hi)))
theorem tL:SlR X (auU X.K):=by
 intro ah s σ H x v vl vu lo hi sl Q I rx hs pl pu h
 obtain⟨a,xs,rfl,hx,q⟩:=h
 cases rx
 obtain⟨its,r,ht,hz⟩:=I.list hx
 have bC:=r.length
 refine⟨"list",_,aav.lookup,ht.isList.typeIs,?_⟩
 refine aly ht.isList hs pl pu .none (by simp) ?_ (by rw[cV]<;>omega)
 rw[awF,<- bC]
 refine⟨.ref s.heap.objs.size,_,I.laid (t':=s.toks) (o:=.lst (lX xs lo hi)) (fun b ob q=>cM _ q) (br _) ?_,rfl,q _ (I.hok.fresh (br _))⟩
 exact⟨fP (anH xs lo hi) hz,_,0,(r.drop (HT.kX xs.length 0 lo)).take (HT.kX xs.length xs.length hi-HT.kX xs.length 0 lo),gn _ rfl⟩
noncomputable def x9:V->Bool
 | .cF=>true
 | .bl _=>true
 | .int _=>true
 | .str _=>true
 |_=>false
noncomputable def rS:V->V->Bool
 | .cF,.cF=>true
 | .bl a,.bl b=>a == b
 | .bl a,.int b=>(if a then 1 else 0) == b
 | .int a,.bl b=>a == (if b then 1 else 0)
 | .int a,.int b=>a == b
 | .str a,.str b=>a == b
 |_,_=>false
theorem an0{A:cS}{s:aB}{y x:V}{u v:ao}(ry:RelV y u)(rx:RelV x v)(fy:x9 y=true)(fx:x9 x=true):acD A s u v (rS y x):=by
 cases y with
 |cF=>
  cases ry
  cases x with
  |cF=>cases rx;exact SeqAt.EqAt.same _
  |bl b=>cases rx;exact SeqAt.EqAt.none_bool b
  |int b=>obtain⟨t,rfl⟩:=rx;exact SeqAt.EqAt.none_int b t
  |str b=>obtain⟨t,rfl⟩:=rx;exact SeqAt.EqAt.none_str b t
  |_=>exact absurd (show false=true from fx) gw
 |bl a=>
  cases ry
  cases x with
  |cF=>cases rx;exact SeqAt.EqAt.bool_none a
  |bl b=>cases rx;exact SeqAt.EqAt.bool_bool a b
  |int b=>obtain⟨t,rfl⟩:=rx;exact SeqAt.EqAt.bool_int a b t
  |str b=>obtain⟨t,rfl⟩:=rx;exact SeqAt.EqAt.bool_str a b t
  |_=>exact absurd (show false=true from fx) gw
 |int a=>
  obtain⟨t',rfl⟩:=ry
  cases x with
  |cF=>cases rx;exact SeqAt.EqAt.int_none a t'
  |bl b=>cases rx;exact SeqAt.EqAt.int_bool a t' b
  |int b=>obtain⟨t,rfl⟩:=rx;exact am9 a t' b t
  |str b=>obtain⟨t,rfl⟩:=rx;exact ana a t' b t
  |_=>exact absurd (show false=true from fx) gw
 |str a=>
  obtain⟨t',rfl⟩:=ry
  cases x with
  |cF=>cases rx;exact SeqAt.EqAt.str_none a t'
  |bl b=>cases rx;exact SeqAt.EqAt.str_bool a t' b
  |int b=>obtain⟨t,rfl⟩:=rx;exact anb a t' b t
  |str b=>obtain⟨t,rfl⟩:=rx;exact SeqAt.EqAt.str_str a t' b t
  |_=>exact absurd (show false=true from fx) gw
 |_=>exact absurd (show false=true from fy) gw
noncomputable def uP(x:V)(u:ao):Bool:=match u with
 | .none=>rS .cF x
 | .bool b=>rS (.bl b) x
 | .int i _=>rS (.int i) x
 | .str z _=>rS (.str z) x
 |_=>false
theorem ago{x y:V}{u:ao}(r:RelV y u)(f:x9 y=true):uP x u=rS y x:=by
 cases y with
 |cF=>cases r;rfl
 |bl b=>cases r;rfl
 |int i=>obtain⟨t,rfl⟩:=r;rfl
 |str z=>obtain⟨t,rfl⟩:=r;rfl
 |_=>exact absurd (show false=true from f) gw
theorem OZ{x:V}:∀ {xs:List V} {us:List ao},bu xs us->xs.all x9=true->us.any (uP x)=xs.any fun y=>rS y x
 |_,_,.nil,_=>rfl
 |y::xs,u::us,.cons r t,f=>by
  rw[Ir,nI]at f
  rw[A0,A0,ago r f.1,OZ t f.2]
theorem Y6{A:cS}{s:aB}{x:V}{v:ao}(rx:RelV x v)(fx:x9 x=true):∀ {xs:List V} {us:List ao},bu xs us->xs.all x9=true->∀u∈us,acD A s u v (uP x u)
 |_,_,.nil,_=>fun u hu=>by cases hu
 |y::xs,u::us,.cons r t,f=>fun u' hu=>by
  rw[Ir,nI]at f
  rcases dY.mp hu with rfl | hu
  ·rw[ago r f.1];exact an0 r rx f.1 fx
  ·exact Y6 rx fx t f.2 u' hu
noncomputable def Lu(x:V)(xs:List V):Bool:=xs.any fun y=>rS y x
noncomputable def rIn(K:bG)(neg:Bool):R2:=fun x y H Q=>∃p xs,y=.ref p/\(dO K H p xs\/gc K H p xs)/\x9 x=true/\xs.all x9=true/\Q (.bl (if neg then !Lu x xs else Lu x xs)) H
theorem Mq:fQ X (jK .In) (rIn X.K false):=by
 intro ah s σ H x y v u Q I rx ry h
 obtain⟨p,xs,rfl,hq,fx,fs,q⟩:=h
 cases ry
 rcases hq with hq | hq
 ·obtain⟨its,r,pl,hz⟩:=I.list hq
  refine SeqAt.in_listAt (uP x) pl.isList (fun w hw=>Y6 rx fx r fs w (by simpa using hw)) ⟨.bl _,H,I,rfl,?_⟩
  rw[show its.toArray.any (uP x)=its.any (uP x) by simp,OZ r fs]
  exact q
 ·obtain⟨its,r,pl,hz⟩:=I.tuple hq
  refine SeqAt.in_tupleAt (uP x) pl (fun w hw=>Y6 rx fx r fs w (by simpa using hw)) ⟨.bl _,H,I,rfl,?_⟩
  rw[show its.toArray.any (uP x)=its.any (uP x) by simp,OZ r fs]
  exact q
theorem dI:jq X (.builtin "len") (fun xs H Q=>∃p ys,xs=[.ref p]/\(dO X.K H p ys\/gc X.K H p ys)/\Q (.int ys.length) H):=by
 intro ah s σ H xs us Q I r h
 obtain⟨p,ys,rfl,hq,q⟩:=h
 obtain⟨u,rfl,rx⟩:=vals1 r
 cases rx
 have hn:=LW
 rcases hq with hq | hq
 ·obtain⟨its,r',pl,hz⟩:=I.list hq
  have bC:=r'.length
  exact Calls.call_len_list pl.isList (by simp only[cV]<;>omega) ⟨.int ys.length,H,I.tok _,⟨s.toks+1,by rw[cV,bC]⟩,q⟩
 ·obtain⟨its,r',pl,hz⟩:=I.tuple hq
  have bC:=r'.length
  exact len_tuple pl (by simp only[cV]<;>omega) ⟨.int ys.length,H,I.tok _,⟨s.toks+1,by rw[cV,bC]⟩,q⟩
theorem o7:jq X (.type "list") (fun xs H Q=>∃p ys,xs=[.ref p]/\(dO X.K H p ys\/gc X.K H p ys)/\∀l,H l=none->Q (.ref l) (upd H l (.lst ys))):=by
 intro ah s σ H xs us Q I r h
 obtain⟨p,ys,rfl,hq,q⟩:=h
 obtain⟨u,rfl,rx⟩:=vals1 r
 cases rx
 have fin:∀(its:List ao),bu ys its->ys.length<=aX->∀(h':bL) (c':Nat),(∀b o',s.heap.get? b=some o'->h'.get? b=some o')->
   h'.get? s.heap.objs.size=some {cls:=.type "list",dict:=none,data:=.seq its.toArray c',slots:=#[]}->EP X ah σ Q (.ref s.heap.objs.size) {s with heap:=h'}:=fun its r' hz h' c' kp e=>
  ⟨.ref s.heap.objs.size,_,I.laid (t':=s.toks) kp (br _) (show cD X.prog X.w _ h' _ (.lst ys) from⟨hz,its,c',r',e⟩),rfl,q _ (I.hok.fresh (br _))⟩
 rcases hq with hq | hq
 ·obtain⟨its,r',pl,hz⟩:=I.list hq
  have bC:=r'.length
  obtain⟨o,ho,hc,n,hd⟩:=pl.isList
  exact call_list_seq p (.inl rfl) ho hc hd (fun h' c' kp e=>fin its r' hz h' c' kp e) (by simp only[cV]<;>omega)
 ·obtain⟨its,r',pl,hz⟩:=I.tuple hq
  have bC:=r'.length
  obtain⟨o,ho,hc,n,hd⟩:=pl
  exact call_list_seq p (.inr rfl) ho hc hd (fun h' c' kp e=>fin its r' hz h' c' kp e) (by simp only[cV]<;>omega)
theorem anx:jq X (.type "tuple") (fun xs H Q=>∃p ys,xs=[.ref p]/\((dO X.K H p ys/\∀l,H l=none->Q (.ref l) (upd H l (.tup ys)))\/(gc X.K H p ys/\Q (.ref p) H))):=by
 intro ah s σ H xs us Q I r h
 obtain⟨p,ys,rfl,h⟩:=h
 obtain⟨u,rfl,rx⟩:=vals1 r
 cases rx
 rcases h with⟨hq,q⟩ | ⟨hq,q⟩
 ·obtain⟨its,r',pl,hz⟩:=I.list hq
  have bC:=r'.length
  refine call_tuple_list pl.isList (fun h' kp=>?_) (by simp only[cV]<;>omega)
  have I1:Inv X ah σ H {s with heap:=h'}:=I.kept (t':=s.toks) kp
  have I2:Inv X ah σ (upd H h'.objs.size (.tup ys)) {s with heap:=h'.push {cls:=.type "tuple",data:=.seq its.toArray}}:=
   I1.laid (t':=s.toks) (fun b o e=>cM _ e) (br _) (show cD X.prog X.w _ _ _ (.tup ys) from⟨hz,its,r',IsTup.new _ _⟩)
  exact⟨.ref h'.objs.size,_,I2,rfl,q _ (I1.hok.fresh (br _))⟩
 ·obtain⟨its,r',pl,hz⟩:=I.tuple hq
  exact call_tuple_same pl ⟨.ref p,H,I,rfl,q⟩
noncomputable def HJ(K:bG)(T:String)(x:V)(H:Hp):Prop:=match x with
 | .str _=>T = "str"
 | .int _=>T = "int"
 | .ref p=>(T = "list"/\∃xs,dO K H p xs)\/(T = "tuple"/\∃o,K.lookup p=some o/\o.cls=.type "tuple"/\o.dict=none)\/
   (T = "dict"/\((∃kvs,H p=some (.dK kvs))\/∃kvs,H p=some (.dT kvs)))\/(T = "set"/\∃S n,H p=some (.set S n))
 |_=>False
theorem alm{ah:List (aa×Obj)}{σ:St}{H:Hp}{s:aB}{T:String}{x:V}{v:ao}(I:Inv X ah σ H s)(r:RelV x v)(ty:HJ X.K T x H) :
  s.TypeIs v T/\∀a,v=.ref a->∃ob,s.heap.get? a=some ob/\ob.dict=none:=by
 cases x with
 |str z=>
  obtain⟨t,rfl⟩:=r
  cases(show T = "str" from ty)
  exact⟨typeIs_str s z t,fun _ e=>nomatch e⟩
 |int i=>
  obtain⟨t,rfl⟩:=r
  cases(show T = "int" from ty)
  exact⟨typeIs_int s i t,fun _ e=>nomatch e⟩
 |ref p=>
  cases r
  rcases ty with⟨rfl,xs,hq⟩ | ⟨rfl,o,hk,hc,hd⟩ | ⟨rfl,hk⟩ | ⟨rfl,S,n,hk⟩
  ·obtain⟨its,_,pl,_⟩:=I.list hq
   refine⟨pl.isList.typeIs,fun a e=>?_⟩
   cases e
   obtain⟨o,n,e,c,hd,_⟩:=pl
   exact⟨o,e,hd⟩
  ·refine⟨⟨o,I.gY p o hk,hc⟩,fun a e=>?_⟩
   cases e
   exact⟨o,I.gY _ o hk,hd⟩
  ·have z:∃o,s.heap.get? p=some o/\o.ExactDict:=by
    rcases hk with⟨kvs,hk⟩ | ⟨kvs,hk⟩
    ·obtain⟨_,_,_,_,o,_,_,e,ex,_⟩:=I.hok p _ hk
     exact⟨o,e,ex⟩
    ·obtain⟨_,_,_,_,o,_,_,e,ex,_⟩:=I.hok p _ hk
     exact⟨o,e,ex⟩
   obtain⟨o,e,ex⟩:=z
   refine⟨⟨o,e,ex.1⟩,fun a e2=>?_⟩
   cases e2
   exact⟨o,e,ex.2.1⟩
  ·obtain⟨o,_,_,_,e,ex,_⟩:=I.hok p _ hk
   refine⟨⟨o,e,ex.1⟩,fun a e2=>?_⟩
   cases e2
   exact⟨o,e,ex.2.1⟩
 |_=>exact jT ty
noncomputable def ax3(K:bG)(T:String)(r:V->List V->Hp->VK->Prop)(to:TE):TE:=fun σ H Q=>to σ H fun x H1=>HJ K T x H1/\r x [] H1 Q
noncomputable def tBM(K:bG)(T:String)(r:V->List V->Hp->VK->Prop)(to:TE)(t:TA):TE:=fun σ H Q=>to σ H fun x H1=>HJ K T x H1/\t σ H1 fun xs H2=>r x xs H2 Q
variable{o e:aZ}{es:List aZ}{to:TE}{t:TA}{name:Str}{jZ kI:Pos}{T id:String}{r:V->List V->Hp->VK->Prop}
theorem sJ(pa:PlainAttrs T)(slot:Slot T name id)(V8:typeOf (.builtin id)=pure (.type "method_descriptor")) (hm:Do X id r) (ho:PE X o to)
  (Vh:IV o name X.env (eval o X.env)=eval o X.env:=by rfl) (VM:(jZ.endLine == kI.line)=true:=by rfl):PE X (.Call (.Attribute o name jZ) [] [] kI) (ax3 X.K T r to):=by
 intro ah s σ H Q I h
 refine wpAny_Call_method0_late Vh VM (aV (ho ah s σ H _ I h) fun v s1 ⟨x,H1,I1,r1,ty,q1⟩=>?_)
 obtain⟨h1,h2⟩:=alm I1 r1 ty
 exact⟨T,id,pa,slot,V8,h1,h2,abv rfl (PySem.evalArgs_none (hm ah s1 σ H1 x [] v [] Q I1 r1 .nil q1))⟩
theorem ie(pa:PlainAttrs T)(slot:Slot T name id)(V8:typeOf (.builtin id)=pure (.type "method_descriptor")) (hm:Do X id r) (ho:PE X o to) (ha:PA X (e::es) t)
  (Vh:IV o name X.env (eval o X.env)=eval o X.env:=by rfl)
  (Vz:((jJ kI (dR (e::es) X.env)).all (fun x=>!x.1)&&(uJ kI (ve [] X.env)).all (fun x=>x.1.isSome)
   &&decide ((e::es).length+([]:List AZ).length+(if([]:List AZ).isEmpty then 0 else 1)<30))=true:=by rfl)
  (VM:(jZ.endLine == kI.line)=true:=by rfl) (hs:dR (e::es) X.env=(false,eval e X.env)::dR es X.env:=by rfl) (VZ:(jJ kI (dR es X.env)).any (·.1)=false:=by rfl) :
  PE X (.Call (.Attribute o name jZ) (e::es) [] kI) (tBM X.K T r to t):=by
 intro ah s σ H Q I h
 refine wpAny_Call_method_late Vh Vz VM rfl (aV (ho ah s σ H _ I h) fun v s1 ⟨x,H1,I1,r1,ty,q1⟩=>?_)
 obtain⟨h1,h2⟩:=alm I1 r1 ty
 refine⟨T,id,pa,slot,V8,h1,h2,?_⟩
 have hA:=ha kI ah s1 σ H1 _ I1 q1
 rw[hs]at hA ⊢
 refine abv (by show(false||(jJ kI (dR es X.env)).any (·.1))=false;rw[VZ]<;>rfl) (alN ?_)
 exact aV hA fun us s2 ⟨vs,H2,I2,r2,q2⟩=>hm ah s2 σ H2 x vs v us Q I2 r1 r2 q2
/- xs.append(e),list.index on a module's tuple .. are Do facts of 06m -/
end
noncomputable def A6(X:Cx)(id:String)(r:V->List V->Hp->VK->Prop):Prop:=
 ∀(ah:List (aa×Obj)) (s:aB) (σ:St) (H:Hp) (x:V) (xs:List V) (v:ao) (us:List ao) (Q:VK),Inv X ah σ H s->RelV x v->bu xs us->r x xs H Q->
  aK (aN X.prog X.w) X.A (call (.builtin id) (v::us)) (EP X ah σ Q) X.xe s
theorem bu.one{x:V}{us:List ao}(h:bu [x] us):∃u,us=[u]/\RelV x u:=by
 cases h with
 |cons r t=>
  cases t
  exact⟨_,rfl,r⟩
theorem bu.two{x y:V}{us:List ao}(h:bu [x,y] us):∃u v,us=[u,v]/\RelV x u/\RelV y v:=by
 cases h with
 |cons r t=>
  obtain⟨v,rfl,q⟩:=bu.one t
  exact⟨_,_,rfl,r,q⟩
theorem bu.zero:∀ {us:List ao},bu [] us->us=[]
 |_,.nil=>rfl
theorem bu.dropLast{xs:List V}{us:List ao}(h:bu xs us):bu xs.dropLast us.dropLast:=by
 induction h with
 |nil=>exact .nil
 |cons r t ih=>
  cases t with
  |nil=>exact .nil
  |cons q t'=>exact .cons r ih
theorem bu.eraseIdx:∀ {xs:List V} {us:List ao} (i:Nat),bu xs us->bu (xs.eraseIdx i) (us.eraseIdx i)
 |_,_,_,.nil=>.nil
 |_,_,0,.cons _ t=>t
 |_,_,i+1,.cons r t=>.cons r (bu.eraseIdx i t)
theorem bu.reverse{xs:List V}{us:List ao}(h:bu xs us):bu xs.reverse us.reverse:=by
 induction h with
 |nil=>exact .nil
 |cons r t ih=>rw[List.reverse_cons,List.reverse_cons];exact bu.append ih (.cons r .nil)
theorem bu.rep{xs:List V}{us:List ao}(h:bu xs us):∀k:Nat,bu (fj k xs).flatten (fj k us).flatten
 | 0=>.nil
 |k+1=>by
  rw[rJ,rJ,jG,jG]
  exact bu.append h (bu.rep h k)
theorem aob{α:Type}(l:List α):l.eraseIdx (l.length-1)=l.dropLast:=by
 induction l with
 |nil=>rfl
 |cons a r ih=>
  cases r with
  |nil=>rfl
  |cons b r=>
   have e:(a::b::r).length-1=((b::r).length-1)+1:=by
    have h1:(a::b::r).length=r.length+2:=rfl
    have h2:(b::r).length=r.length+1:=rfl
    omega
   rw[e,Iv,ih]
   all_goals rfl
theorem aiF{α:Type}:∀(l:List α) (i:Nat),(l.eraseIdx i).length<=l.length
 | [],_=>br _
 |_::_,0=>uw _
 |_::r,i+1=>Nat.succ_le_succ (aiF r i)
theorem foldl_rep(its:List ao):∀(k:Nat) (aE:List ao),
  A4 (fun x1 x2=>x1++x2) aE.toArray (fj k its.toArray)=(aE++(fj k its).flatten).toArray
 | 0,aE=>by simp
 |k+1,aE=>by
  have e:aE.toArray++its.toArray=(aE++its).toArray:=by simp
  have e2:(aE++its)++(fj k its).flatten=aE++(fj (k+1) its).flatten:=by
   rw[rJ,jG,fZ]
  rw[<- e2,<- foldl_rep its k (aE++its),<- e,rJ,List.foldl_cons]
section
variable{X:Cx}{ah:List (aa×Obj)}{σ:St}{H:Hp}{s:aB}{l b:aa}{xs ys zs:List V}
theorem Inv.FJ{its its':List ao}{n:Nat}{f:Array ao->Array ao}{t':Nat}(I:Inv X ah σ H s)(hH:H l=some (.lst xs))
  (e:s.heap.get? l=some {cls:=.type "list",data:=.seq its.toArray n}) (hf:f its.toArray=its'.toArray) (hv:bu ys its') (hz:ys.length<=aX) :
  Inv X ah σ (upd H l (.lst ys)) {s with heap:=s.heap.update l (eE f),toks:=t'}:=by
 have q:=PySem.IsL.update e f
 rw[hf]at q
 refine I.write (x:=l) (e:=l) (by rw[hH];exact trivial) (.inl rfl) (fun b' u hb hu=>(pU s.heap (eE f) (dB hb)).trans hu) ⟨_,q⟩ ?_
 exact⟨hz,its',_,hv,q⟩
theorem Inv.YY{its:List ao}{t':Nat}(I:Inv X ah σ H s)(hv:bu ys its)(hz:ys.length<=aX) :
  Inv X ah σ (upd H s.heap.objs.size (.lst ys)) {s with heap:=s.heap.push {cls:=.type "list",data:=.seq its.toArray},toks:=t'}:=
 I.laid (fun _ _ q=>cM _ q) (br _) ⟨hz,its,0,hv,gn _ rfl⟩
theorem Inv.fresh(I:Inv X ah σ H s):H s.heap.objs.size=none:=I.hok.fresh (br _)
theorem Inv.vh(I:Inv X ah σ H s)(hH:H l=some (.lst xs)):xs.length<=aX/\∃(its:List ao) (n:Nat),bu xs its/\xs.length=its.length/\s.heap.get? l=some {cls:=.type "list",data:=.seq its.toArray n}:=by
 obtain⟨z,its,n,r,e⟩:=I.hok l _ hH
 exact⟨z,its,n,r,r.length,e⟩
theorem Zz{n:Nat}(h:n<=aX):AL n=false:=by
 unfold AL
 exact decide_eq_false (by omega)
end
section
variable{X:Cx}
noncomputable def auL:V->List V->Hp->VK->Prop:=fun x vs H Q=>∃l xs y,x=.ref l/\vs=[y]/\H l=some (.lst xs)/\xs.length<aX/\Q .cF (upd H l (.lst (xs++[y])))
theorem oA:A6 X "list.append" auL:=by
 intro ah s σ H x vs v us Q I rx rv h
 obtain⟨l,xs,y,rfl,rfl,hH,hz,q⟩:=h
 cases rx
 obtain⟨u,rfl,ru⟩:=rv.one
 obtain⟨z,its,n,r,hl,e⟩:=I.vh hH
 refine DV F.slot_list_append ⟨_,e,rfl⟩ F.entry_list_append (F.args_list_append_2 _ _) (PySem.list_append l its.toArray n u (by rw[cV];omega)) ⟨e,?_⟩
 refine⟨.cF,_,I.FJ (its':=its++[u]) hH e (by simp) (r.append (.cons ru .nil)) ?_,rfl,q⟩
 rw[bW,abQ]
 omega
noncomputable def auO:V->List V->Hp->VK->Prop:=fun x vs H Q=>∃l b xs zs,x=.ref l/\vs=[.ref b]/\H l=some (.lst xs)/\H b=some (.lst zs)/\xs.length+zs.length<=aX/\Q .cF (upd H l (.lst (xs++zs)))
theorem Cg:A6 X "list.extend" auO:=by
 intro ah s σ H x vs v us Q I rx rv h
 obtain⟨l,b,xs,zs,rfl,rfl,hH,hB,hz,q⟩:=h
 cases rx
 obtain⟨u,rfl,ru⟩:=rv.one
 cases ru
 obtain⟨z,its,n,r,hl,e⟩:=I.vh hH
 obtain⟨z2,jy,n2,r2,cE,e2⟩:=I.vh hB
 have hsz:its.toArray.size+jy.toArray.size<=sizeLine:=by rw[cV,cV];omega
 have EM:¬(!its.toArray.isEmpty&&AL (its.toArray.size+jy.toArray.size))=true:=by
  rw[Zz hsz,HV]
  exact gw
 refine DV F.slot_list_extend ⟨_,e,rfl⟩ F.entry_list_extend (F.args_list_extend_2 _ _)
  (AutoSeq1.list_extend_list_list_0 l its.toArray n b jy.toArray n2 EM (by rw[cV];omega) (by omega)) ⟨e,e2,?_⟩
 refine⟨.cF,_,I.FJ (its':=its++jy) hH e (by simp) (r.append r2) ?_,rfl,q⟩
 rw[bW]
 omega
noncomputable def auQ:V->List V->Hp->VK->Prop:=fun x vs H Q=>∃l xs y,x=.ref l/\vs=[]/\H l=some (.lst xs)/\xs[xs.length-1]?=some y/\Q y (upd H l (.lst xs.dropLast))
theorem aqT:A6 X "list.pop" auQ:=by
 intro ah s σ H x vs v us Q I rx rv h
 obtain⟨l,xs,y,rfl,rfl,hH,hy,q⟩:=h
 cases rx
 have hus:=rv.zero
 subst hus
 obtain⟨z,its,n,r,hl,e⟩:=I.vh hH
 obtain⟨u,hu,ru⟩:=r.get hy
 have hy':its.toArray[its.toArray.size-1]?=some u:=by
  show its.toArray[its.length-1]?=some u
  rw[<- Nq,<- hl]
  exact hu
 refine DV F.slot_list_pop ⟨_,e,rfl⟩ F.entry_list_pop (F.args_list_pop_1 _) (MeetsSeq.list_pop_last l its.toArray n u hy' (by rw[cV];omega)) ⟨e,?_⟩
 refine⟨y,_,I.FJ (its':=its.dropLast) hH e ?_ r.dropLast ?_,ru,q⟩
 ·show its.toArray.eraseIdxIfInBounds (its.toArray.size-1)=its.dropLast.toArray
  rw[cV,amA,aob]
 ·rw[amI]
  omega
noncomputable def auR:V->List V->Hp->VK->Prop:=fun x vs H Q=>∃l xs i k y,x=.ref l/\vs=[.int i]/\H l=some (.lst xs)/\-(2^63)<=i/\i<2^63/\seqIndex? i xs.length=some k/\xs[k]?=some y/\Q y (upd H l (.lst (xs.eraseIdx k)))
theorem aiP:A6 X "list.pop" auR:=by
 intro ah s σ H x vs v us Q I rx rv h
 obtain⟨l,xs,i,k,y,rfl,rfl,hH,h1,h2,hk,hy,q⟩:=h
 cases rx
 obtain⟨u,rfl,ru⟩:=rv.one
 obtain⟨t,rfl⟩:=ru
 obtain⟨z,its,n,r,hl,e⟩:=I.vh hH
 obtain⟨w,hw,kW⟩:=r.get hy
 refine DV F.slot_list_pop ⟨_,e,rfl⟩ F.entry_list_pop (F.args_list_pop_2 _ _)
  (MeetsSeq.list_pop_at l its.toArray n i t k w (fitsIndex_both h1 h2) (by rw[cV,<- hl];exact hk) (by rw[<- Nq];exact hw) (by rw[cV];omega)) ⟨e,?_⟩
 refine⟨y,_,I.FJ (its':=its.eraseIdx k) hH e ?_ (r.eraseIdx k) ?_,kW,q⟩
 ·show its.toArray.eraseIdxIfInBounds k=(its.eraseIdx k).toArray
  rw[amA]
 ·have:=aiF xs k
  omega
noncomputable def auM:R2:=fun x y H Q=>∃l b xs zs,x=.ref l/\y=.ref b/\H l=some (.lst xs)/\H b=some (.lst zs)/\xs.length+zs.length<=aX/\∀p,H p=none->Q (.ref p) (upd H p (.lst (xs++zs)))
theorem yK:fQ X (zF .Add) auM:=by
 intro ah s σ H x y v u Q I rx ry h
 obtain⟨l,b,xs,zs,rfl,rfl,hH,hB,hz,q⟩:=h
 cases rx
 cases ry
 obtain⟨z,its,n,r,hl,e⟩:=I.vh hH
 obtain⟨z2,jy,n2,r2,cE,e2⟩:=I.vh hB
 refine PySem.P.add_list e e2 ?_ (by rw[cV,cV];omega)
 have ea:its.toArray++jy.toArray=(its++jy).toArray:=by simp
 rw[ea]
 exact⟨.ref _,_,I.YY (t':=s.toks) (r.append r2) (by rw[bW];omega),rfl,q _ I.fresh⟩
noncomputable def auS:R2:=fun x y H Q=>∃l k xs,x=.ref l/\y=.int k/\H l=some (.lst xs)/\-(2^63)<=k/\k<2^63/\xs.length*k.toNat<=aX/\
 ∀p,H p=none->Q (.ref p) (upd H p (.lst (fj k.toNat xs).flatten))
theorem aiG{α:Type}(xs:List α)(k:Nat):(fj k xs).flatten.length=k*xs.length:=by
 induction k with
 |zero=>simp
 |succ k ih=>rw[rJ,jG,bW,ih,IK,Ob]
theorem ZM:fQ X (zF .Mult) auS:=by
 intro ah s σ H x y v u Q I rx ry h
 obtain⟨l,k,xs,rfl,rfl,hH,h1,h2,hz,q⟩:=h
 cases rx
 obtain⟨t,rfl⟩:=ry
 obtain⟨z,its,n,r,hl,e⟩:=I.vh hH
 have bC:its.toArray.size*k.toNat<=sizeLine:=by rw[cV,<- hl];exact hz
 have aoF:¬its.toArray.size*k.toNat>(2^63-1)/8:=by
  have:(aX:Nat)<=(2^63-1)/8:=by decide
  omega
 have aoL:¬(!Builtin.List.listFitsIndex k)=true:=by
  rw[fitsIndex_both h1 h2]
  exact gw
 have EM:¬AL (its.toArray.size*k.toNat)=true:=by
  rw[Zz bC]
  exact gw
 have apq:A4 (fun x1 x2=>x1++x2) #[] (fj (if its.toArray.isEmpty=true then 0 else k.toNat) its.toArray)=(fj k.toNat its).flatten.toArray:=by
  have f0:∀m:Nat,A4 (fun x1 x2=>x1++x2) #[] (fj m its.toArray)=(fj m its).flatten.toArray:=fun m=>by
   have:=foldl_rep its m []
   rw[List.nil_append]at this
   exact this
  rw[f0]
  cases its with
  |nil=>simp
  |cons a r'=>rw[if_neg (by simp)]
 refine wpAny_binaryOp_repeat_ref (T:="list") (U:="int") (by decide) ⟨_,e,rfl⟩ (fun s'=>typeIs_int s' k t) noFill_list_mul F.fills_int_mul F.slot_int_rmul repeat_list F.slot_int_index.lookup
  (DV F.slot_int_rmul (typeIs_int s k t) F.entry_int_rmul (F.args_int_rmul_2 _ _) (int___rmul___int_list k t l its.toArray n)
   ⟨e,rfl,⟨_,e,rfl⟩,DV F.slot_list_mul ⟨_,e,rfl⟩ F.entry_list_mul (F.args_list_mul_2 _ _) (AutoListH.list___mul___list_int_3 l its.toArray n k t aoL aoF EM) ⟨e,?_⟩⟩)
 rw[apq]
 exact⟨.ref _,_,I.YY (t':=s.toks) (r.rep k.toNat) (by rw[aiG,Nat.mul_comm];exact hz),rfl,q _ I.fresh⟩
end
end L2
namespace L2
open PySem PySem.Spec PyProof.Rows
section
variable{κ:Type}[DecidableEq κ]
noncomputable def gj(kvs:List (κ×V))(k:κ):Option V:=(kvs.find? fun kv=>decide (kv.1=k)).map (·.2)
noncomputable def mH(kvs:List (κ×V))(k:κ)(v:V):List (κ×V):=
 if(kvs.any fun kv=>decide (kv.1=k))=true then kvs.map (fun kv=>if kv.1=k then(kv.1,v)else kv)else kvs++[(k,v)]
theorem qV{p:κ×V}{r:List (κ×V)}{k:κ}(e:p.1=k):gj (p::r) k=some p.2:=by simp[gj,rG,e]
theorem qU{p:κ×V}{r:List (κ×V)}{k:κ}(e:¬p.1=k):gj (p::r) k=gj r k:=by simp[gj,rG,e]
theorem Ng(k:κ):∀kvs:List (κ×V),(kvs.any fun kv=>decide (kv.1=k))=(gj kvs k).isSome
 | []=>rfl
 |p::r=>by
  rw[A0]
  by_cases e:p.1=k
  ·simp only[qV e,decide_eq_true e,Bool.true_or,IL]
  ·rw[qU e,decide_eq_false e,Bool.false_or];exact Ng k r
theorem alr(k j:κ)(y:V):∀kvs:List (κ×V),gj (kvs.map fun kv=>if kv.1=k then(kv.1,y)else kv) j=(gj kvs j).map fun x=>if j=k then y else x
 | []=>rfl
 |p::r=>by
  have ih:=alr k j y r
  rw[dM]
  by_cases h:p.1=k
  ·rw[if_pos h]
   by_cases e:p.1=j
   ·rw[qV (p:=(p.1,y)) e,qV e,Oi,if_pos (e.symm.trans h)]
   ·rw[qU (p:=(p.1,y)) e,qU e,ih]
  ·rw[if_neg h]
   by_cases e:p.1=j
   ·rw[qV (p:=p) e,qV e,Oi,if_neg (fun z=>h (e.trans z))]
   ·rw[qU (p:=p) e,qU e,ih]
theorem als(k j:κ)(y:V):∀kvs:List (κ×V),gj kvs k=none->gj (kvs++[(k,y)]) j=if j=k then some y else gj kvs j
 | [],_=>by
  by_cases e:k=j
  ·rw[if_pos e.symm];exact qV (p:=(k,y)) e
  ·rw[if_neg (fun z=>e z.symm)];exact qU (p:=(k,y)) e
 |p::r,hn=>by
  rw[List.cons_append]
  have hk:¬p.1=k:=fun z=>by rw[qV z]at hn;cases hn
  rw[qU hk]at hn
  have ih:=als k j y r hn
  by_cases e:p.1=j
  ·rw[qV e,qV e,if_neg (fun z=>hk (e.trans z))]
  ·rw[qU e,qU e,ih]
theorem ay3(kvs:List (κ×V))(k j:κ)(y:V):gj (mH kvs k y) j=if j=k then some y else gj kvs j:=by
 unfold mH
 by_cases a:(kvs.any fun kv=>decide (kv.1=k))=true
 ·rw[if_pos a,alr]
  rw[Ng]at a
  by_cases e:j=k
  ·obtain⟨x,hx⟩:=acd.mp a
   rw[if_pos e,e,hx,Oi,if_pos rfl]
  ·rw[if_neg e]
   cases gj kvs j with
   |none=>rfl
   |some x=>rw[Oi,if_neg e]
 ·rw[if_neg a]
  refine als k j y kvs ?_
  rw[Ng]at a
  cases q:gj kvs k with
  |none=>rfl
  |some x=>rw[q]at a;exact(a rfl).elim
theorem aiI(kvs:List (κ×V))(k:κ)(v:V):(mH kvs k v).length<=kvs.length+1:=by
 unfold mH
 split
 ·rw[aC];omega
 ·rw[bW,gF,List.length_nil];omega
theorem jX.Wu{o:Option V}{u:Option ao}(r:jX o u):o.isSome=u.isSome:=by
 cases o with
 |none=>cases u with
  |none=>rfl
  |some _=>exact(show False from r).elim
 |some _=>cases u with
  |none=>exact(show False from r).elim
  |some _=>rfl
theorem jX.getD{o:Option V}{u:Option ao}{d:V}{d':ao}(r:jX o u)(rd:RelV d d'):RelV (o.getD d) (u.getD d'):=by
 cases o with
 |none=>cases u with
  |none=>exact rd
  |some _=>exact(show False from r).elim
 |some _=>cases u with
  |none=>exact(show False from r).elim
  |some _=>exact r
theorem KV.val{kvs:List (κ×V)}{vs:List (κ×ao)}(r:KV kvs vs)(k:κ):jX (gj kvs k) (CO vs k):=by
 unfold KV at r
 induction r with
 |nil=>exact rO
 | @cons p q ps qs h t ih=>
  obtain⟨h1,h2⟩:=h
  by_cases e:p.1=k
  ·have e':q.1=k:=h1.symm.trans e
   have b:CO (q::qs) k=some q.2:=by simp[CO,rG,e']
   rw[qV e,b];exact h2
  ·have e':¬q.1=k:=fun z=>e (h1.trans z)
   have b:CO (q::qs) k=CO qs k:=by simp[CO,rG,e']
   rw[qU e,b];exact ih
theorem KV.any{kvs:List (κ×V)}{vs:List (κ×ao)}(r:KV kvs vs)(k:κ):(kvs.any fun kv=>decide (kv.1=k))=vs.any fun kv=>decide (kv.1=k):=by
 unfold KV at r
 induction r with
 |nil=>rfl
 |cons h t ih=>rw[A0,A0,ih,h.1]
theorem KV.repl{kvs:List (κ×V)}{vs:List (κ×ao)}(r:KV kvs vs)(k:κ){y:V}{u:ao}(ry:RelV y u) :
  KV (kvs.map fun kv=>if kv.1=k then(kv.1,y)else kv) (vs.map fun kv=>if kv.1=k then(kv.1,u)else kv):=by
 unfold KV at r ⊢
 induction r with
 |nil=>exact .nil
 | @cons p q ps qs h t ih=>
  rw[dM,dM]
  refine .cons ?_ ih
  obtain⟨h1,h2⟩:=h
  by_cases e:p.1=k
  ·rw[if_pos e,if_pos (h1.symm.trans e)];exact⟨h1,ry⟩
  ·rw[if_neg e,if_neg (fun z=>e (h1.trans z))];exact⟨h1,h2⟩
theorem KV.put{kvs:List (κ×V)}{vs:List (κ×ao)}(r:KV kvs vs)(k:κ){y:V}{u:ao}(ry:RelV y u):KV (mH kvs k y) (stored vs k u):=by
 unfold mH stored
 rw[r.any k]
 by_cases e:(vs.any fun kv=>decide (kv.1=k))=true
 ·rw[if_pos e,if_pos e];exact r.repl k ry
 ·rw[if_neg e,if_neg e];exact Paired.snoc r ⟨rfl,ry⟩
theorem KV.length{kvs:List (κ×V)}{vs:List (κ×ao)}(r:KV kvs vs):kvs.length=vs.length:=aci r
end
theorem Ff{P:cH}{w:cj}{k:Key}{u:ao}(r:RelV (kV k) u):(iE P w).is k u=true:=by
 cases k with
 |inl i=>obtain⟨t,e⟩:=(show ∃t,u=uG i t from r);subst e;exact aqQ P w i t
 |inr x=>obtain⟨t,e⟩:=(show ∃t,u=IT x t from r);subst e;exact aqR P w x t
theorem ahp{P:cH}{w:cj}:∀ {ks:List Key} {us:List ao},bu (ks.map kV) us->ItemsAre (iE P w) ks us
 | [],_,r=>by rw[N4]at r;cases r;exact .nil
 |k::ks,_,r=>by
  rw[dM]at r
  cases r with
  |cons h t=>exact .cons (Ff h) (ahp t)
noncomputable abbrev KT(H:Hp):List (List Key×V)->List (List Key×aa×ao)->Prop:=Paired fun p q=>p.1=q.1/\H q.2.1=some (.tup (p.1.map kV))/\RelV p.2 q.2.2
theorem KT.val{H:Hp}{kvs:List (List Key×V)}{xs:List (List Key×aa×ao)}(r:KT H kvs xs)(k:List Key):jX (gj kvs k) ((xQ xs k).map (·.2)):=by
 induction r with
 |nil=>exact rO
 | @cons p q ps qs h t ih=>
  obtain⟨h1,_,h2⟩:=h
  by_cases e:p.1=k
  ·have e':q.1=k:=h1.symm.trans e
   have b:xQ (q::qs) k=some q.2:=by simp[xQ,rG,e']
   rw[qV e,b];exact h2
  ·have e':¬q.1=k:=fun z=>e (h1.trans z)
   have b:xQ (q::qs) k=xQ qs k:=by simp[xQ,rG,e']
   rw[qU e,b];exact ih
theorem KT.repl{H:Hp}{kvs:List (List Key×V)}{xs:List (List Key×aa×ao)}(r:KT H kvs xs)(k:List Key){y:V}{u:ao}(ry:RelV y u) :
  KT H (kvs.map fun kv=>if kv.1=k then(kv.1,y)else kv) (xs.map (putAt k u)):=by
 induction r with
 |nil=>exact .nil
 | @cons p q ps qs h t ih=>
  rw[dM,dM]
  refine .cons ?_ ih
  obtain⟨h1,h2,h3⟩:=h
  unfold putAt
  by_cases e:p.1=k
  ·rw[if_pos e,if_pos (h1.symm.trans e)];exact⟨h1,h2,ry⟩
  ·rw[if_neg e,if_neg (fun z=>e (h1.trans z))];exact⟨h1,h2,h3⟩
theorem KT.put{H:Hp}{kvs:List (List Key×V)}{xs:List (List Key×aa×ao)}(r:KT H kvs xs)(k:List Key){b:aa}{y:V}{u:ao}(hb:H b=some (.tup (k.map kV)))(ry:RelV y u) :
  KT H (mH kvs k y) (storedH xs k b u):=by
 have e:(kvs.any fun kv=>decide (kv.1=k))=(xQ xs k).isSome:=by
  rw[Ng,(r.val k).Wu,amS]
 unfold mH storedH
 rw[e]
 by_cases q:(xQ xs k).isSome=true
 ·rw[if_pos q,if_pos q];exact r.repl k ry
 ·rw[if_neg q,if_neg q];exact Paired.snoc r ⟨rfl,hb,ry⟩
theorem KT.keeps{H H':Hp}{kvs:List (List Key×V)}{xs:List (List Key×aa×ao)}(r:KT H kvs xs)(ht:∀b ys,H b=some (.tup ys)->H' b=some (.tup ys)):KT H' kvs xs:=
 Paired.Y5 r fun _ _ z=>⟨z.1,ht _ _ z.2.1,z.2.2⟩
section
variable{P:cH}{w:cj}{H:Hp}{h:bL}{a:aa}
theorem aks{u:HO}(ok:eW P w H h)(e:Rd H a u):cD P w H h a u:=e.ok ok
theorem Bm{kvs:List (Key×V)}(ok:eW P w H h)(e:Rd H a (.dK kvs)):kvs.length<=aX/\(a == tM)=false/\∃vs,KV kvs vs/\h.DictOf (iE P w) a vs:=
 show cD P w H h a (.dK kvs)from aks ok e
theorem x6{kvs:List (Key×V)}(ok:eW P w H h)(e:H a=some (.dK kvs)):kvs.length<=aX/\(a == tM)=false/\∃vs,KV kvs vs/\h.DictOf (iE P w) a vs:=Bm ok (.inl e)
theorem Fi{ks:List Key}(ok:eW P w H h)(e:H a=some (.tup (ks.map kV))):(HG (iE P w)).is h ks a:=by
 obtain⟨_,its,r,o,h1,h2,n,h3⟩:=(show cD P w H h a (.tup (ks.map kV))from ok a _ e)
 exact⟨o,its.toArray,n,h1,h2,h3,by simpa using ahp r⟩
theorem Bo{kvs:List (List Key×V)}(ok:eW P w H h)(e:Rd H a (.dT kvs)):kvs.length<=aX/\(a == tM)=false/\
  ∃xs,KT H kvs xs/\h.DictOfH (HG (iE P w)) a xs:=by
 obtain⟨z,y,xs,r,o,es,ep,h1,h2,h3,h4,h5⟩:=(show cD P w H h a (.dT kvs)from aks ok e)
 refine⟨z,y,xs,r,o,es,ep,h1,h2,h3,h4,fun x hx=>?_,h5⟩
 have all:∀ {l:List (List Key×V)} {m:List (List Key×aa×ao)},KT H l m->∀x∈m,(HG (iE P w)).is h x.1 x.2.1:=by
  intro l m q
  induction q with
  |nil=>intro x hx;exact nomatch hx
  | @cons p q ps qs hq t ih=>
   intro x hx
   rcases dY.mp hx with e | hx
   ·subst e
    exact Fi ok (by rw[<- hq.1];exact hq.2.1)
   ·exact ih x hx
 exact all r x hx
theorem anW{kvs:List (List Key×V)}(ok:eW P w H h)(e:H a=some (.dT kvs)):kvs.length<=aX/\(a == tM)=false/\
  ∃xs,KT H kvs xs/\h.DictOfH (HG (iE P w)) a xs:=Bo ok (.inl e)
end
noncomputable def gm(H:Hp)(a:aa)(y:V)(r:Option V):Prop:=
 (∃kvs k,Rd H a (.dK kvs)/\y=kV k/\r=gj kvs k)\/∃kvs k b,Rd H a (.dT kvs)/\y=.ref b/\H b=some (.tup (k.map kV))/\r=gj kvs k
noncomputable def uc(H:Hp)(a:aa)(y v:V)(H':Hp):Prop:=
 (∃kvs k,H a=some (.dK kvs)/\y=kV k/\kvs.length<aX/\H'=upd H a (.dK (mH kvs k v)))\/
 ∃kvs k b,H a=some (.dT kvs)/\y=.ref b/\H b=some (.tup (k.map kV))/\kvs.length<aX/\H'=upd H a (.dT (mH kvs k v))
theorem gm.k{H:Hp}{a:aa}{kvs:List (Key×V)}{k:Key}(e:H a=some (.dK kvs)):gm H a (kV k) (gj kvs k):=.inl ⟨kvs,k,.inl e,rfl,rfl⟩
theorem uc.k{H:Hp}{a:aa}{kvs:List (Key×V)}{k:Key}{v:V}(e:H a=some (.dK kvs))(hl:kvs.length<aX):uc H a (kV k) v (upd H a (.dK (mH kvs k v))):=.inl ⟨kvs,k,e,rfl,hl,rfl⟩
section
variable{X:Cx}{ah:List (aa×Obj)}{σ:St}{H:Hp}{s:aB}{a:aa}{y v:V}{u r:ao}{o:Option V}{A:cS}{E:ao->aB->Prop}
theorem Inv.big(I:Inv X ah σ H s):tM<s.heap.objs.size:=by
 have h:bx<s.heap.objs.size:=(I.mod.glob.keeps I.bk).lt
 exact IJ (by decide) h
theorem anK{Q:ao->aB->Prop}(hu:A.units+1<nU)(I:Inv X ah σ H s)(g:gm H a y (some v))(ry:RelV y u)(h:∀w' s',Inv X ah σ H s'->RelV v w'->Q w' s') :
  aK (aN X.prog X.w) A (zS (.ref a) u) Q E s:=by
 rcases g with⟨kvs,k,e,ey,l⟩ | ⟨kvs,k,b,e,ey,eb,l⟩
 ·subst ey
  obtain⟨z,hd,vs,cQ,dd⟩:=Bm I.hok e
  obtain⟨w',hw,kW⟩:=jX.some_of (v:=v) (o:=CO vs k) (by rw[l];exact cQ.val k)
  exact wpAny_getItem_of (Ff ry) dd.mapOf hw (h w' _ (I.tok _) kW)
 ·subst ey
  cases(show u=cI b from ry)
  obtain⟨z,hd,xs,cQ,dd⟩:=Bo I.hok e
  obtain⟨w',hw,kW⟩:=jX.some_of (v:=v) (o:=(xQ xs k).map (·.2)) (by rw[l];exact cQ.val k)
  obtain⟨p,hp,mj⟩:=Option.map_eq_some_iff.mp hw
  refine wpAny_getItem_heap (aaL hu) (Fi I.hok eb) dd hp ?_
  rw[mj]
  exact h w' _ (I.tok _) kW
theorem anL{Q:ao->aB->Prop}(hu:A.units+1<nU)(I:Inv X ah σ H s)(g:gm H a y o)(ry:RelV y u)(h:∀s',Inv X ah σ H s'->Q (.bool o.isSome) s') :
  aK (aN X.prog X.w) A (jK .In u (.ref a)) Q E s:=by
 rcases g with⟨kvs,k,e,ey,l⟩ | ⟨kvs,k,b,e,ey,eb,l⟩
 ·subst ey
  obtain⟨z,hd,vs,cQ,dd⟩:=Bm I.hok e
  refine wpAny_in_of (Ff ry) hd dd.mapOf ?_
  rw[<- (cQ.val k).Wu,<- l]
  exact h _ (I.tok _)
 ·subst ey
  cases(show u=cI b from ry)
  obtain⟨z,hd,xs,cQ,dd⟩:=Bo I.hok e
  refine wpAny_in_heap (aaL hu) (Fi I.hok eb) hd dd ?_
  have q:=(cQ.val k).Wu
  rw[amS]at q
  rw[<- q,<- l]
  exact h _ (I.tok _)
theorem afg{h':bL}{t':Nat}{ob:HO}(I:Inv X ah σ H s)(mu:Dp (H a))(hs:Il a s.heap h')(he:∃q,h'.get? a=some q)(new:cD X.prog X.w (upd H a ob) h' a ob) :
  Inv X ah σ (upd H a ob) {s with heap:=h',toks:=t'}:=
 I.write (x:=a) (e:=a) mu (.inl rfl) (fun b q hb z=>(hs.2 b hb).trans z) he new
theorem anT{P:cH}{w:cj}{H':Hp}{h':bL}{kvs:List (Key×V)}{vs:List (Key×ao)}(z:kvs.length<=aX)(hd:(a == tM)=false)(cQ:KV kvs vs)(dd:h'.DictOf (iE P w) a vs) :
  cD P w H' h' a (.dK kvs):=⟨z,hd,vs,cQ,dd⟩
theorem anM{H':Hp}{Q:Unit->aB->Prop}(hu:A.units+1<nU)(I:Inv X ah σ H s)(g:uc H a y v H')(ry:RelV y u)(rv:RelV v r)(h:∀s',Inv X ah σ H' s'->Q () s') :
  aK (aN X.prog X.w) A (MS (.ref a) u r) Q E s:=by
 rcases g with⟨kvs,k,e,ey,l,eH⟩ | ⟨kvs,k,b,e,ey,eb,l,eH⟩
 ·subst ey eH
  obtain⟨z,hd,vs,cQ,dd⟩:=x6 I.hok e
  have hz:vs.length<=sizeLine:=by rw[<- cQ.length];exact z
  have hl:(mH kvs k v).length<=sizeLine:=by have:=aiI kvs k v;omega
  refine wpAny_setItem_pairs (hsz:=hz) (Ff ry) dd fun h' Jg hs=>h _ ?_
  have he:∃q,h'.get? a=some q:=let ⟨q,_,_,hq,_⟩:=Jg;⟨q,hq⟩
  exact afg I (by rw[e];exact rO) hs he (anT hl hd (cQ.put k rv) Jg)
 ·subst ey eH
  cases(show u=cI b from ry)
  obtain⟨z,hd,xs,cQ,dd⟩:=anW I.hok e
  have hz:xs.length<=sizeLine:=by rw[<- aci cQ];exact z
  have hl:(mH kvs k v).length<=sizeLine:=by have:=aiI kvs k v;omega
  refine wpAny_setItem_heap (hsz:=hz) (aaL hu) (Fi I.hok eb) dd fun h' Jg hs=>h _ ?_
  obtain⟨q,es,ep,hq,h2,h3,h4,_,h5⟩:=Jg
  refine afg I (by rw[e];exact rO) hs ⟨q,hq⟩ ⟨hl,hd,_,(cQ.put k eb rv).keeps fun c ys ec=>?_,q,es,ep,hq,h2,h3,h4,h5⟩
  rw[aA (kh ec e (fun z=>nomatch z))]
  exact ec
end
noncomputable def ab'(i:aZ):Prop:=∀ov iv,aaD i false ov iv=operate [ov,iv] (zS ov iv)
theorem axW{prog:cH}{w:cj}{A:cS}{E:ao->aB->Prop}{s:aB}{env:Env}{value wZ:aZ}{pos:Pos}{T id:String}{Q:ao->aB->Prop}
  (hl:aaN (.type T) "__getitem__" = pure (some (.builtin id))) (hs:ab' wZ)
  (h:aK (aN prog w) A (eval value env) (fun o s₁=>aK (aN prog w) A (eval wZ env) (fun i s₂=>s₂.TypeIs o T/\aK (aN prog w) A (zS o i) Q E s₂) E s₁) E s) :
  aK (aN prog w) A (eval (.Subscript value wZ pos) env) Q E s:=by
 refine DB (iP h (fun o s₁ h₁=>iP h₁ (fun i s₂ h₂=>?_) fun _ _ x=>x) fun _ _ x=>x)
 obtain⟨hT,h₂⟩:=h₂
 unfold HB
 refine aF ?_
 rw[getitemInPython_of_ne hT.not_modules]
 refine aF (aa0 hT hl ?_)
 have fin:aK (aN prog w) A (aaD wZ false o i) (fun r s₃=>aK (aN prog w) A (letTemporaryGo value o r >>= fun _=>pure r) Q E s₃) E s₂:=by
  rw[hs o i]
  exact wpAny_operating (iP h₂ (fun r s₃ h₃=>aF (wpAny_letTemporaryGo (bJ h₃))) fun _ _ x=>x)
 first
  |exact bJ (aF fin)
  |exact aF (bJ (aF fin))
  |exact aF fin
theorem anQ{X:Cx}{ah:List (aa×Obj)}{σ:St}{H:Hp}{s:aB}{a:aa}{y:V}{o:Option V}(I:Inv X ah σ H s)(g:gm H a y o):s.TypeIs (.ref a) "dict":=by
 rcases g with⟨kvs,k,e,_,_⟩ | ⟨kvs,k,b,e,_,_,_⟩
 ·obtain⟨_,_,vs,_,dd⟩:=Bm I.hok e
  exact dd.typeIs
 ·obtain⟨_,_,xs,_,dd⟩:=Bo I.hok e
  exact dd.typeIs
noncomputable def ax5(td ty:TE):TE:=fun σ H Q=>td σ H fun x H1=>ty σ H1 fun y H2=>∃a v,x=.ref a/\gm H2 a y (some v)/\Q v H2
noncomputable def ax7(ty td:TE):TE:=fun σ H Q=>ty σ H fun y H1=>td σ H1 fun x H2=>∃a o,x=.ref a/\gm H2 a y o/\Q (.bl o.isSome) H2
noncomputable def au4(td ty tv:TE):TS:=fun D σ H=>tv σ H fun v H1=>td σ H1 fun x H2=>ty σ H2 fun y H3=>∃a H4,x=.ref a/\uc H3 a y v H4/\D.nx σ H4
section
variable{X:Cx}{o i e value:aZ}{pos yO oM:Pos}{td ty tv:TE}
theorem At(hu:X.A.units+1<nU)(ho:PE X o td)(hi:PE X i ty)(hs:ab' i):PE X (.Subscript o i pos) (ax5 td ty):=by
 intro ah s σ H Q I h
 refine axW PySem.F.slot_dict_getitem.lookup hs (aV (ho ah s σ H _ I h) fun u s1 ⟨x,H1,I1,rx,q1⟩=>aV (hi ah s1 σ H1 _ I1 q1) fun iv s2 ⟨y,H2,I2,ry,a,v,ex,g,q2⟩=>?_)
 subst ex
 obtain rfl:u=cI a:=rx
 exact⟨anQ I2 g,anK hu I2 g ry fun w' s3 I3 kW=>⟨v,H2,I3,kW,q2⟩⟩
theorem ajd(hu:X.A.units+1<nU)(hi:PE X i ty)(ho:PE X o td):PC X .In i o (ax7 ty td):=by
 intro ah s σ H Q I h
 refine aV (hi ah s σ H _ I h) fun iv s1 ⟨y,H1,I1,ry,q1⟩=>aV (ho ah s1 σ H1 _ I1 q1) fun u s2 ⟨x,H2,I2,rx,a,ov,ex,g,q2⟩=>?_
 subst ex
 obtain rfl:u=cI a:=rx
 exact anL hu I2 g ry fun s3 I3=>⟨.bl ov.isSome,H2,I3,rfl,q2⟩
theorem Gf(hu:X.A.units+1<nU)(ho:PE X o td)(hi:PE X i ty)(hv:PE X value tv)(hs:M5 value (some (.Subscript o i yO)) pos.line X.env=pure false) :
  PS X (.Assign [.Subscript o i yO] value pos) (au4 td ty tv):=by
 intro ah s σ H D I h
 refine wpAny_Assign_Subscript (aV (hv ah s σ H _ I h) fun r s1 ⟨v,H1,I1,rv,q1⟩=>aV (ho ah s1 σ H1 _ I1 q1) fun u s2 ⟨x,H2,I2,rx,q2⟩=>aV (hi ah s2 σ H2 _ I2 q2) fun iv s3 ⟨y,H3,I3,ry,a,H4,ex,g,q3⟩=>?_) hs
 subst ex
 obtain rfl:u=cI a:=rx
 exact anM hu I3 g ry rv fun s4 I4=>⟨σ,H4,I4,q3⟩
end
theorem anS{P:cH}{w:cj}{H:Hp}(h:bL)(hb:tM<h.objs.size):cD P w H (h.push {cls:=.type "dict",data:=.dict #[]}) h.objs.size (.dK []):=
 ⟨fz _,beq_eq_false_iff_ne.mpr (dB (dw hb)),[],.nil,Heap.DictOf.new h⟩
noncomputable def ax8:TE:=fun _ H Q=>∀p,H p=none->Q (.ref p) (upd H p (.dK []))
section
variable{X:Cx}{pos:Pos}
theorem Mt:PE X (.Dict [] [] pos) ax8:=fun ah s σ H Q I h=>
 wpAny_Dict_empty ⟨.ref s.heap.objs.size,_,I.laid (a:=s.heap.objs.size) (o:=.dK []) (t':=s.toks) (fun _ _ q=>cM _ q) (br _) (anS s.heap I.big),rfl,h _ (I.hok.fresh (br _))⟩
end
structure M2(X:Cx)(o:aZ)(m:Str)(jZ:Pos)(e f:aZ)(kI:Pos):Prop where
 base:IV o m X.env (eval o X.env)=eval o X.env
 few:((jJ kI (dR [e,f] X.env)).all (fun x=>!x.1)&&(uJ kI (ve [] X.env)).all (fun x=>x.1.isSome)
  &&decide (([e,f]:List aZ).length+([]:List AZ).length+(if([]:List AZ).isEmpty then 0 else 1)<30))=true
 line:(jZ.endLine == kI.line)=true
 trees:jJ kI (dR [e,f] X.env)=[(false,eval e X.env),(false,eval f X.env)]
noncomputable def IsD(H:Hp)(a:aa):Prop:=(∃kvs,Rd H a (.dK kvs))\/∃kvs,Rd H a (.dT kvs)
theorem aqa{X:Cx}{ah:List (aa×Obj)}{σ:St}{H:Hp}{s:aB}{a:aa}(I:Inv X ah σ H s)(d:IsD H a) :
  s.TypeIs (.ref a) "dict"/\(∀b,cI a=.ref b->∃ob,s.heap.get? b=some ob/\ob.dict=none)/\(a == tM)=false:=by
 rcases d with⟨kvs,e⟩ | ⟨kvs,e⟩
 ·obtain⟨_,hd,vs,_,dd⟩:=Bm I.hok e
  refine⟨dd.typeIs,fun b q=>?_,hd⟩
  cases q
  obtain⟨ob,_,_,h1,h2,_⟩:=dd
  exact⟨ob,h1,h2.2.1⟩
 ·obtain⟨_,hd,xs,_,dd⟩:=Bo I.hok e
  refine⟨dd.typeIs,fun b q=>?_,hd⟩
  cases q
  obtain⟨ob,_,_,h1,h2,_⟩:=dd
  exact⟨ob,h1,h2.2.1⟩
section
variable{X:Cx}{ah:List (aa×Obj)}{σ:St}{H:Hp}{s:aB}{a:aa}{y d:V}{u r:ao}{o:Option V}{A:cS}{E:ao->aB->Prop}
theorem anJ{Q:ao->aB->Prop}(hu:A.units+1<nU)(I:Inv X ah σ H s)(g:gm H a y o)(ry:RelV y u)(rd:RelV d r)(h:∀w' s',Inv X ah σ H s'->RelV (o.getD d) w'->Q w' s') :
  aK (aN X.prog X.w) A (call (.builtin "dict.get") [.ref a,u,r]) Q E s:=by
 rcases g with⟨kvs,k,e,ey,l⟩ | ⟨kvs,k,b,e,ey,eb,l⟩
 ·subst ey
  obtain⟨z,hd,vs,cQ,dd⟩:=Bm I.hok e
  refine QD acm dd.typeIs amY (amW _ _ _) (meets_dict_get_default (iE X.prog X.w) a (Ff ry) hd r) ⟨_,dd.mapOf,h _ _ (I.tok _) ?_⟩
  rw[l]
  exact(cQ.val k).getD rd
 ·subst ey
  cases(show u=cI b from ry)
  obtain⟨z,hd,xs,cQ,dd⟩:=Bo I.hok e
  refine QD acm dd.typeIs amY (amW _ _ _) (meetsH_dict_get_default (HG (iE X.prog X.w)) a b hd r) ⟨aaL hu,k,xs,Fi I.hok eb,dd,h _ _ (I.tok _) ?_⟩
  rw[l]
  exact(cQ.val k).getD rd
end
noncomputable def ax6(td ty tx:TE):TE:=fun σ H Q=>td σ H fun x H1=>∃a,x=.ref a/\IsD H1 a/\ty σ H1 fun y H2=>tx σ H2 fun z H3=>∃o,gm H3 a y o/\Q (o.getD z) H3
section
variable{X:Cx}{o e f:aZ}{jZ kI:Pos}{td ty tx:TE}
theorem Ms(hu:X.A.units+1<nU)(ho:PE X o td)(he:PE X e ty)(hf:PE X f tx)(m:M2 X o "get" jZ e f kI):PE X (.Call (.Attribute o "get" jZ) [e,f] [] kI) (ax6 td ty tx):=by
 intro ah s σ H Q I h
 refine wpAny_Call_method m.base m.few m.line uB acm PySem.F.type_dict_get (aV (ho ah s σ H _ I h) fun u s1 ⟨x,H1,I1,rx,a,ex,d,q1⟩=>?_)
 subst ex
 obtain rfl:u=cI a:=rx
 obtain⟨t1,t2,_⟩:=aqa I1 d
 refine⟨t1,t2,?_⟩
 rw[m.trees]
 refine abv rfl (alN (Nv (aV (he ah s1 σ H1 _ I1 q1) fun iv s2 ⟨y,H2,I2,ry,q2⟩=>
  Nv (aV (hf ah s2 σ H2 _ I2 q2) fun fv s3 ⟨z,H3,I3,rz,ov,g,q3⟩=>abw ?_))))
 exact anJ hu I3 g ry rz fun w' s4 I4 kW=>⟨_,H3,I4,kW,q3⟩
end
end L2
namespace Att
open PySem PySem.W PySem.Calls PyProof.Rows
theorem ap7{P:Params}{h:bL}:∀(ns:List Int) (vs:List ao),WellAll P h vs (ns.map WData.int)->nJ vs ns:=by
 intro ns
 induction ns with
 |nil=>
  intro vs w
  rw[N4]at w
  cases w
  exact .nil
 |cons n ns ih=>
  intro vs w
  rw[dM]at w
  cases w with
  |cons a b=>
   cases a
   exact .cons _ _ (ih _ b)
theorem avB{l:OpenLaw}{n:Nat}(hn:l.most=some n){P:Params}{h:bL}{args:List WData}{aaQ:List ao}
  (Lm:l.row.toRowW.claim.pre args=true) (Wa:WellAll P h aaQ args) :
  ∃a vs ns,aaQ=[cI a]/\args=[WData.list (ns.map WData.int)]/\h.get? a=some {cls:=.type "list",data:=.seq vs.toArray}/\nJ vs ns/\ns.length<=n:=by
 have E2:WShape.hasAll [] args [.list .int]=true:=(pre_splitW Lm).1
 have hc:l.pre.holds [] {args:=args}=true:=(pre_splitW Lm).2
 obtain⟨d,r,rfl,h1,h2⟩:=hasAllW_cons E2
 obtain rfl:=hasAllW_nil h2
 obtain⟨xs,rfl,h3⟩:=hasW_list h1
 obtain⟨ns,rfl⟩:=items_int h3
 have bC:ns.length<=n:=by
  unfold OpenLaw.pre at hc
  have h4:(WTm.not (.lt (.lit (.int (n:Int))) (.len (.arg 0)))).holds [] {args:=[.list (ns.map .int)]}=true:=by
   have h4:=(holds_andW hc).1
   rw[hn]at h4
   exact h4
  have h5:=condW_of h4 (w_not (w_lt w_lit (w_len_list (w_arg rfl))))
  rw[aC]at h5
  refine Oe fun q=>?_
  have q':(n:Int)<((ns.length:Nat):Int):=by omega
  first
   |(rw[decide_eq_true q']at h5;exact absurd h5 (by decide))
   |(simp at h5;omega)
 cases Wa with
 |cons w1 w2=>
  cases w2
  cases w1 with
  |list ho cR=>exact⟨_,_,ns,rfl,rfl,ho,ap7 ns _ cR,bC⟩
theorem auC(l:OpenLaw)(args:List WData):l.row.toRowW.claim.post args (.bool true) args=true:=
 postW_of (r:=l.row.toRowW) (X:=(true == true))
  (show WShape.has [] (.bool true) .bool=true by first | rfl | decide | simp[WShape.has,WShape.arms,WShape.armsAll])
  (show(WTm.eq .res (.lit (.bool true))).value [] {args:=args,res:=some (.bool true),after:=args}=some (.bool (true == true))from w_eq_bool (w_res rfl) w_lit) rfl
theorem anl{l:OpenLaw}{n:Nat}{q:cH}{Ce:List Str}{XP:(Str->Option ao)->bL->Prop}{YP:cj->bL->Prop}{d:DefRec}
  (hn:l.most=some n) (EE:d.params.defaults=[])
  (call:∀(w:cj) (s₀ s₁:aB) (mg mb:Str->Option ao) (fa:aa) (o:Obj) (pm cd doc:ao) (a:aa) (vs:List ao) (ns:List Int),
   Ground q Ce [] XP w s₀ mg mb s₁.heap->YP w s₁.heap->
   s₁.heap.get? fa=some o->o.data=.func (docDef d.name d.params d.body d.scope pm cd doc)->s₁.heap.CodeRec cd d.name->mg d.name=some (.ref fa)->
   s₁.heap.get? a=some {cls:=.type "list",data:=.seq vs.toArray}->nJ vs ns->ns.length<=n->s₁.gens=#[]->
   mX (aN l.prog w) Bj (.call (.ref fa) ⟨[.ref a],[]⟩) (fun r s'=>r=.ok (.ret (.bool true))/\OldK s₁.heap s'.heap/\s'.os=s₁.os/\xm s'.gens) s₁) :
  WalkO q Ce XP YP l.row.toRowW d [] (fun f vs=>acC f vs):=by
 intro w s₀ s₁ mg mb G Y fa o pm cd doc dV kV ho hd jd hD EQ hg args aaQ as Lm azq hrd Wa iX
 obtain rfl:dV=.none:=Dflts.none hD EE
 obtain rfl:kV=.none:=Dflts.noKw hD
 obtain⟨a,vs,ns,rfl,rfl,VU,VD,bC⟩:=avB hn Lm Wa
 refine enter_call (RY (call w s₀ s₁ mg mb fa o pm cd doc a vs ns G Y ho (fd_plain hd) jd EQ VU VD bC hg) fun r s' hq=>?_)
 obtain⟨rfl,h2,h3,h4⟩:=hq
 exact⟨.inl ⟨.bool true,.bool true,[],rfl,fun _=>rfl,.bool true,auC l _,fun _=>⟨amt,fun _ hm=>(nomatch hm)⟩⟩,h2,h3,h4⟩
end Att
namespace L2
open PySem PySem.Spec PyProof.Rows
theorem HM:∀ {vs:List ao} {ns:List Int},nJ vs ns->bu (ns.map V.int) vs
 |_,_,.nil=>.nil
 |_,_,.cons n t h=>.cons ⟨t,rfl⟩ (HM h)
noncomputable def ng(s:iT)(j:Nat):Stmt:=match s with
 | .ClassDef _ _ _ body _ _ _ _ _ _ _=>body.getD j (.Pass ⟨0,0,0,0⟩)
 |_=>.Pass ⟨0,0,0,0⟩
noncomputable def aR(s:iT):Arguments:=match s with
 | .FunctionDef _ a _ _ _ _ _ _ _ _=>a
 |_=>{posonlyargs:=[],args:=[],vararg:=none,kwonlyargs:=[],kw_defaults:=[],kwarg:=none,defaults:=[]}
noncomputable def aO(s:iT):List Stmt:=match s with
 | .FunctionDef _ _ b _ _ _ _ _ _ _=>b
 |_=>[]
noncomputable def az(s:iT):Scope:=match s with
 | .FunctionDef _ _ _ _ _ _ sc _ _ _=>sc
 |_=>{kind:=.function,names:=[],isGenerator:=false,isCoroutine:=false}
noncomputable abbrev bK:rC:=fun _ _ _ _ _ _=>False
noncomputable abbrev E0:XK:=fun _ _ _=>False
theorem aG{X:Cx}:zu bK X E0:=fun _ _ _ _ _ _ _ h=>h.elim
structure ud(K:bG)(x qual:Str)(st:iT)(f:aa)(fd:bE):Prop where
 ex:∃(oc:ao) (od:Option aa) (kV doc pm:ao) (an:Option aa) (bg ct:ao) (vq:Array (Option ao)),
  fd=aQ x qual (aR st) (aO st) (az st) .none kV doc pm an bg ct/\K.lookup f=some ⟨oc,od,.func fd,vq⟩/\bX K bg qual=true
 kp:bO K (.ref f)=true
section
variable{P:cH}{w:cj}{K:bG}{mg:Str->Option ao}{base:bL}
theorem ud.ok{x qual:Str}{st:iT}{f:aa}{fd:bE}{N ps:List Str}{k:Nat}{sp:Sp}(F:ud K x qual st f fd)(S:bU N ps (az st))(len:∀vs H Q E,sp vs H Q E->vs.length=ps.length)
  (EC:∀(bg:ao) (A:cS) (outer:List Env) (s:aB) (H:Hp) (vs:List V) (Q:VK) (E:XK),gr k (A.deeper (uO qual (az st) s.heap.objs.size f bg))->sp vs H Q E->
   ∃t,jt (zL bK P w K mg base N qual (az st) f bg A outer s H E).Cn (aO st) t/\t {nx:=fun _ H'=>Q .cF H',rt:=Q} (start N vs) H):bD P w K mg base bK (k+1) f fd ps sp:=by
 obtain⟨oc,od,kV,doc,pm,an,bg,ct,vq,rfl,lk,jd⟩:=F.ex
 refine agx lk jd S len fun A outer s H vs Q E hr sA=>?_
 obtain⟨t,h,q⟩:=EC bg A outer s H vs Q E hr sA
 exact⟨t,h.Cn,q⟩
theorem ud.binds{x qual:Str}{st:iT}{f:aa}{fd:bE}{ps:List Str}(F:ud K x qual st f fd)
  (h:∀(kV doc pm:ao) (an:Option aa) (bg ct:ao) (us:List ao),us.length=ps.length->oX (aQ x qual (aR st) (aO st) (az st) .none kV doc pm an bg ct) ⟨us,[]⟩=pure (ps.zip us)):Binds K fd ps []:=by
 obtain⟨oc,od,kV,doc,pm,an,bg,ct,vq,rfl,lk,jd⟩:=F.ex
 exact .all (h kV doc pm an bg ct)
theorem cg{x qual:Str}{st:iT}{f:aa}{oc:ao}{od an:Option aa}{vq:Array (Option ao)}{kV doc pm bg ct:ao}(l:K.lookup f=some ⟨oc,od,.func (aQ x qual (aR st) (aO st) (az st) .none kV doc pm an bg ct),vq⟩)
  (c:bX K bg qual=true) (k:bO K (.ref f)=true):ud K x qual st f (aQ x qual (aR st) (aO st) (az st) .none kV doc pm an bg ct):=⟨⟨oc,od,kV,doc,pm,an,bg,ct,vq,rfl,l,c⟩,k⟩
end
theorem pH{A:cS}{k:Nat}(hr:gr k A):A.units+1<cLine:=Of (Nat.add_le_add_left (by decide:1<=64) _) hr.units
theorem AA{n:Nat}(h:n<=1000):n<sizeLine:=Of h (by decide)
section
variable{X:Cx}
theorem pv(i:Nat){x:Str}{pos:Pos}(hN:X.N[i]?=some x:=by rfl)(hv:OA X.env.scope x:=by first | exact aT rfl | exact eF (aT rfl) | exact eF (eF rfl))(hd:(x == ("__debug__" : Str))=false:=by decide)
  (jd:(x == ("__classdict__" : Str))=false:=by decide):PE X (.Name x pos) (aaI i):=aur hN hv hd jd
end
theorem bH{A B:Prop}(h:B):if false=true then A else B:=by
 rw[if_neg gw]
 exact h
theorem cJ{A B:Prop}(h:A):if true=true then A else B:=by
 rw[if_pos rfl]
 exact h
theorem dj{c A B:Prop}[Decidable c](h1:c->A)(h2:¬c->B):if c then A else B:=by
 by_cases h:c
 ·rw[if_pos h]
  exact h1 h
 ·rw[if_neg h]
  exact h2 h
theorem aqb{c A B:Prop}[Decidable c](hc:c)(h:B):if(!decide c)=true then A else B:=by
 rw[decide_eq_true hc]
 exact bH h
noncomputable def ak(H H':Hp):Prop:=∀b o,H b=some o->H' b=some o
theorem ak.refl(H:Hp):ak H H:=fun _ _ h=>h
theorem ak.trans{H H1 H2:Hp}(a:ak H H1)(b:ak H1 H2):ak H H2:=fun c o h=>b c o (a c o h)
theorem ak.free{H H':Hp}(e:ak H H'){l:aa}(h:H' l=Option.none):H l=Option.none:=by
 cases q:H l with
 |none=>rfl
 |some o=>
  rw[e l o q]at h
  cases h
theorem ak.seq{K:bG}{H H':Hp}{a:aa}{xs:List V}(e:ak H H')(h:dO K H a xs):dO K H' a xs:=by
 rcases h with(h | ⟨o,h⟩) | h
 ·exact .inl (.inl (e _ _ h))
 ·exact .inl (.inr ⟨o,e _ _ h⟩)
 ·exact .inr h
section
variable{κ:Type}[DecidableEq κ]
theorem Zo:∀ {l:List κ} {k:κ},l.Nodup->¬k∈l->(l++[k]).Nodup
 | [],k,_,_=>by simp
 |a::r,k,h,hk=>by
  obtain⟨h1,h2⟩:=nO.mp h
  show(a::(r++[k])).Nodup
  refine nO.mpr ⟨fun m=>?_,Zo h2 fun m=>hk (dY.mpr (eF m))⟩
  rcases lQ.mp m with q | q
  ·exact h1 q
  ·exact hk (dY.mpr (aT (gb.mp q).symm))
end
end L2
set_option maxHeartbeats 4000000
namespace L2
open PySem PySem.Spec PyProof.Rows
noncomputable def fJ(cells:List (Str×aa)):List (Str×oU)->List (Str×aa)->List (Str×aa)
 | [],aE=>aE
 |(n,k)::r,aE=>if k=.free then(match cells.lookup n with | some c=>fJ cells r ((n,c)::aE) | none=>fJ cells r aE)else fJ cells r aE
theorem DX{cells:List (Str×aa)}{x:Str}{c:aa}:∀(names:List (Str×oU)) (aE:List (Str×aa)),(fJ cells names aE).lookup x=some c->
  aE.lookup x=some c\/(cells.lookup x=some c/\(x,pY)∈names)
 | [],aE,h=>.inl h
 |(n,k)::r,aE,h=>by
  unfold fJ at h
  by_cases hk:k=.free
  ·rw[if_pos hk]at h
   cases hc:cells.lookup n with
   |none=>
    rw[hc]at h
    rcases DX r aE h with z | ⟨z,m⟩
    ·exact .inl z
    ·exact .inr ⟨z,iS _ m⟩
   |some d=>
    rw[hc]at h
    rcases DX r ((n,d)::aE) h with z | ⟨z,m⟩
    ·rw[IC]at z
     by_cases hx:(x == n)=true
     ·rw[hx]at z
      have e:x=n:=by simpa using hx
      cases z
      subst e;subst hk
      exact .inr ⟨hc,lR⟩
     ·have qi:(x == n)=false:=by simpa using hx
      rw[qi]at z
      exact .inl z
    ·exact .inr ⟨z,iS _ m⟩
  ·rw[if_neg hk]at h
   rcases DX r aE h with z | ⟨z,m⟩
   ·exact .inl z
   ·exact .inr ⟨z,iS _ m⟩
theorem xX{cells:List (Str×aa)}{x:Str}{c:aa}(hc:cells.lookup x=some c):∀(names:List (Str×oU)) (aE:List (Str×aa)),(aE.lookup x=some c\/(x,pY)∈names)->
  (fJ cells names aE).lookup x=some c
 | [],aE,h=>by
  rcases h with h | h
  ·exact h
  ·cases h
 |(n,k)::r,aE,h=>by
  unfold fJ
  by_cases hk:k=.free
  ·rw[if_pos hk]
   by_cases hx:(x == n)=true
   ·have e:x=n:=by simpa using hx
    subst e
    rw[hc]
    exact xX hc r _ (.inl (by rw[IC,beq_self_eq_true]))
   ·have qi:(x == n)=false:=by simpa using hx
    have m:aE.lookup x=some c\/(x,pY)∈r:=by
     rcases h with h | h
     ·exact .inl h
     ·rcases dY.mp h with z | z
      ·injection z with z1 _
       rw[z1,beq_self_eq_true]at qi
       cases qi
      ·exact .inr z
    cases hn:cells.lookup n with
    |none=>exact xX hc r aE m
    |some d=>
     refine xX hc r _ (m.imp (fun z=>?_) fun z=>z)
     rw[IC,qi]
     exact z
  ·rw[if_neg hk]
   refine xX hc r aE (h.imp (fun z=>z) fun z=>?_)
   rcases dY.mp z with z | z
   ·injection z with _ z2
    exact absurd z2.symm hk
   ·exact z
theorem anB{scope:iI}{env:Env}(h:∀y∈scope.names,y.2=.free->∃c,env.cells.lookup y.1=some c):closureFor scope env=pure (fJ env.cells scope.names []):=by
 have go:∀(names:List (Str×oU)) (aE:List (Str×aa)),(∀y∈names,y.2=.free->∃c,env.cells.lookup y.1=some c)->
   (forIn names aE fun(x:Str×oU) (cs:List (Str×aa))=>(if(x.2 == pY)=true then do let a <- cellOf env x.1;pure (AN ((x.1,a)::cs))else pure (AN cs):Sem _))=pure (fJ env.cells names aE):=by
  intro names
  induction names with
  |nil=>intro aE _;rfl
  |cons y r ih=>
   intro aE hy
   obtain⟨n,k⟩:=y
   rw[abJ]
   have hr:=fun a=>ih a fun z hz=>hy z (iS _ hz)
   by_cases hk:k=.free
   ·subst hk
    obtain⟨c,hc⟩:=hy (n,.free) lR rfl
    have d8:env.cells.lookup n=some c:=hc
    unfold fJ
    simp only[beq_self_eq_true,if_true,cellOf,d8,pure_bind]
    exact hr _
   ·have hb:(k == pY)=false:=by simpa using hk
    unfold fJ
    simp only[hb,lN,if_false,pure_bind,if_neg hk]
    exact hr _
 have g:=go scope.names [] h
 simp only[closureFor]
 rw[g]
 rfl
noncomputable def vD(env:Env)(n:Str)(k:oU):NameKind:=if(k == .free&&env.scope.kind == .function&&env.kindOf n == some .cell)=true then .cell else k
theorem YZ(env:Env)(x:Str):∀(names:List (Str×oU)),
  (names.map fun(n,k)=>if(k == pY&&env.scope.kind == .function&&env.kindOf n == some .cell) then(n,ab2) else(n,k)).lookup x=(names.lookup x).map (vD env x)
 | []=>rfl
 |(n,k)::r=>by
  have ih:=YZ env x r
  show zl x ((if(k == pY&&env.scope.kind == .function&&env.kindOf n == some .cell)=true then(n,ab2) else(n,k))::_)=_
  have e1:(if(k == pY&&env.scope.kind == .function&&env.kindOf n == some .cell)=true then(n,ab2) else(n,k))=(n,vD env n k):=by
   unfold vD;split<;>rfl
  rw[e1,IC,IC]
  cases hx:x == n with
  |true=>
   have e:x=n:=by simpa using hx
   subst e
   rfl
  |false=>exact ih
structure pS(X:Cx)(N:List Str)(cap:List (Option Nat))(sc:iI):Prop where
 kind:sc.kind=.function
 nd:N.Nodup
 Mh:∀y∈sc.names,y.2≠.cell
 names:∀y∈sc.names,y.2=.local->sc.names.lookup y.1=some .local
 free:∀y∈sc.names,y.2=.free->X.env.scope.names.lookup y.1=some .cell\/X.env.scope.names.lookup y.1=some .free
 len:cap.length=N.length
 cap:∀i∈bT cap.length,∀j,(cap[i]?).join=some j->X.N[j]?=N[i]?/\∃x,N[i]?=some x/\(x,pY)∈sc.names/\sc.names.lookup x=some .free
noncomputable def fR(cap:List (Option Nat))(σ:St):St:=cap.map fun o=>o.bind fun j=>(σ[j]?).join
noncomputable def jL(X:Cx)(N:List Str)(scope:iI)(s:aB)(H:Hp)(fp:List aa):Cx where
 prog:=X.prog
 w:=X.w
 K:=X.K
 mg:=X.mg
 base:=X.base
 A:=X.A
 N:=N
 s₀:=s
 H₀:=H
 env:=compEnvC scope (fJ X.env.cells scope.names []) s.heap.objs.size X.env
 outer:=X.stack
 stack:=X.stack
 ex:=fp
 fn:=fun _=>false
 calm:=X.calm
 pn:=[]
 xe:=fun _ _=>False
theorem ap8{X:Cx}{ah:List (aa×Obj)}{σ:St}{H:Hp}{s:aB}{N:List Str}{cap:List (Option Nat)}{sc:iI}{fp:List aa}{h':bL}{t':Nat}
  (S:pS X N cap sc) (I:Inv X ah σ H s) (EG:∀b∈fp,iR X ah H b/\∃o,s.heap.get? b=some o)
  (yr:h'.Ns s.heap.objs.size fun _=>none) (hk:∀b o,s.heap.get? b=some o->h'.get? b=some o) :
  Inv (jL X N sc s H fp) [] (fR cap σ) H {s with heap:=h',toks:=t'}:=by
 have ltc:∀x c,X.env.cells.lookup x=some c->c<s.heap.objs.size:=fun x c e=>by
  obtain⟨v,z⟩:=I.cell x c e
  exact z.lt
 have rR:∀x c,(fJ X.env.cells sc.names []).lookup x=some c->X.env.cells.lookup x=some c/\(x,pY)∈sc.names:=fun x c e=>by
  rcases DX _ _ e with z | z
  ·cases z
  ·exact z
 have kd:∀x k,(CA sc X.env).names.lookup x=some k->(k=.cell\/k=.free)->sc.names.lookup x=some .free:=fun x k e hk=>by
  have e':(sc.names.lookup x).map (vD X.env x)=some k:=(YZ X.env x sc.names).symm.trans e
  cases hq:sc.names.lookup x with
  |none=>rw[hq]at e';cases e'
  |some kk=>
   rw[hq]at e'
   have e2:vD X.env x kk=k:=cY e'
   by_cases hf:kk=.free
   ·rw[hf]
   ·have e3:vD X.env x kk=kk:=by
     unfold vD
     rw[if_neg]
     intro z
     have:(kk == pY)=true:=by
      rw[nI,nI]at z
      exact z.1.1
     exact hf (by simpa using this)
    rw[e3]at e2
    subst e2
    rcases hk with z | z
    ·exact absurd z (S.Mh _ (uD hq))
    ·exact absurd z hf
 refine⟨⟨I.ok.mod,S.kind,I.ok.glob,I.ok.blt,br _,fun x y c h1 h2=>I.ok.inj x y c (rR x c h1).1 (rR y c h2).1,fun x hx=>?_,fun x c hf _=>absurd hf (by show ¬(false=true);decide),I.ok.hd,I.ok.frames,.inl rfl,fun b hb=>?_,I.bs,fP I.ok.rQ I.sz,fun b o e hb=>?_,fun b hb z=>?_,I.stack,I.aaB⟩,
  rfl,I.bare,Un.kept hk,⟨_,yr,fun i x v e1 e2 e3=>?_⟩,fun x c e=>?_,I.hok.fresh (br _),fun x c e=>?_,fun p hp=>absurd (show p∈([]:List (aa×Obj))from hp) (by simp),I.hok.kept hk,?_⟩
 ·-- has
  have qi:(CA sc X.env).names.lookup x=some .cell\/(CA sc X.env).names.lookup x=some .free:=hx
  have hf:sc.names.lookup x=some .free:=by
   rcases qi with z | z
   ·exact kd x _ z (.inl rfl)
   ·exact kd x _ z (.inr rfl)
  have m:=uD hf
  obtain⟨c,hc⟩:=I.ok.has x (S.free _ m rfl)
  exact⟨c,xX hc _ _ (.inr m)⟩
 ·-- D6
  obtain⟨f,o,ho⟩:=EG b hb
  exact⟨dw (bV ho),fun x c e=>f.2.2.2.2.1 x c (rR x c e).1⟩
 ·-- Cm
  obtain⟨f,_⟩:=EG b hb
  rcases f.2.2.2.1 with z | z
  ·exact I.ok.Cm b o e z
  ·exact absurd (gq (bV e) (fP I.ok.rQ z)) (mT _)
 ·-- Bp
  obtain⟨f,_⟩:=EG b hb
  rcases dY.mp (I.M0 b z)with q | q
  ·exact f.2.1 q
  ·exact f.2.2.1 q
 ·-- loc
  have hi:i<cap.length:=by
   have:=(iw.mp e2).1
   unfold fR at this
   rwa[aC]at this
  have kJ:(cap[i]?).join.bind (fun j=>(σ[j]?).join)=some v:=by
   unfold fR at e2
   rw[dG]at e2
   cases hc:cap[i]? with
   |none=>rw[hc]at e2;cases e2
   |some o=>
    rw[hc]at e2
    cases o with
    |none=>cases e2
    |some j=>exact cY e2
  cases hj:(cap[i]?).join with
  |none=>rw[hj]at kJ;cases kJ
  |some j=>
   rw[hj]at kJ
   obtain⟨hN,y,hy,hm,hl⟩:=S.cap i (iG.mpr hi) j hj
   have o8:N[i]?=some x:=e1
   rw[o8]at hy
   cases hy
   have hσ:σ[j]?=some (some v):=by
    have e3:(σ[j]?).join=some v:=kJ
    cases hq:σ[j]? with
    |none=>rw[hq]at e3;cases e3
    |some o=>
     rw[hq]at e3
     have:o=some v:=e3
     rw[this]
   have U8:X.N[j]?=some x:=hN.trans o8
   have z6:=S.free _ hm rfl
   obtain⟨m,hn,ym⟩:=id I.loc
   obtain⟨u,r,l⟩:=ym j x v U8 hσ (by rcases z6 with z | z;exact .inr (.inl z);exact .inr (.inr z))
   refine⟨u,r,.inr ⟨?_,?_⟩⟩
   ·show(CA sc X.env).names.lookup x=some .cell\/(CA sc X.env).names.lookup x=some .free
    have e4:(CA sc X.env).names.lookup x=some (vD X.env x .free):=(YZ X.env x sc.names).trans (by rw[hl];rfl)
    rw[e4]
    unfold vD
    split
    ·exact .inl rfl
    ·exact .inr rfl
   ·rcases l with⟨k,_⟩ | ⟨_,c,hc,o,ho,hd⟩
    ·have k':X.env.scope.names.lookup x=some .local:=k
     rcases z6 with z | z
     ·have z':X.env.scope.names.lookup x=some .cell:=z
      rw[k']at z';cases z'
     ·have z':X.env.scope.names.lookup x=some .free:=z
      rw[k']at z';cases z'
    ·exact⟨c,xX hc _ _ (.inr hm),o,hk c o ho,hd⟩
 ·-- cell
  obtain⟨v,o,ho,hd⟩:=I.cell x c (rR x c e).1
  exact⟨v,o,hk c o ho,hd⟩
 ·exact I.kK x c (rR x c e).1
 ·show(fR cap σ).length=N.length
  unfold fR
  rw[aC,S.len]
theorem anD{prog:cH}{w:cj}{A:cS}{R:zC->aB->Prop}{s:aB}{lY jm iter:aZ}{kQ:List aZ}{scope:iI}{pos:Pos}{it aE:ao}{env:Env}(I:Nat->aB->Prop)
  (qQ:∀n s,I n s->aK (aN prog w) A (qB it) (fun r s₁=>match r with
   |none=>R (.ok .next) s₁
   |some v=>aK (aN prog w) A (YW jm it v) (fun _ s₁'=>aK (aN prog w) A (uI jm env v) (fun _ s₂=>
     aK (aN prog w) A (forIn kQ true fun c r=>if r=true then do let ok <- isTrue c env (eval c env);pure (AN ok)else pure (AN r)) (fun ok s₃=>
      if ok=true then aK (aN prog w) A (eval lY env) (fun x s₄=>
       aK (aN prog w) A (call (.builtin "list.append") [aE,x]) (fun _ s₅=>∃m,m<n/\I m s₅) (FU (aN prog w) A env fun e s'=>R (.error e) s') s₄) (FU (aN prog w) A env fun e s'=>R (.error e) s') s₃
      else ∃m,m<n/\I m s₃) (FU (aN prog w) A env fun e s'=>R (.error e) s') s₂) (FU (aN prog w) A env fun e s'=>R (.error e) s') s₁') (FU (aN prog w) A env fun e s'=>R (.error e) s') s₁) (FU (aN prog w) A env fun e s'=>R (.error e) s') s)
  (n:Nat) (h:I n s) :
  mX (aN prog w) A (.compLoop (.ListComp lY [⟨jm,iter,kQ,0⟩] scope pos) 0 it aE env) R s:=by
 refine codeAny_loop rfl I (fun n s hI=>?_) n h
 show aK _ A ((compTurn (.ListComp lY [⟨jm,iter,kQ,0⟩] scope pos) 0 it aE env).onRaise (fun x=>do noteFrame x env;theTreesLotGoes x)) _ _ s
 refine wpAny_noted ?_
 rw[compTurn_list]
 refine aF (CU (aF (iP (qQ n s hI) (fun r s₁ h₁=>?_) fun _ _ h'=>h')))
 cases r with
 |none=>exact bJ h₁
 |some v=>
  refine aF (iP h₁ (fun _ s₁' h₁'=>?_) fun _ _ h'=>h')
  refine aF (iP h₁' (fun _ s₂ h₂=>aF (iP h₂ (fun ok s₃ h₃=>?_) fun _ _ h'=>h')) fun _ _ h'=>h')
  cases ok with
  |false=>exact bJ ⟨rfl,h₃⟩
  |true=>
   exact aF (aF (iP h₃ (fun x s₄ h₄=>aF (iP h₄ (fun _ s₅ h₅=>bJ (bJ ⟨rfl,h₅⟩)) fun _ _ h'=>h')) fun _ _ h'=>h'))
noncomputable def rL(X:Cx)(kQ:List aZ)(t:TT):Prop:=
 ∀(ah:List (aa×Obj)) (s:aB) (σ:St) (H:Hp) (Q:Bool->Hp->Prop),Inv X ah σ H s->t σ H Q->
  aK (aN X.prog X.w) X.A (forIn kQ true fun c r=>if r=true then do let ok <- isTrue c X.env (eval c X.env);pure (AN ok)else pure (AN r)) (TP X ah σ Q) X.xe s
noncomputable def ak':TT:=fun _ H Q=>Q true H
theorem jO{X:Cx}:rL X [] ak':=fun _ _ _ H _ I h=>wpAny_tests_nil ⟨H,I,h⟩
theorem Mx{X:Cx}{c:aZ}{t:TT}(h:PT X c t):rL X [c] t:=fun ah s σ H Q I q=>wpAny_tests_one (h ah s σ H Q I q)
noncomputable def lP(cap:List (Option Nat))(g:TG)(tt:TT)(te:TE)(σ:St)(Q:VK)(J:It)(H1:Hp):Prop:=∀D,H1 D=none->
 ∃W:Nat->Nat->St->Hp->Prop,(∃m,W 0 m (fR cap σ) (upd H1 D (.lst [])))/\∀i m σ' H',W i m σ' H'->
  (J.stop i H'/\Q (.ref D) H')\/(J.go i H'/\∀x H2,J.nG i H' x H2->g x σ' H2 fun σ3 H3=>tt σ3 H3 fun b H4=>
   if b=true then te σ3 H4 fun v H5=>∃aE,H5 D=some (.lst aE)/\aE.length<aX/\∃m',m'<m/\W (i+1) m' σ3 (upd H5 D (.lst (aE++[v])))
   else ∃m',m'<m/\W (i+1) m' σ3 H4)
noncomputable def tLC(cap:List (Option Nat))(wi:TI)(g:TG)(tt:TT)(te:TE):TE:=fun σ H Q=>wi σ H (lP cap g tt te σ Q)
theorem aeh{X:Cx}{ah:List (aa×Obj)}{σ:St}{H2:Hp}{s2:aB}{N:List Str}{cap:List (Option Nat)}{sc:iI}{lY jm iter:aZ}{kQ:List aZ}{pos:Pos}{g:TG}{tt:TT}{te:TE}{Q:VK}
  {it:aa} {fp:List aa} {tn:Nat->bL->Prop} {J:It} {RR:ao->aa->zC->aB->Prop} {E:ao->aB->Prop}
  (hc:X.calm=true) (S:pS X N cap sc)
  (hg:∀s H fp,PG (jL X N sc s H fp) jm g) (ht:∀s H fp,rL (jL X N sc s H fp) kQ tt) (he:∀s H fp,PE (jL X N sc s H fp) lY te)
  (I2:Inv X ah σ H2 s2) (T:uE X.prog X.w X.K jm J fp it tn) (jk:tn 0 s2.heap) (f2:∀b∈fp,iR X ah H2 b)
  (h:lP cap g tt te σ Q J H2)
  (hRR:∀D C H' s',(∃m,s'.heap.Ns C m)->H' C=none->s2.heap.objs.size<=C->Inv X ah σ H' s'->Q (.ref D) H'->RR (.ref D) C (.ok .next) s') :
  aK (aN X.prog X.w) X.A (newList []) (fun aE s₃=>aK (aN X.prog X.w) X.A (newFunctionEnv sc X.env.globals (fJ X.env.cells sc.names []) [] X.env.qual none .none (some X.env)) (fun aed s₄=>
   mX (aN X.prog X.w) X.A (.compStart (.ListComp lY [⟨jm,iter,kQ,0⟩] sc pos) 0 (.ref it) aE {aed with scope:=CA sc X.env}) (RR aE aed.locals) s₄) E s₃) E s2:=by
 refine aaZ ?_
 have fr:=I2.fresh
 have I3:Inv X ah σ (upd H2 s2.heap.objs.size (.lst [])) {s2 with heap:=s2.heap.push {cls:=.type "list",data:=.seq ([]:List ao).toArray}}:=I2.YY (ys:=[]) (t':=s2.toks) .nil (fz _)
 obtain⟨W,⟨m0,w0⟩,qQ⟩:=h _ fr
 have aq':=T.obj 0 _ jk
 have f3:∀b∈fp,iR X ah (upd H2 s2.heap.objs.size (.lst [])) b/\∃o,(s2.heap.push {cls:=.type "list",data:=.seq ([]:List ao).toArray}).get? b=some o:=fun b hb=>by
  obtain⟨o,ho,_⟩:=aq' b hb
  obtain⟨a1,a2⟩:=f2 b hb
  refine⟨⟨?_,a2⟩,o,cM _ ho⟩
  rw[aA (dw (bV ho))]
  exact a1
 have eU:tn 0 (s2.heap.push {cls:=.type "list",data:=.seq ([]:List ao).toArray}):=T.keep _ _ _ jk fun b _ o e=>cM _ e
 generalize hs3:({s2 with heap:=s2.heap.push {cls:=.type "list",data:=.seq ([]:List ao).toArray}}:aB)=s3 at I3
 have hh3:s3.heap=s2.heap.push {cls:=.type "list",data:=.seq ([]:List ao).toArray}:=by rw[<- hs3]
 rw[<- hh3]at f3 eU
 generalize hD:s2.heap.objs.size=D at *
 refine wpAny_newFunctionEnv S.Mh (by intro y hy;simp at hy) (fun h4 apt apF=>?_) S.kind
 have k4:∀b o,s3.heap.get? b=some o->h4.get? b=some o:=fun b o e=>apF.extBut b o (dw (bV e)) (cM _ e)
 have I4:Inv (jL X N sc s3 (upd H2 D (.lst [])) fp) [] (fR cap σ) (upd H2 D (.lst [])) {s3 with heap:=h4,toks:=s3.toks+([]:List (Str×ao)).length}:=
  ap8 S I3 f3 (by simpa using apt) k4
 have cu:tn 0 h4:=T.keep _ _ _ eU fun b _ o e=>k4 b o e
 have szC:D<=s3.heap.objs.size:=by rw[hh3,C8,hD];exact uw _
 -- the iterator's own objects,seen from the block
 have UT:∀ {H':Hp},(∀b∈fp,H' b=none)->∀b∈fp,iR (jL X N sc s3 (upd H2 D (.lst [])) fp) [] H' b:=fun hn b hb=>
  ⟨hn b hb,(I4.ok.D6 b hb).1,I4.ok.Bp b hb,.inl hb,(I4.ok.D6 b hb).2,fun p hp=>absurd (show p∈([]:List (aa×Obj))from hp) (by simp)⟩
 have LZ:∀s4:aB,s4={s3 with heap:=h4,toks:=s3.toks+([]:List (Str×ao)).length}->
   mX (aN X.prog X.w) X.A (.compLoop (.ListComp lY [⟨jm,iter,kQ,0⟩] sc pos) 0 (.ref it) (.ref D) (jL X N sc s3 (upd H2 D (.lst [])) fp).env) (RR (.ref D) s3.heap.objs.size) s4:=by
  rintro s4 rfl
  refine anD (fun n s'=>∃i σ' H',Inv (jL X N sc s3 (upd H2 D (.lst [])) fp) [] σ' H' s'/\tn i s'.heap/\(∀b∈fp,H' b=none)/\W i n σ' H') ?_ m0 ⟨0,_,_,I4,cu,fun b hb=>(f3 b hb).1.1,w0⟩
  rintro n s5 ⟨i,σ5,H5,I5,cU,KA,w5⟩
  rcases qQ i n σ5 H5 w5 with⟨stop,qn⟩ | ⟨go,step⟩
  ·refine iP (T.done (jL X N sc s3 (upd H2 D (.lst [])) fp) rfl rfl rfl hc i [] s5 σ5 H5 _ I5 (UT KA) cU stop) (fun r s6 ⟨hr,I6⟩=>?_) fun _ _ z=>z
   subst hr
   obtain⟨m6,ns6,_⟩:=I6.loc
   refine hRR D _ H5 s6 ⟨m6,ns6⟩ I6.free szC ?_ qn
   refine I3.anr (ch:=fp) I6.os I6.base I6.hok I6.bare fun b hb=>?_
   obtain⟨f,_⟩:=f3 b hb
   exact⟨f.2.2.2.1,f.2.1,f.2.2.2.2.1,f.2.2.2.2.2⟩
  ·refine iP (T.item (jL X N sc s3 (upd H2 D (.lst [])) fp) rfl rfl rfl hc i [] s5 σ5 H5 _ I5 (UT KA) cU go) (fun r s6 ⟨u,hr,h6⟩=>?_) fun _ _ z=>z
   subst hr
   refine iP h6 (fun _ s7 ⟨x,H7,I7,r7,y7,gg,fr7⟩=>?_) fun _ _ z=>z
   have I7':=I7.pinned (UT fr7) (T.obj _ _ gg)
   refine iP (hg s3 (upd H2 D (.lst [])) fp _ s7 σ5 H7 x u _ I7' r7 (step x H7 y7)) (fun _ s8 ⟨σ8,H8,I8,q8⟩=>?_) fun _ _ z=>jT z
   refine iP (ht s3 (upd H2 D (.lst [])) fp _ s8 σ8 H8 _ I8 q8) (fun ok s9 ⟨H9,I9,q9⟩=>?_) fun _ _ z=>jT z
   have again:∀ {σ7:St} {H7:Hp} {s':aB} {m':Nat},Inv (jL X N sc s3 (upd H2 D (.lst [])) fp) ([]++Gc fp s7.heap) σ7 H7 s'->m'<n->W (i+1) m' σ7 H7->
     ∃m,m<n/\∃i σ' H',Inv (jL X N sc s3 (upd H2 D (.lst [])) fp) [] σ' H' s'/\tn i s'.heap/\(∀b∈fp,H' b=none)/\W i m σ' H':=fun {σ7 H7 s' m'} I7 hm w7=>by
    refine⟨m',hm,i+1,σ7,H7,I7.Nf,T.keep _ _ _ gg fun b hb o e=>(I7.pin (b,o) (uq _ (uq _ (L5 hb e)))).1,fun b hb=>?_,w7⟩
    obtain⟨o,e,d⟩:=T.obj _ _ gg b hb
    exact(I7.pin (b,o) (uq _ (uq _ (L5 hb e)))).2.1
   cases ok with
   |false=>
    rw[if_neg gw]at q9 ⊢
    obtain⟨m',hm,w9⟩:=q9
    exact again I9 hm w9
   |true=>
    rw[if_pos rfl]at q9 ⊢
    refine iP (he s3 (upd H2 D (.lst [])) fp _ s9 σ8 H9 _ I9 q9) (fun uv ig ⟨v,fh,I10,gQ,aE,aoA,hz,m',hm,w10⟩=>?_) fun _ _ z=>jT z
    refine iP (oA (X:=jL X N sc s3 (upd H2 D (.lst [])) fp) _ ig σ8 fh (.ref D) [v] (.ref D) [uv] (fun y H'=>H'=upd fh D (.lst (aE++[v]))) I10 rfl (.cons gQ .nil) ⟨D,aE,v,rfl,rfl,aoA,hz,rfl⟩) (fun _ lK ⟨y,pT,I11,_,e11⟩=>?_) fun _ _ z=>jT z
    subst e11
    exact again I11 hm w10
 refine codeAny_compStart_list (LZ _ ?_) (T.self X.A 0 _ _ _ (?_:tn 0 _) (LZ _ ?_))
 ·rw[<- hs3]<;>rfl
 ·exact cu
 ·rw[<- hs3]<;>rfl
theorem Jb{X:Cx}{ah:List (aa×Obj)}{σ:St}{H:Hp}{s:aB}{N:List Str}{cap:List (Option Nat)}{sc:iI}(S:pS X N cap sc)(I:Inv X ah σ H s):closureFor sc X.env=pure (fJ X.env.cells sc.names []):=
 anB fun y hy hf=>I.ok.has y.1 (S.free y hy hf)
theorem jz{X:Cx}{N:List Str}{cap:List (Option Nat)}{sc:iI}{lY jm iter:aZ}{kQ:List aZ}{pos:Pos}{wi:TI}{g:TG}{tt:TT}{te:TE}
  (hc:X.calm=true) (S:pS X N cap sc) (hi:PI X jm iter wi)
  (hg:∀s H fp,PG (jL X N sc s H fp) jm g) (ht:∀s H fp,rL (jL X N sc s H fp) kQ tt) (he:∀s H fp,PE (jL X N sc s H fp) lY te)
  (hs:∀x,foldedSetIterable iter X.env x=pure x:=by intro _;rfl):PE X (.ListComp lY [⟨jm,iter,kQ,0⟩] sc pos) (tLC cap wi g tt te):=by
 intro ah s σ H Q I h
 rw[eval_ListComp]
 refine aza (use:=none) rfl hs (Jb S I) S.kind S.names (aV (hi ah s σ H _ I h) fun v s1 h1=>aV h1 fun Ly s2 h2=>?_)
 obtain⟨it,fp,tn,J,H2,e,I2,T,jk,f2,q2⟩:=h2
 subst e
 refine aeh (RR:=fun aE C=>compPost (aN X.prog X.w) X.A X.xe none (EP X ah σ Q) aE C) hc S hg ht he I2 T jk f2 q2 ?_
 rintro D C H' s' ⟨m,ns⟩ hC hsz I' q
 refine⟨m,ns,fun h' z9=>⟨.ref D,H',?_,rfl,q⟩⟩
 have KL:C≠X.env.locals:=kE (gq I2.lt hsz)
 exact I'.turned (it:=C) (t':=s'.toks) (fun b o hb e=>(z9.2 b hb).trans e) hC KL (.inr (fP I2.sz hsz))
  (fun x c e z=>by
   obtain⟨v,q⟩:=I2.cell x c e
   exact absurd (gq q.lt (by rw[z];exact hsz)) (mT _))
  (fun p hp z=>absurd (gq (bV (I2.pin p hp).1) (by rw[z];exact hsz)) (mT _))
theorem Z4{X:Cx}{N:List Str}{cap:List (Option Nat)}{sc:iI}{lY jm iter:aZ}{kQ:List aZ}{pos akQ py:Pos}{wi:TI}{g:TG}{tt:TT}{te:TE}{i:Nat}{y:Str}
  (hc:X.calm=true) (hN:X.N.Nodup) (hy:X.N[i]?=some y) (hx:Loc X.env.scope y) (S:pS X N cap sc) (hi:PI X jm iter wi)
  (hg:∀s H fp,PG (jL X N sc s H fp) jm g) (ht:∀s H fp,rL (jL X N sc s H fp) kQ tt) (he:∀s H fp,PE (jL X N sc s H fp) lY te)
  (hsw:M5 (.ListComp lY [⟨jm,iter,kQ,0⟩] sc pos) (some (.Name y py)) akQ.line X.env=pure true:=by rfl)
  (hs:∀x,foldedSetIterable iter X.env x=pure x:=by intro _;rfl)
  (hf:X.fn y=true\/X.env.scope.names.lookup y=some .local:=by first | exact .inl rfl | exact .inr rfl | assumption):PS X (.Assign [.Name y py] (.ListComp lY [⟨jm,iter,kQ,0⟩] sc pos) akQ) (M6 (tLC cap wi g tt te) (Bs i)):=by
 intro ah s σ H D I h
 rw[exec_Assign_Name_used _ _ _ _ hsw]
 refine aF (CU (aF ?_))
 show aK _ X.A (do let _ <- comprehension (.ListComp lY [⟨jm,iter,kQ,0⟩] sc pos) sc X.env _ (newList []) false (eval iter X.env) (some (uI (.Name y py) X.env))) _ _ s
 refine aF (iP (aza (use:=some (uI (.Name y py) X.env)) (Q:=fun _ s'=>SP X ah D .next s') rfl hs (Jb S I) S.kind S.names
  (aV (hi ah s σ H _ I h) fun v s1 h1=>aV h1 fun Ly s2 h2=>?_)) (fun _ s' hq=>bJ (bJ hq)) fun _ _ e=>e)
 obtain⟨it,fp,tn,J,H2,e,I2,T,jk,f2,q2⟩:=h2
 subst e
 refine aeh (Q:=fun x H1=>Bs i x σ H1 D.nx) (RR:=fun aE C=>compPost (aN X.prog X.w) X.A X.xe (some (uI (.Name y py) X.env)) (fun _ s'=>SP X ah D .next s') aE C) hc S hg ht he I2 T jk f2 q2 ?_
 rintro Da C H' s' ⟨m,ns⟩ hC hsz I' q
 have KL:C≠X.env.locals:=kE (gq I2.lt hsz)
 have hCc:∀x c,X.env.cells.lookup x=some c->c≠C:=fun x c e z=>by
  obtain⟨v,q⟩:=I2.cell x c e
  exact absurd (gq q.lt (by rw[z];exact hsz)) (mT _)
 show aK _ X.A (uI (.Name y py) X.env (.ref Da)) _ _ _
 refine wpAny_assign_Name (akW I' hN hy hx (show RelV (.ref Da) (.ref Da)from rfl) (fun nB I'' E1=>?_) hf)
 obtain⟨a,Lp,ha⟩:=E1
 have hCa:C≠a:=by
  rcases ha with rfl | e
  ·exact KL
  ·exact dB (hCc y a e)
 refine⟨m,ns.sameBut Lp hCa,fun h' z9=>⟨_,H',?_,q⟩⟩
 exact I''.turned (it:=C) (t':=nB.toks) (fun b o hb e=>(z9.2 b hb).trans e) hC KL (.inr (fP I2.sz hsz)) hCc
  (fun p hp z=>absurd (gq (bV (I2.pin p hp).1) (by rw[z];exact hsz)) (mT _))
noncomputable def jY(T:String)(v d:aa):HO:=.ext fun h=>h.get? v=some {cls:=.type T,data:=.fields #[.ref d]}
noncomputable def zE(K:bG)(H:Hp)(x:V)(ys:List V):Prop:=∃a,x=.ref a/\(dO K H a ys\/gc K H a ys\/(∃kvs,H a=some (.dK kvs)/\ys=kvs.map fun p=>kV p.1)\/
 ∃d kvs,H a=some (jY "dict_values" a d)/\H d=some (.dK kvs)/\ys=kvs.map (·.2))
noncomputable def anc(prog:cH)(w:cj)(A:cS)(s:aB)(v:ao)(n:Nat)(P:Nat->ao->Prop):Prop:=
 ∃d oI St,d<s.heap.objs.size/\(∀(E:ao->aB->Prop) (Q:ao->aB->Prop),Q (.ref s.heap.objs.size) {s with heap:=s.heap.push oI}->aK (aN prog w) A (pyIter v) Q E s)/\
  Walks prog w A s.heap.objs.size [s.heap.objs.size,d] [s.heap.objs.size] n P St/\St 0 (s.heap.push oI)
theorem Nj{prog:cH}{w:cj}{A:cS}{I:aa}{fp wr:List aa}{n:Nat}{P P':Nat->ao->Prop}{St:Nat->bL->Prop}(W:Walks prog w A I fp wr n P St)(h:∀i v,P i v->P' i v):Walks prog w A I fp wr n P' St where
 sub:=W.sub
 frame:=W.frame
 item:=fun i s Q E hi st hQ=>W.item i s Q E hi st fun v h' tk hp aU hk=>hQ v h' tk (h i v hp) aU hk
 done:=W.done
 self:=W.self
theorem B0{κ:Type}:∀ {kvs:List (κ×V)} {vs:List (κ×ao)} {i:Nat} {q:κ×ao},KV kvs vs->vs[i]?=some q->∃p,kvs[i]?=some p/\p.1=q.1/\RelV p.2 q.2
 |_,_,_,_,.nil,e=>by simp at e
 |_,_,0,_,.cons r _,e=>by simp at e;subst e;exact⟨_,rfl,r⟩
 |_,_,i+1,q,.cons _ t,e=>by
  obtain⟨p,h1,h2⟩:=B0 (i:=i) (q:=q) t (by simpa using e)
  exact⟨p,by simpa using h1,h2⟩
theorem CN{xs:List V}{us:List ao}{i:Nat}{u:ao}(r:bu xs us)(e:us[i]?=some u):∃x,xs[i]?=some x/\RelV x u:=by
 cases h:xs[i]? with
 |none=>rw[r.none_of h]at e;cases e
 |some x=>
  obtain⟨u',h1,h2⟩:=r.get h
  rw[e]at h1;cases h1
  exact⟨x,rfl,h2⟩
theorem LM{P:cH}{w:cj}{k:Key}{u:ao}(h:(iE P w).is k u=true):RelV (kV k) u:=by
 rcases sF (k:=k) (v:=u) h with⟨i,t,rfl,rfl⟩ | ⟨x,t,rfl,rfl⟩
 ·exact⟨t,rfl⟩
 ·exact⟨t,rfl⟩
section
variable{X:Cx}{ah:List (aa×Obj)}{σ:St}{H:Hp}{s:aB}
theorem Inv.src{A:cS}{x:V}{v:ao}{ys:List V}(I:Inv X ah σ H s)(hh:A.handled=none)(r:RelV x v)(h:zE X.K H x ys) :
  anc X.prog X.w A s v ys.length (fun i u=>∃y,ys[i]?=some y/\RelV y u):=by
 obtain⟨a,rfl,h⟩:=h
 cases r
 rcases h with h | h | ⟨kvs,h,rfl⟩ | ⟨d,kvs,h,hd,rfl⟩
 ·obtain⟨its,rv,p,hz⟩:=I.list h
  have bQ:a<s.heap.objs.size:=by obtain⟨_,e,_⟩:=p.isList;exact bV e
  have W:=Walks.list (prog:=X.prog) (w:=X.w) (A:=A) hh s.heap.objs.size a (dw bQ) its.toArray
  rw[show its.toArray.size=ys.length by rw[cV,rv.length]]at W
  exact⟨a,_,_,bQ,fun E Q q=>wpAny_pyIter_list p.isList q,Nj W fun i u e=>CN rv (by simpa using e),⟨⟨_,gn _ rfl,rfl,rfl⟩,p.isList.push _⟩⟩
 ·obtain⟨its,rv,p,hz⟩:=I.tuple h
  have bQ:a<s.heap.objs.size:=p.lt
  have p':s.heap.IsTuple a its.toArray:=p
  have W:=Walks.tuple (prog:=X.prog) (w:=X.w) (A:=A) hh s.heap.objs.size a (dw bQ) its.toArray
  rw[show its.toArray.size=ys.length by rw[cV,rv.length]]at W
  refine⟨a,_,_,bQ,fun E Q q=>wpAny_pyIter_tuple p' q,Nj W fun i u e=>CN rv (by simpa using e),⟨⟨_,gn _ rfl,rfl,rfl⟩,?_⟩⟩
  obtain⟨o,ho,c⟩:=p'
  exact⟨o,cM _ ho,c⟩
 ·obtain⟨z,lo,vs,cQ,dd⟩:=x6 I.hok h
  obtain⟨ep,eG⟩:=dd.dictAt
  have W:=Walks.dictKeys (prog:=X.prog) (w:=X.w) (A:=A) (knd:=iE X.prog X.w) hh s.heap.objs.size a (dw eG.lt_size) vs ep
  have bC:vs.length=(kvs.map fun p=>kV p.1).length:=by rw[aC,<- cQ.length]
  rw[<- bC]
  refine⟨a,_,_,eG.lt_size,fun E Q q=>wpAny_pyIter_dict lo eG q,Nj W fun i u hu=>?_,⟨⟨_,gn _ rfl,rfl,rfl⟩,eG.push _⟩⟩
  obtain⟨k,x,e,hk⟩:=hu
  obtain⟨p,hp,e1,_⟩:=B0 cQ e
  refine⟨kV p.1,by rw[dG,hp];rfl,?_⟩
  rw[show p.1=k from e1]
  exact LM hk
 ·obtain⟨z,lo,vs,cQ,dd⟩:=x6 I.hok hd
  obtain⟨ep,eG⟩:=dd.dictAt
  have hv:s.heap.IsValuesView a d:=⟨_,(I.hok a _ h).1,rfl,rfl⟩
  have W:=Walks.dictValues (prog:=X.prog) (w:=X.w) (A:=A) (knd:=iE X.prog X.w) hh s.heap.objs.size d (dw eG.lt_size) vs ep
  have bC:vs.length=(kvs.map (·.2)).length:=by rw[aC,<- cQ.length]
  rw[<- bC]
  refine⟨d,_,_,eG.lt_size,fun E Q q=>wpAny_pyIter_values hv eG q,Nj W fun i u hu=>?_,⟨⟨_,gn _ rfl,rfl,rfl⟩,eG.push _⟩⟩
  obtain⟨k,e⟩:=hu
  obtain⟨p,hp,_,e2⟩:=B0 cQ e
  exact⟨p.2,by rw[dG,hp];rfl,e2⟩
theorem MY{h':bL}{oI:Obj}(hk:∀b o,b∉[s.heap.objs.size]->(s.heap.push oI).get? b=some o->h'.get? b=some o):∀b o,s.heap.get? b=some o->h'.get? b=some o:=
 fun b o e=>hk b o (fun hm=>by rw[gb.mp hm]at e;exact mT _ (bV e)) (cM _ e)
theorem aay{d:aa}{oI:Obj}(hd:d<s.heap.objs.size):∀b∈[s.heap.objs.size,d],b<(s.heap.push oI).objs.size:=fun b hb=>by
 rw[C8]
 rcases dY.mp hb with rfl | hb
 ·exact II _
 ·rw[gb.mp hb];exact ab5 hd
theorem ad4{bs:List Bool}{i:Nat}{u:ao}(h:∃y,(bs.map V.bl)[i]?=some y/\RelV y u):∃b,bs[i]?=some b/\u=.bool b:=by
 obtain⟨y,e,r⟩:=h
 rw[dG]at e
 cases q:bs[i]? with
 |none=>rw[q]at e;cases e
 |some b=>
  rw[q]at e
  cases e
  exact⟨b,rfl,r⟩
theorem int_at{ns:List Int}{i:Nat}{u:ao}(h:∃y,(ns.map V.int)[i]?=some y/\RelV y u):∃t,u=.int (ns.getD i 0) t:=by
 obtain⟨y,e,r⟩:=h
 rw[dG]at e
 cases q:ns[i]? with
 |none=>rw[q]at e;cases e
 |some b=>
  rw[q]at e
  cases e
  obtain⟨t,rfl⟩:=r
  exact⟨t,by rw[eX,q];rfl⟩
theorem zJ(hc:X.calm=true):jq X (.builtin "all") (fun xs H Q=>∃(x:V) (bs:List Bool),xs=[x]/\zE X.K H x (bs.map V.bl)/\Q (.bl (bs.all id)) H):=by
 intro ah s σ H xs us Q I r h
 obtain⟨x,bs,rfl,hs,q⟩:=h
 obtain⟨u,rfl,ru⟩:=vals1 r
 obtain⟨d,oI,St,hd,it,W,st⟩:=I.src (A:=X.A.in1) (I.ok.hd hc) ru hs
 refine call_all_walk (it _ _ ⟨_,_,_,_,_,_,fun i=>(bs[i]?).getD true,rfl,W,st,fun i v s' Q' E' hP hQ=>?_,fun h' tk hk=>?_⟩)
 ·obtain⟨b,e,rfl⟩:=ad4 hP
  simp only[e,ux]at hQ
  exact qZ hQ
 ·rw[aC,LSm.range_all]
  exact⟨.bl _,H,I.kept (MY hk),rfl,q⟩
theorem ad6(hc:X.calm=true):jq X (.builtin "any") (fun xs H Q=>∃(x:V) (bs:List Bool),xs=[x]/\zE X.K H x (bs.map V.bl)/\Q (.bl (bs.any id)) H):=by
 intro ah s σ H xs us Q I r h
 obtain⟨x,bs,rfl,hs,q⟩:=h
 obtain⟨u,rfl,ru⟩:=vals1 r
 obtain⟨d,oI,St,hd,it,W,st⟩:=I.src (A:=X.A.in1) (I.ok.hd hc) ru hs
 refine call_any_walk (it _ _ ⟨_,_,_,_,_,_,fun i=>(bs[i]?).getD false,rfl,W,st,fun i v s' Q' E' hP hQ=>?_,fun h' tk hk=>?_⟩)
 ·obtain⟨b,e,rfl⟩:=ad4 hP
  simp only[e,ux]at hQ
  exact qZ hQ
 ·rw[aC,LSm.range_any]
  exact⟨.bl _,H,I.kept (MY hk),rfl,q⟩
theorem agO{ns:List Int}{i:Nat}(h:i<ns.length):ns.getD i 0∈ns:=by
 rw[eX,bZ h]
 exact A5 h
theorem ahm{ns:List Int}{a:Int}(h:a∈ns):∃j,j<ns.length/\ns.getD j 0=a:=by
 obtain⟨j,hj,e⟩:=IA h
 exact⟨j,hj,by rw[eX,bZ hj];exact e⟩
theorem anv(hc:X.calm=true):jq X (.builtin "max") (fun xs H Q=>∃(x:V) (ns:List Int),xs=[x]/\zE X.K H x (ns.map V.int)/\0<ns.length/\∀M:Int,M∈ns->(∀a∈ns,a<=M)->Q (.int M) H):=by
 intro ah s σ H xs us Q I r h
 obtain⟨x,ns,rfl,hs,hn,q⟩:=h
 obtain⟨u,rfl,ru⟩:=vals1 r
 obtain⟨d,oI,St,hd,it,W,st⟩:=I.src (A:=X.A.in1) (I.ok.hd hc) ru hs
 rw[aC]at W
 refine call_max_walk (it _ _ ⟨_,_,_,_,_,_,_,rfl,W,st,aay hd,hn,CmpOf.ints_gt (fun i=>ns.getD i 0) (fun i v hP=>int_at hP),fun v h' tk hP hk=>?_⟩)
 obtain⟨t,rfl⟩:=int_at hP
 obtain⟨b1,b2⟩:=argBest_gt (fun i=>ns.getD i 0) (ns.length-1)
 refine⟨.int _,H,I.kept (MY hk),⟨t,rfl⟩,q _ (agO (by omega)) fun a ha=>?_⟩
 obtain⟨j,hj,rfl⟩:=ahm ha
 exact b2 j (by omega)
theorem akg:∀(n:Nat) (ns:List Int),preSum (fun i=>ns.getD i 0) n=(ns.take n).sum
 | 0,ns=>by simp[preSum]
 |n+1,ns=>by
  show preSum (fun i=>ns.getD i 0) n+ns.getD n 0=(ns.take (n+1)).sum
  rw[akg n ns,jW]
  cases q:ns[n]? with
  |none=>simp[eX,q]
  |some b=>simp[eX,q]
theorem QH(hc:X.calm=true):jq X (.builtin "sum") (fun xs H Q=>∃(x:V) (ns:List Int),xs=[x]/\zE X.K H x (ns.map V.int)/\Q (.int ns.sum) H):=by
 intro ah s σ H xs us Q I r h
 obtain⟨x,ns,rfl,hs,q⟩:=h
 obtain⟨u,rfl,ru⟩:=vals1 r
 obtain⟨d,oI,St,hd,it,W,st⟩:=I.src (A:=X.A.in1) (I.ok.hd hc) ru hs
 rw[aC]at W
 refine call_sum_walkAnyS (it _ _ ⟨_,_,_,_,_,_,_,fun i=>ns.getD i 0,rfl,W.toS,st,aay hd,fun i v hP=>int_at hP,fun s' t' hm=>?_⟩)
 rw[Moved.eq_with hm,akg,mS]
 exact⟨.int _,H,I.kept (MY hm.heap),⟨t',rfl⟩,q⟩
theorem E8:∀ {ns:List Int} {us:List ao},bu (ns.map V.int) us->nJ us ns
 | [],_,.nil=>.nil
 |n::ns,_,.cons r t=>by
  obtain⟨tk,rfl⟩:=r
  exact .cons n tk (E8 t)
theorem ad9:jq X (.builtin "sorted") (fun xs H Q=>∃(a:aa) (ns:List Int),xs=[.ref a]/\dO X.K H a (ns.map V.int)/\ns.length<64/\∀(l:aa) (ms:List Int),H l=none->ms.Perm ns->ms.Pairwise (·<=·)->Q (.ref l) (upd H l (.lst (ms.map V.int)))):=by
 intro ah s σ H xs us Q I r h
 obtain⟨a,ns,rfl,hs,rT,q⟩:=h
 obtain⟨u,rfl,ru⟩:=vals1 r
 cases ru
 obtain⟨its,rv,p,hz⟩:=I.list hs
 have hI:=E8 rv
 have hl:its.length=ns.length:=by rw[<- rv.length,aC]
 refine sorted_ints p.isList hI (by omega) fun out ms a1 a2 a3=>?_
 obtain⟨e,he⟩:=sortedAll_at s.heap its out
 have EH:H (s.heap.objs.size+1)=none:=I.hok.fresh (uw _)
 refine⟨.ref _,_,I.laid (t':=s.toks) (a:=s.heap.objs.size+1) (o:=.lst (ms.map V.int)) (fun b o z=>sortedAll_old z) (uw _) ?_,rfl,q _ ms EH a2 a3⟩
 refine⟨?_,out.toList,e,HM a1,?_⟩
 ·rw[aC,a2.length_eq]
  rw[aC]at hz
  exact hz
 ·rw[he]
theorem ad'(hc:X.calm=true):jq X (.builtin "sorted") (fun xs H Q=>∃(a:aa) (kvs:List (Key×V)) (ns:List Int),xs=[.ref a]/\H a=some (.dK kvs)/\kvs.map (·.1)=ns.map cN/\ns.length<64/\∀(l:aa) (ms:List Int),H l=none->ms.Perm ns->ms.Pairwise (·<=·)->Q (.ref l) (upd H l (.lst (ms.map V.int)))):=by
 intro ah s σ H xs us Q I r h
 obtain⟨a,kvs,ns,rfl,hs,hk,rT,q⟩:=h
 obtain⟨u,rfl,ru⟩:=vals1 r
 cases ru
 obtain⟨z,lo,vs,cQ,dd⟩:=x6 I.hok hs
 obtain⟨ep,eG⟩:=dd.dictAt
 have kN:vs.length=ns.length:=by
  have:=congrArg N3 hk
  rw[aC,aC]at this
  rw[<- cQ.length,this]
 have U0:vs.length<=sizeLine:=fP (by omega:vs.length<=64) (by decide)
 refine alM kind_sorted plain_sorted entry_sorted (args_sorted1 _) ?_
 unfold Builtin.«sorted»
 refine aF (m:=checkCount "sorted" 1 1 _) (bJ ?_)
 refine aF (PySem.W.kdu_collect (A:=X.A.in1) (PySem.W.kdl_dict (knd:=iE X.prog X.w) (kvs:=vs) (ep:=ep) lo) (I.ok.hd hc) eG U0 fun h' tk aE n8 pA=>?_)
 have hl:aE.toList.length=ns.length:=by rw[lM];exact pA.1.trans kN
 have hI:nJ aE.toList ns:=by
  have go:∀(us:List ao) (ns:List Int),us.length=ns.length->(∀j v,us[j]?=some v->∃t,v=uG (ns.getD j 0) t)->nJ us ns:=by
   intro us
   induction us with
   |nil=>intro ns hl _;cases ns with | nil=>exact .nil | cons _ _=>cases hl
   |cons u us ih=>
    intro ns hl hv
    cases ns with
    |nil=>cases hl
    |cons n ns=>
     obtain⟨t,e⟩:=hv 0 u rfl
     have e':u=uG n t:=e
     subst e'
     exact .cons n t (ih ns (by simpa using hl) fun j v hj=>by
      obtain⟨t,e⟩:=hv (j+1) v (by simpa using hj)
      exact⟨t,by simpa using e⟩)
  refine go _ _ hl fun j v hj=>?_
  obtain⟨k,x,e1,e2⟩:=pA.2 j v (by rw[<- Nq];exact hj)
  obtain⟨p,hp,e3,_⟩:=B0 cQ e1
  have e4:(kvs.map (·.1))[j]?=some k:=by rw[dG,hp];exact congrArg some e3
  rw[hk,dG]at e4
  cases hq:ns[j]? with
  |none=>rw[hq]at e4;cases e4
  |some n=>
   rw[hq]at e4
   have e5:k=cN n:=(cY e4).symm
   subst e5
   obtain⟨t,rfl⟩:=LM e2
   exact⟨t,by rw[eX,hq];rfl⟩
 refine aF (Nm ?_ (by rw[hl];omega))
 have sr:(h'.push (dZ "list" aE.toList.toArray 0)).get? h'.objs.size=some (dZ "list" aE.toList.toArray 0):=gn _ rfl
 refine aF (jS (AI akM ⟨_,sr,rfl⟩ agm (list_sort_tree sr hI (by rw[hl];exact rT) fun out ms a1 a2 a3=>⟨_,rfl,?_⟩) (args_list_sort _)))
 obtain⟨e,he⟩:=sortedHeap_at (vs:=aE.toList) (out:=out) sr
 have I1:Inv X ah σ H {s with heap:=h',toks:=tk}:=I.kept n8
 have EH:H h'.objs.size=none:=I1.hok.fresh (br _)
 have kp:∀b o,h'.get? b=some o->(sortedHeap (h'.push (dZ "list" aE.toList.toArray 0)) h'.objs.size aE.toList out).get? b=some o:=fun b o q=>by
  have bQ:=bV q
  rw[sortedHeap_old (dw bQ) (by rw[aat];exact ab5 bQ)]
  exact cM _ q
 have I2:=I1.laid (t':=tk) (a:=h'.objs.size) (o:=.lst (ms.map V.int)) kp (br _) ⟨by rw[aC,a2.length_eq];omega,out.toList,e,HM a1,by rw[he]⟩
 exact bJ ⟨_,rfl,.ref _,_,I2,rfl,q _ ms EH a2 a3⟩
end
end L2
namespace L2
open PySem PySem.Spec PyProof.Rows
section
variable{X:Cx}{ah:List (aa×Obj)}{σ:St}{H:Hp}{s:aB}
theorem lW:jq X (.builtin "isinstance") (fun xs H Q=>∃(x:V) (t:ao) (T:String) (b:Bool),xs=[x,.ty T]/\kF X.K H x t/\bz X.K t (.type T)=some b/\Q (.bl b) H):=by
 intro ah s σ H xs us Q I r h
 obtain⟨x,t,T,b,rfl,ty,e,q⟩:=h
 obtain⟨u,v,rfl,ru,rv⟩:=r.two
 obtain rfl:v=Be T:=rv
 exact aho I ru ty e fun tk=>⟨.bl b,H,I.tok tk,rfl,q⟩
noncomputable def akp(T:String):V->List V->Hp->VK->Prop:=fun x vs H Q=>∃(d:aa) (kvs:List (Key×V)),x=.ref d/\vs=[]/\H d=some (.dK kvs)/\∀v,H v=none->Q (.ref v) (upd H v (jY T v d))
theorem alw{T:String}{d:aa}:cD X.prog X.w (upd H s.heap.objs.size (jY T s.heap.objs.size d)) (s.heap.push {cls:=.type T,data:=.fields #[.ref d]}) s.heap.objs.size (jY T s.heap.objs.size d):=
 ⟨gn _ rfl,⟨_,gn _ rfl⟩,fun _ _ e k=>k _ e⟩
theorem Ci:Do X "dict.items" (akp "dict_items"):=by
 intro ah s σ H x xs v us Q I rx rs h
 obtain⟨d,kvs,rfl,rfl,hd,q⟩:=h
 cases rx
 cases rs
 obtain⟨z,lo,vs,cQ,dd⟩:=x6 I.hok hd
 refine QD A9 dd.typeIs PySem.F.entry_dict_items (PySem.F.args_dict_items_1 _) (meets_dict_items (iE X.prog X.w) d lo) ⟨⟨vs,dd⟩,?_⟩
 exact⟨.ref s.heap.objs.size,_,I.laid (t':=s.toks) (fun b u e=>cM _ e) (br _) alw,rfl,q _ I.fresh⟩
theorem Zl:Do X "dict.values" (akp "dict_values"):=by
 intro ah s σ H x xs v us Q I rx rs h
 obtain⟨d,kvs,rfl,rfl,hd,q⟩:=h
 cases rx
 cases rs
 obtain⟨z,lo,vs,cQ,dd⟩:=x6 I.hok hd
 refine QD Oo dd.typeIs PySem.F.entry_dict_values (PySem.F.args_dict_values_1 _) (meets_dict_values (iE X.prog X.w) d lo) ⟨⟨vs,dd⟩,?_⟩
 exact⟨.ref s.heap.objs.size,_,I.laid (t':=s.toks) (fun b u e=>cM _ e) (br _) alw,rfl,q _ I.fresh⟩
theorem Inv.akV{d:aa}{kvs:List (Key×V)}(I:Inv X ah σ H s)(hd:H d=some (.dK kvs)):∃o,s.heap.get? d=some o/\Inv X ah σ (upd H d (.cC o (.dK kvs))) s:=by
 obtain⟨z,lo,vs,cQ,o,es,ep,ho,r⟩:=(show cD X.prog X.w H s.heap d (.dK kvs)from I.hok d _ hd)
 refine⟨o,ho,?_⟩
 have ne:∀b u,H b=some u->u≠.dK kvs->b≠d:=fun b u e n z=>by rw[z,hd]at e;exact n (cY e).symm
 have un:Un X.fs [] H (upd H d (.cC o (.dK kvs))) s.heap s.heap:=by
  refine⟨fun b o e _ _ _=>e,fun b o e _ _ _=>⟨o.slots,e⟩,fun b ob e n _=>?_,fun b o e _=>⟨o,e⟩,fun b xs e=>?_,fun b ob u e=>?_,fun b ps e=>⟨#[],?_⟩⟩
  ·rw[aA (by rintro rfl;rw[hd]at n;cases n)];exact n
  ·rw[aA (ne b _ e (by intro q;cases q))];exact e
  ·rw[aA (ne b _ e (by intro q;cases q))];exact e
  ·rw[aA (ne b _ e (by intro q;cases q)),e];simp
 have hok:eW X.prog X.w (upd H d (.cC o (.dK kvs))) s.heap:=fun b u e=>by
  by_cases hb:b=d
  ·subst hb
   rw[au]at e
   cases e
   exact⟨ho,z,lo,vs,cQ,o,es,ep,ho,r⟩
  ·rw[aA hb]at e
   refine(I.hok b u e).stay (fun _ _ _ q=>q) (fun c q=>?_) fun c xs q=>?_
   ·rw[aA (ne c _ q (by intro q;cases q))];exact q
   ·rw[aA (ne c _ q (by intro q;cases q))];exact q
 exact I.un (t':=s.toks) un hok
noncomputable def D3(o:Obj):Nat:=match o.data with
 | .dict _ ep=>ep
 |_=>0
theorem Inv.CJ{d:aa}{o:Obj}{kvs:List (Key×V)}(I:Inv X ah σ H s)(hd:H d=some (.cC o (.dK kvs))) :
  (d == tM)=false/\∃vs,KV kvs vs/\s.heap.DictAt (iE X.prog X.w) d vs (D3 o):=by
 obtain⟨h0,z,lo,vs,cQ,o',es,ep,ho,ex,BC,r⟩:=(show cD X.prog X.w H s.heap d (.cC o (.dK kvs))from I.hok d _ hd)
 rw[h0]at ho
 cases ho
 have e:D3 o=ep:=by unfold D3;rw[BC]
 rw[e]
 exact⟨lo,vs,cQ,o,es,h0,ex,BC,r⟩
theorem Inv.ayM{h':bL}{t':Nat}{it a:aa}{o':HO}(I:Inv X ah σ H s)(k:∀b o,b≠it->s.heap.get? b=some o->h'.get? b=some o)(hn:H it=none)(hL:it≠X.env.locals)
  (h1:it∈X.ex\/X.s₀.heap.objs.size<=it) (h2:∀x c,X.env.cells.lookup x=some c->c≠it) (h3:∀p∈X.pn++ah,p.1≠it) (ha:s.heap.objs.size<=a) (new:cD X.prog X.w (upd H a o') h' a o') :
  Inv X ah σ (upd H a o') {s with heap:=h',toks:=t'}:=by
 have fr:H a=none:=I.hok.fresh ha
 have qq:∀b u,H b=some u->b≠it:=fun b u e z=>by rw[z,hn]at e;cases e
 refine I.step (g':=s.gens) (d':=s.drawn) (ch:=[it]) (fun b hb=>?_) (fun b o _ _ hc e _=>k b o (fun z=>hc (by simp[z])) e) (fun b o _ _ hc e _=>⟨o.slots,k b o (fun z=>hc (by simp[z])) e⟩) (fun b o _ e n=>?_)
  (fun b o hc e=>⟨o,k b o (fun z=>hc (by simp[z])) e⟩) (fun b xs e=>?_) (fun b o u e=>?_) (fun b ps e=>⟨#[],?_⟩) (fun m hm=>?_) (fun b u e=>?_) I.bare
 ·have e:b=it:=by simpa using hb
  subst e
  exact⟨h1,hL,h2,h3⟩
 ·rw[aA (dw (gq (bV e) ha))];exact n
 ·rw[aA (bf e fr)];exact e
 ·rw[aA (bf e fr)];exact e
 ·rw[aA (bf e fr),e];simp
 ·obtain⟨o,es,ep,ho,r⟩:=hm
  exact⟨o,es,ep,k _ o (dB hL) ho,r⟩
 ·by_cases hb:b=a
  ·subst hb
   rw[au]at e
   cases e
   exact new
  ·rw[aA hb]at e
   refine(I.hok b u e).stay (fun c v hc q=>k c v ?_ q) (fun c q=>?_) fun c xs q=>?_
   ·rcases hc with z | z
    ·rw[z];exact qq b u e
    ·exact qq c _ z
   ·rw[aA (bf q fr)];exact q
   ·rw[aA (bf q fr)];exact q
noncomputable def AX(d:aa)(o:Obj)(kvs:List (Key×V)):It:=
 ⟨fun i H=>i<kvs.length/\H d=some (.cC o (.dK kvs)),fun i H x H'=>∃p t,kvs[i]?=some p/\H t=none/\x=.ref t/\H'=upd H t (.tup [kV p.1,p.2]),fun i H=>kvs.length<=i/\H d=some (.cC o (.dK kvs))⟩
theorem XJ{κ:Type}:∀ {kvs:List (κ×V)} {vs:List (κ×ao)} {i:Nat} {p:κ×V},KV kvs vs->kvs[i]?=some p->∃q,vs[i]?=some q/\p.1=q.1/\RelV p.2 q.2
 |_,_,_,_,.nil,e=>by simp at e
 |_,_,0,_,.cons r _,e=>by simp at e;subst e;exact⟨_,rfl,r⟩
 |_,_,i+1,p,.cons _ t,e=>by
  obtain⟨q,h1,h2⟩:=XJ (i:=i) (p:=p) t (by simpa using e)
  exact⟨q,by simpa using h1,h2⟩
theorem ayG{P:cH}{w:cj}{K:bG}{p7:List aZ}{x1:Nat}{oM:Pos}(d it:aa)(o:Obj)(kvs:List (Key×V)) :
  uE P w K (.Tuple p7 x1 oM) (AX d o kvs) [it] it (fun i h=>∃ok ov,IsItemIter h it d i kvs.length (D3 o) ok ov) where
 mem:=by simp
 obj:=fun i h st b hb=>by
  obtain⟨ok,ov,st⟩:=st
  have e:b=it:=by simpa using hb
  subst e
  exact⟨_,st,fun v z=>by
   have z':HW _=C1 v:=z
   cases z'⟩
 keep:=fun i h h' ⟨ok,ov,st⟩ k=>⟨ok,ov,k it (by simp) _ st⟩
 item:=by
  intro X hP hw hK hc i ah s σ H E I hf st hg
  subst hP hw hK
  obtain⟨ok,ov,st⟩:=st
  obtain⟨bQ,hd⟩:=hg
  obtain⟨lo,vs,cQ,dat⟩:=I.CJ hd
  obtain⟨f0,f1,f2,f3,f4,f5⟩:=hf it (by simp)
  obtain⟨q,hq,e1,r2⟩:=XJ cQ (bZ bQ)
  have kN:kvs.length=vs.length:=cQ.length
  rw[kN]at st
  refine wpAny_pyNext_items_item st dat hq fun key h1 EL out ht hz kp=>?_
  refine⟨_,rfl,wpAny_letOwnedTupleGo_items out fun h2 jk sb=>?_⟩
  have gM:s.heap.objs.size≠it:=kE (bV st)
  have jM:h2.get? s.heap.objs.size=some {cls:=.type "tuple",data:=.seq #[key,q.2]}:=(sb.2 _ gM).trans ht
  have fr:H s.heap.objs.size=none:=I.fresh
  have I3:Inv X ah σ (upd H s.heap.objs.size (.tup [kV kvs[i].1,kvs[i].2])) {s with heap:=h2}:=
   I.ayM (t':=s.toks) (fun b o hb e=>(sb.2 b hb).trans (kp b o hb e)) f0 f1 f3 f4 f5 (br _)
    ⟨by show 2<=aX;decide,[key,q.2],.cons (by rw[e1];exact LM EL) (.cons r2 .nil),_,jM,rfl,_,rfl⟩
  exact⟨.ref s.heap.objs.size,_,I3,rfl,⟨kvs[i],s.heap.objs.size,bZ bQ,fr,rfl,rfl⟩,⟨key,q.2,by rw[kN];exact jk⟩,fun b hb=>by
   have e:b=it:=by simpa using hb
   subst e
   rw[aA (dB gM)]
   exact f0⟩
 done:=by
  intro X hP hw hK hc i ah s σ H E I hf st hg
  subst hP hw hK
  obtain⟨ok,ov,st⟩:=st
  obtain⟨fK,hd⟩:=hg
  obtain⟨lo,vs,cQ,dat⟩:=I.CJ hd
  obtain⟨f0,f1,f2,f3,f4,f5⟩:=hf it (by simp)
  have kN:kvs.length=vs.length:=cQ.length
  rw[kN]at st
  exact wpAny_pyNext_items_end (I.ok.hd hc) st dat (xC (by omega)) fun h' eb=>⟨rfl,I.turned (t':=s.toks) (fun b o hb e=>eb b o hb e) f0 f1 f3 f4 f5⟩
 self:=by
  intro A i s Q E ⟨ok,ov,st⟩ h
  exact PySem.W.kcp_self st h
noncomputable def apY(te:TE):TI:=fun σ H R=>te σ H fun x H1=>∃(v d:aa) (kvs:List (Key×V)),x=.ref v/\H1 v=some (jY "dict_items" v d)/\H1 d=some (.dK kvs)/\∀o,R (AX d o kvs) (upd H1 d (.cC o (.dK kvs)))
theorem Cq{p7:List aZ}{x1:Nat}{oM:Pos}{l:aZ}{te:TE}(hl:PE X l te):PI X (.Tuple p7 x1 oM) l (apY te):=by
 intro ah s σ H R I h
 refine aV (hl ah s σ H _ I h) fun u s1 ⟨x,H1,I1,r1,q1⟩=>?_
 obtain⟨v,d,kvs,e,hv,hd,q⟩:=q1
 subst e
 cases r1
 obtain⟨o,ho,I2⟩:=I1.akV hd
 obtain⟨lo,vs,cQ,dat⟩:=I2.CJ au
 have E4:s1.heap.IsItemsView v d:=⟨_,(I1.hok v _ hv).1,rfl,rfl⟩
 refine wpAny_pyIter_items E4 dat ?_
 refine⟨s1.heap.objs.size,[s1.heap.objs.size],_,_,_,rfl,I2.kept (t':=s1.toks) fun b o e=>cM _ e,ayG d _ o kvs,⟨_,_,by
  have kN:kvs.length=vs.length:=cQ.length
  rw[kN]
  exact gn _ rfl⟩,fun b hb=>?_,q o⟩
 have e:b=s1.heap.objs.size:=by simpa using hb
 subst e
 exact I2.p9 (br _) (I2.hok.fresh (br _))
theorem agz{d:aa}{o:Obj}{kvs:List (Key×V)}{g:TG}{tb:TS}{D:Ends}{σ:St}{H:Hp}(Pv:Nat->St->Hp->Prop)(h0:Pv 0 σ H)(hl:∀i σ H,i<=kvs.length->Pv i σ H->H d=some (.cC o (.dK kvs)))
  (hs:∀i p σ H t,kvs[i]?=some p->Pv i σ H->H t=none->g (.ref t) σ (upd H t (.tup [kV p.1,p.2])) fun σ2 H2=>tb {D with nx:=Pv (i+1),ct:=Pv (i+1),bk:=D.nx} σ2 H2) (hd:∀σ H,Pv kvs.length σ H->D.nx σ H) :
  ∃W:Nat->Nat->St->Hp->Prop,(∃m,W 0 m σ H)/\∀i m σ H,W i m σ H->
   ((AX d o kvs).stop i H/\D.nx σ H)\/((AX d o kvs).go i H/\∃N:St->Hp->Prop,(∀σ' H',N σ' H'->∃m',m'<m/\W (i+1) m' σ' H')/\∀x H',(AX d o kvs).nG i H x H'->g x σ H' fun σ2 H2=>tb {D with nx:=N,ct:=N,bk:=D.nx} σ2 H2):=by
 refine⟨fun i m σ H=>m=kvs.length-i/\i<=kvs.length/\Pv i σ H,⟨kvs.length,by simp,fz _,h0⟩,?_⟩
 rintro i m σ H ⟨rfl,hi,p⟩
 have q:=hl i σ H hi p
 by_cases bQ:i<kvs.length
 ·refine .inr ⟨⟨bQ,q⟩,Pv (i+1),fun σ' H' p'=>⟨kvs.length-(i+1),by omega,rfl,bQ,p'⟩,fun x H' y=>?_⟩
  obtain⟨pr,t,e1,e2,e3,e4⟩:=y
  subst e3 e4
  exact hs i pr σ H t e1 p e2
 ·have e:i=kvs.length:=by omega
  subst e
  exact .inl ⟨⟨br _,q⟩,hd σ H p⟩
noncomputable def ayp(K:bG)(te ts:TE):TE:=fun σ H Q=>te σ H fun x H1=>ts σ H1 fun y H2=>y=.int (-1)/\∃a xs,x=.ref a/\dO K H2 a xs/\∀p,H2 p=none->Q (.ref p) (upd H2 p (.lst xs.reverse))
theorem aum{e st:aZ}{te ts:TE}{p2 pos:Pos}(he:PE X e te)(hs:PE X st ts):PE X (.Subscript e (.Slice none none (some st) p2) pos) (ayp X.K te ts):=by
 intro ah s σ H Q I h
 refine DB (aV (he ah s σ H _ I h) fun v s1 ⟨x,H1,I1,r1,q1⟩=>?_)
 refine Nl ?_
 rw[D4]
 refine bJ (bJ ?_)
 rw[D5]
 refine aV (hs ah s1 σ H1 _ I1 q1) fun w s3 ⟨y,H3,I3,r3,q3⟩=>?_
 obtain⟨rfl,a,xs,rfl,hx,q⟩:=q3
 cases r1
 obtain⟨t,rfl⟩:=r3
 have I4:Inv X ah σ H3 {s3 with heap:=s3.heap.push {cls:=.type "slice",data:=.fields #[.none,.none,.int (-1) t]}}:=I3.kept (t':=s3.toks) fun b ob q=>cM _ q
 obtain⟨its,r,ht,hz⟩:=I4.list hx
 have bC:=r.length
 show aK (aN X.prog X.w) X.A (HB e (.Slice none none (some st) p2) (.ref a) (.ref s3.heap.objs.size)) (EP X ah σ Q) X.xe {s3 with heap:=s3.heap.push {cls:=.type "slice",data:=.fields #[.none,.none,.int (-1) t]}}
 refine tail_any (ops:=[.ref a,.ref s3.heap.objs.size]) ht.isList.typeIs aav.lookup ?_ (by with_unfolding_all rfl)
 refine aly ht.isList (Ik ..) .none .none (abE _ _) (by decide) ?_ (by rw[cV]<;>omega)
 rw[PySem.W.krv_pick]
 refine⟨.ref _,_,I4.laid (t':=s3.toks) (o:=.lst xs.reverse) (fun b ob q=>cM _ q) (br _) ?_,rfl,q _ (I4.hok.fresh (br _))⟩
 exact⟨by rw[amL];exact hz,its.reverse,0,r.reverse,gn _ rfl⟩
mutual
noncomputable def gS(K:bG)(H:Hp):Du->V->Prop
 | .none,x=>x=.cF
 | .bool b,x=>x=.bl b
 | .int i,x=>x=.int i
 | .str z,x=>x=.str z
 | .list ds,x=>∃a xs,x=.ref a/\dO K H a xs/\lC K H ds xs
 | .tuple ds,x=>∃a xs,x=.ref a/\gc K H a xs/\lC K H ds xs
 | .dict _,_=>False
noncomputable def lC(K:bG)(H:Hp):List Du->List V->Prop
 | [],xs=>xs=[]
 |d::ds,xs=>∃y ys,xs=y::ys/\gS K H d y/\lC K H ds ys
end
mutual
theorem Inv.reads(I:Inv X ah σ H s):∀(d:Du) (x:V) (u:ao),gS X.K H d x->RelV x u->∃as,Reads s.heap u d as
 | .none,x,u,h,r=>by
  have h':x=.cF:=by simpa[gS]using h
  subst h'
  cases r
  exact⟨_,.none⟩
 | .bool b,x,u,h,r=>by
  have h':x=.bl b:=by simpa[gS]using h
  subst h'
  cases r
  exact⟨_,.bool b⟩
 | .int i,x,u,h,r=>by
  have h':x=.int i:=by simpa[gS]using h
  subst h'
  obtain⟨t,rfl⟩:=r
  exact⟨_,.int i t⟩
 | .str z,x,u,h,r=>by
  have h':x=.str z:=by simpa[gS]using h
  subst h'
  obtain⟨t,rfl⟩:=r
  exact⟨_,.str z t⟩
 | .list ds,x,u,h,r=>by
  unfold gS at h
  obtain⟨a,xs,rfl,hq,hd⟩:=h
  cases r
  obtain⟨its,rv,⟨o,n,ho,hc,_,BC⟩,_⟩:=I.list hq
  obtain⟨as,ra⟩:=Inv.readsAll I ds xs its hd rv
  exact⟨_,.list ho hc BC (by simpa using ra)⟩
 | .tuple ds,x,u,h,r=>by
  unfold gS at h
  obtain⟨a,xs,rfl,hq,hd⟩:=h
  cases r
  obtain⟨its,rv,⟨o,ho,hc,n,BC⟩,_⟩:=I.tuple hq
  obtain⟨as,ra⟩:=Inv.readsAll I ds xs its hd rv
  exact⟨_,.tuple ho hc BC (by simpa using ra)⟩
 | .dict _,x,u,h,r=>by
  unfold gS at h
  exact h.elim
theorem Inv.readsAll(I:Inv X ah σ H s):∀(ds:List Du) (xs:List V) (us:List ao),lC X.K H ds xs->bu xs us->∃as,ReadsAll s.heap us ds as
 | [],xs,us,h,r=>by
  have h':xs=[]:=by simpa[lC]using h
  subst h'
  cases r
  exact⟨_,.nil⟩
 |d::ds,xs,us,h,r=>by
  unfold lC at h
  obtain⟨y,ys,rfl,h1,h2⟩:=h
  cases r with
  |cons r1 r2=>
   obtain⟨as,ra⟩:=Inv.reads I d y _ h1 r1
   obtain⟨bs,rb⟩:=Inv.readsAll I ds ys _ h2 r2
   exact⟨_,.cons ra rb⟩
end
noncomputable def akm(K:bG)(neg:Bool):R2:=fun x y H Q=>∃da db,gS K H da x/\gS K H db y/\xH da=true/\xH db=true/\Q (.bl (if neg then !jI da db else jI da db)) H
theorem ai'(hu:X.A.units+64<nU):fQ X (jK .Eq) (akm X.K false):=by
 intro ah s σ H x y v u Q I rx ry h
 obtain⟨da,db,h1,h2,sa,sb,q⟩:=h
 obtain⟨as,ra⟩:=I.reads da x v h1 rx
 obtain⟨bs,rb⟩:=I.reads db y u h2 ry
 exact eq_dataH ra rb sa sb hu ⟨.bl _,H,I,rfl,q⟩
theorem qx(hu:X.A.units+64<nU):fQ X (jK .NotEq) (akm X.K true):=by
 intro ah s σ H x y v u Q I rx ry h
 obtain⟨da,db,h1,h2,sa,sb,q⟩:=h
 obtain⟨as,ra⟩:=I.reads da x v h1 rx
 obtain⟨bs,rb⟩:=I.reads db y u h2 ry
 exact ne_dataH ra rb sa sb hu ⟨.bl _,H,I,rfl,q⟩
noncomputable def auP(K:bG):V->List V->Hp->VK->Prop:=fun x vs H Q=>∃(l b:aa) (xs zs:List V),x=.ref l/\vs=[.ref b]/\H l=some (.lst xs)/\gc K H b zs/\xs.length+zs.length<=aX/\Q .cF (upd H l (.lst (xs++zs)))
theorem aiO:A6 X "list.extend" (auP X.K):=by
 intro ah s σ H x vs v us Q I rx rv h
 obtain⟨l,b,xs,zs,rfl,rfl,hH,hB,hz,q⟩:=h
 cases rx
 obtain⟨u,rfl,ru⟩:=rv.one
 cases ru
 obtain⟨z,its,n,r,hl,e⟩:=I.vh hH
 obtain⟨jy,r2,⟨o2,e2,yf,n2,jw⟩,z2⟩:=I.tuple hB
 have cE:=r2.length
 have hT:s.TypeIs (.ref b) "tuple":=⟨o2,e2,yf⟩
 have EM:(!its.toArray.isEmpty&&AL (its.toArray.size+jy.toArray.size))=false:=by
  rw[Zz (by rw[cV,cV];omega),HV]
 refine AI F.slot_list_extend ⟨_,e,rfl⟩ F.entry_list_extend ?_ (F.args_list_extend_2 _ _)
 show aK _ _ (CZ (.ref l) (.ref b) .none) _ _ s
 unfold CZ
 refine aF (No hT ?_)
 rw[if_pos (by simp)]
 refine aF (Cd e2 jw ?_)
 refine aF (Cd e rfl ?_)
 rw[EM]
 simp only[lN,if_false]
 refine aF (Aj e rfl ?_ (by rw[cV];omega) (by show(its.toArray++jy.toArray).size<=aX+1;rw[abp,cV,cV];omega))
 refine bJ ⟨_,rfl,.cF,_,I.FJ (its':=its++jy) (t':=s.toks) hH e (by simp) (r.append r2) (by rw[bW];omega),rfl,q⟩
end
end L2
namespace DA
open PySem PyProof.Rows PySem.W
noncomputable def gG{α:Type}(n:Nat)(c:Nat->Nat->Bool):KasT α->(α->Prop)->Prop
 | .ret a,G=>G a
 | .ask i j k,G=>i<n/\j<n/\gG n c (k (c i j)) G
theorem gG.bind{α β:Type}{n:Nat}{c:Nat->Nat->Bool}{f:α->KasT β}{G:β->Prop}:∀ {t:KasT α},gG n c t (fun a=>gG n c (f a) G)->gG n c (t.bind f) G
 | .ret a,h=>h
 | .ask i j k,h=>⟨h.1,h.2.1,gG.bind (t:=k (c i j)) h.2.2⟩
theorem gG.wp{α:Type}{n:Nat}{c:Nat->Nat->Bool}{cmp:Nat->Nat->(Bool->aB->Prop)->aB->Prop}{G:α->Prop}{Q:α->aB->Prop}{s:aB}(hc:∀i j (C:Bool->aB->Prop),i<n->j<n->C (c i j) s->cmp i j C s)
  (hq:∀a,G a->Q a s):∀ {t:KasT α},gG n c t G->t.kasWp cmp Q s
 | .ret a,h=>hq a h
 | .ask i j k,h=>hc i j _ h.1 h.2.1 (gG.wp hc hq (t:=k (c i j)) h.2.2)
section
variable{n:Nat}{key:Nat->Int}
noncomputable def kv(key:Nat->Int)(p:Array Nat)(i:Nat):Int:=key (p.getD i 0)
noncomputable def Pm(n:Nat)(p:Array Nat):Prop:=p.toList.Perm (bT n)
noncomputable def Up(key:Nat->Int)(p:Array Nat)(m:Nat):Prop:=∀i j,i<=j->j<m->kv key p i<=kv key p j
noncomputable def Dn(key:Nat->Int)(p:Array Nat)(m:Nat):Prop:=∀i j,i<=j->j<m->kv key p j<=kv key p i
theorem Pm.size{p:Array Nat}(h:Pm n p):p.size=n:=by
 have:=h.length_eq
 rw[um]at this
 rw[<- this,lM]
theorem Pm.lt{p:Array Nat}(h:Pm n p){i:Nat}(hi:i<n):p.getD i 0<n:=by
 have hs:=h.size
 have j4:i<p.size:=by omega
 have e:p.getD i 0=p[i]:=by simp[Array.getD,j4]
 rw[e]
 have hm:p[i]∈p.toList:=by simp
 exact iG.mp (h.mem_iff.mp hm)
theorem Et{p q:Array Nat}{i j:Nat}(h:p[i]?=q[j]?):p.getD i 0=q.getD j 0:=by
 rw[alE,alE,h]
theorem Pm.rev{p:Array Nat}(h:Pm n p)(i j:Nat):Pm n (LL p i j):=(CW.mp (mirror_perm p i j _)).trans h
theorem Pm.bub{p:Array Nat}(h:Pm n p)(i j:Nat):Pm n (bubble p i j):=(CW.mp (bubble_perm p i j)).trans h
theorem XM{p:Array Nat}{i j:Nat}(hj:j<=p.size)(k:Nat):kv key (LL p i j) k=if i<=k/\k<j then kv key p (i+j-1-k)else kv key p k:=by
 have e:=getElem?_mirror_all (i:=i) hj k
 unfold kv LL
 by_cases h:i<=k/\k<j
 ·rw[if_pos h]at e ⊢
  rw[Et e]
 ·rw[if_neg h]at e ⊢
  rw[Et e]
theorem Fl{p:Array Nat}{i j:Nat}(hj:j<=p.size)(heq:∀k,i<=k->k<j->kv key p k=kv key p (j-1))(k:Nat):kv key (LL p i j) k=kv key p k:=by
 rw[XM hj]
 split
 ·rw[heq _ (by omega) (by omega),heq k (by omega) (by omega)]
 ·rfl
noncomputable def lt(key:Nat->Int)(i j:Nat):Bool:=decide (key i<key j)
theorem O0{p:Array Nat}(hp:Pm n p){G:Nat->Prop}:∀(f m:Nat),1<=m->m+f<=n->Up key p m->(∀r,m<=r->r<=m+f->Up key p r->(r<m+f->kv key p r<kv key p (r-1))->G r)->gG n (lt key) (kas_asc p f m) G
 | 0,m,h1,hf,hs,g=>g m (br _) (br _) hs fun h=>absurd h (by omega)
 |f+1,m,h1,hf,hs,g=>by
  refine⟨hp.lt (by omega),hp.lt (by omega),?_⟩
  by_cases hc:kv key p m<kv key p (m-1)
  ·rw[show lt key (p.getD m 0) (p.getD (m-1) 0)=true from decide_eq_true hc]
   exact g m (br _) (by omega) hs fun _=>hc
  ·rw[show lt key (p.getD m 0) (p.getD (m-1) 0)=false from decide_eq_false hc]
   refine O0 hp f (m+1) (by omega) (by omega) (fun i j je hj=>?_) fun r h2 h3 h4 h5=>g r (by omega) (by omega) h4 fun h=>h5 (by omega)
   by_cases z5:j<m
   ·exact hs i j je z5
   ·have e:j=m:=by omega
    subst e
    by_cases hi:i=j
    ·subst hi;exact mR _
    ·have:=hs i (j-1) (by omega) (by omega)
     omega
theorem TF{G:Array Nat×Nat×Nat->Prop}:∀(f:Nat) (p:Array Nat) (m q:Nat),Pm n p->1<=m->m+f<=n->q+1<=m->Dn key p m->(∀i,m-1-q<=i->i<m->kv key p i=kv key p (m-1))->
  (∀p' r q',Pm n p'->m<=r->r<=m+f->q'+1<=r->Dn key p' r->(∀i,r-1-q'<=i->i<r->kv key p' i=kv key p' (r-1))->G (p',r,q'))->gG n (lt key) (kas_desc f p m q) G
 | 0,p,m,q,hp,h1,hf,hq,hs,he,g=>g p m q hp (br _) (br _) hq hs he
 |f+1,p,m,q,hp,h1,hf,hq,hs,he,g=>by
  refine⟨hp.lt (by omega),hp.lt (by omega),?_⟩
  by_cases hc:kv key p m<kv key p (m-1)
  ·rw[show lt key (p.getD m 0) (p.getD (m-1) 0)=true from decide_eq_true hc]
   have nx:∀p':Array Nat,Pm n p'->(∀k,kv key p' k=kv key p k)->gG n (lt key) (kas_desc f p' (m+1) 0) G:=fun p' iL hk=>by
    refine TF f p' (m+1) 0 iL (by omega) (by omega) (by omega) (fun i j je hj=>?_) (fun i h2 h3=>?_) fun yL r q' a1 a2 a3 a4 a5 a6=>g yL r q' a1 (by omega) (by omega) a4 a5 a6
    ·rw[hk,hk]
     by_cases z5:j<m
     ·exact hs i j je z5
     ·have e:j=m:=by omega
      subst e
      by_cases hi:i=j
      ·subst hi;exact mR _
      ·have:=hs i (j-1) (by omega) (by omega)
       omega
    ·have e:i=m+1-1:=by omega
     rw[e]
   by_cases BP:q>0
   ·simp only[if_true,if_pos BP]
    refine nx _ (hp.rev _ _) fun k=>Fl (by rw[hp.size];omega) (fun k' h2 h3=>he k' (by omega) h3) k
   ·simp only[if_true,if_neg BP]
    exact nx p hp fun _=>rfl
  ·rw[show lt key (p.getD m 0) (p.getD (m-1) 0)=false from decide_eq_false hc]
   simp only[lN,if_false]
   refine⟨hp.lt (by omega),hp.lt (by omega),?_⟩
   by_cases hd:kv key p (m-1)<kv key p m
   ·rw[show lt key (p.getD (m-1) 0) (p.getD m 0)=true from decide_eq_true hd]
    simp only[if_true]
    exact g p m q hp (br _) (by omega) hq hs he
   ·rw[show lt key (p.getD (m-1) 0) (p.getD m 0)=false from decide_eq_false hd]
    simp only[lN,if_false]
    have hm:kv key p m=kv key p (m-1):=by omega
    refine TF f p (m+1) (q+1) hp (by omega) (by omega) (by omega) (fun i j je hj=>?_) (fun i h2 h3=>?_) fun yL r q' a1 a2 a3 a4 a5 a6=>g yL r q' a1 (by omega) (by omega) a4 a5 a6
    ·by_cases z5:j<m
     ·exact hs i j je z5
     ·have e:j=m:=by omega
      subst e
      by_cases hi:i=j
      ·subst hi;exact mR _
      ·have:=hs i (j-1) (by omega) (by omega)
       omega
    ·show kv key p i=kv key p m
     by_cases hi:i=m
     ·rw[hi]
     ·rw[he i (by omega) (by omega),hm]
theorem tail{p:Array Nat}{m:Nat}{G:Nat×Array Nat->Prop}(hp:Pm n p)(h1:1<=m)(hm:m<=n)(hs:Dn key p m)(g:∀r p',Pm n p'->m<=r->r<=n->Up key p' r->G (r,p')):gG n (lt key) (Xu m n p) G:=by
 unfold Xu
 refine gG.bind (O0 (hp.rev _ _) (n-m) m h1 (by omega) (fun i j je hj=>?_) fun r h2 h3 h4 _=>g r _ (hp.rev _ _) h2 (by omega) h4)
 rw[XM (by rw[hp.size];omega),XM (by rw[hp.size];omega),if_pos (by omega),if_pos (by omega)]
 exact hs _ _ (by omega) (by omega)
theorem descPart{p:Array Nat}{m:Nat}{G:Nat×Array Nat->Prop}(hp:Pm n p)(h1:1<=m)(hm:m+1<=n)(hs:Dn key p (m+1))(g:∀r p',Pm n p'->1<=r->r<=n->Up key p' r->G (r,p')):gG n (lt key) (kas_descPart m n p) G:=by
 unfold kas_descPart
 refine gG.bind (TF (n-(m+1)) p (m+1) 0 hp (by omega) (by omega) (by omega) hs (fun i h2 h3=>by rw[show i=m+1-1 by omega]) fun p' r q' a1 a2 a3 a4 a5 a6=>?_)
 show gG n (lt key) (if q'>0 then Xu r n (LL p' (r-(q'+1)) r)else Xu r n p') G
 split
 ·refine tail (a1.rev _ _) (by omega) (by omega) (fun i j je hj=>?_) fun r' yL b1 b2 b3 b4=>g r' yL b1 (by omega) b3 b4
  rw[Fl (by rw[a1.size];omega) (fun k h2 h3=>a6 k (by omega) h3),Fl (by rw[a1.size];omega) (fun k h2 h3=>a6 k (by omega) h3)]
  exact a5 i j je hj
 ·exact tail a1 (by omega) (by omega) a5 fun r' yL b1 b2 b3 b4=>g r' yL b1 (by omega) b3 b4
theorem count{p:Array Nat}{G:Nat×Array Nat->Prop}(hp:Pm n p)(hn:1<=n)(g:∀r p',Pm n p'->1<=r->r<=n->Up key p' r->G (r,p')):gG n (lt key) (kas_count n p) G:=by
 unfold kas_count
 refine gG.bind (O0 hp (n-1) 1 (br _) (by omega) (fun i j je hj=>by rw[show i=j by omega];exact mR _) fun m h2 h3 h4 h5=>?_)
 by_cases he:(m == n)=true
 ·rw[if_pos he]
  exact g m p hp h2 (by omega) h4
 ·rw[if_neg he]
  have gM:m≠n:=by simpa using he
  have bQ:=h5 (by omega)
  by_cases hm:m>1
  ·rw[if_pos hm]
   refine⟨hp.lt (by omega),hp.lt (by omega),?_⟩
   by_cases hc:kv key p 0<kv key p (m-1)
   ·rw[show lt key (p.getD 0 0) (p.getD (m-1) 0)=true from decide_eq_true hc]
    simp only[if_true]
    exact g m p hp h2 (by omega) h4
   ·rw[show lt key (p.getD 0 0) (p.getD (m-1) 0)=false from decide_eq_false hc]
    simp only[lN,if_false]
    have all:∀k,0<=k->k<m->kv key p k=kv key p (m-1):=fun k _ hk=>by
     have a:=h4 0 k (by omega) hk
     have b:=h4 k (m-1) (by omega) (by omega)
     omega
    refine descPart (hp.rev _ _) h2 (by omega) (fun i j je hj=>?_) g
    rw[Fl (by rw[hp.size];omega) all,Fl (by rw[hp.size];omega) all]
    by_cases z5:j<m
    ·rw[all j (by omega) z5,all i (by omega) (by omega)]
     exact mR _
    ·have e:j=m:=by omega
     subst e
     by_cases hi:i=j
     ·subst hi;exact mR _
     ·rw[all i (by omega) (by omega)]
      omega
  ·rw[if_neg hm]
   have e1:m=1:=by omega
   subst e1
   refine descPart hp (by omega) (by omega) (fun i j je hj=>?_) g
   by_cases hi:i=j
   ·subst hi;exact mR _
   ·have e2:i=0:=by omega
    have e3:j=1:=by omega
    subst e2 e3
    simp at bQ
    omega
theorem Mv{p:Array Nat}{k:Nat}{G:Nat->Prop}(hp:Pm n p)(hk:k<n)(hs:Up key p k)(g:∀l,l<=k->(∀i,i<l->kv key p i<=kv key p k)->(∀i,l<=i->i<k->kv key p k<kv key p i)->G l) :
  ∀(f l r:Nat),l<=r->r<=k->r-l<=f->(∀i,i<l->kv key p i<=kv key p k)->(∀i,r<=i->i<k->kv key p k<kv key p i)->gG n (lt key) (kas_place p k f l r) G
 | 0,l,r,h1,h2,h3,a,b=>g l (by omega) a fun i hi hk=>b i (by omega) hk
 |f+1,l,r,h1,h2,h3,a,b=>by
  unfold kas_place
  by_cases VN:l>=r
  ·rw[if_pos VN]
   exact g l (by omega) a fun i hi hk=>b i (by omega) hk
  ·rw[if_neg VN]
   refine⟨hp.lt hk,hp.lt (by omega),?_⟩
   by_cases hc:kv key p k<kv key p ((l+r)/2)
   ·rw[show lt key (p.getD k 0) (p.getD ((l+r)/2) 0)=true from decide_eq_true hc]
    simp only[if_true]
    refine Mv hp hk hs g f l ((l+r)/2) (by omega) (by omega) (by omega) a fun i hi K9=>?_
    have:=hs ((l+r)/2) i hi K9
    omega
   ·rw[show lt key (p.getD k 0) (p.getD ((l+r)/2) 0)=false from decide_eq_false hc]
    simp only[lN,if_false]
    refine Mv hp hk hs g f ((l+r)/2+1) r (by omega) h2 (by omega) (fun i hi=>?_) b
    have:=hs i ((l+r)/2) (by omega) (by omega)
    omega
theorem Pa{G:Array Nat->Prop}:∀(f:Nat) (p:Array Nat) (k:Nat),Pm n p->k+f<=n->Up key p k->(∀p',Pm n p'->Up key p' (k+f)->G p')->gG n (lt key) (kas_bin f p k) G
 | 0,p,k,hp,hk,hs,g=>g p hp hs
 |f+1,p,k,hp,hk,hs,g=>by
  unfold kas_bin
  refine gG.bind (Mv hp (by omega) hs (fun l hl a b=>?_) k 0 k (fz _) (br _) (by omega) (fun i hi=>absurd hi (by omega)) (fun i h1 h2=>absurd h2 (by omega)))
  have hb:∀i,kv key (bubble p k (k-l)) i=if i=l then kv key p k else if l<i/\i<=k then kv key p (i-1)else kv key p i:=fun i=>by
   have e:=getElem?_bubble (xs:=p) (src:=k) (by rw[hp.size];omega) (k-l) (by omega) i
   rw[show k-(k-l)=l by omega]at e
   unfold kv
   by_cases h1:i=l
   ·rw[if_pos h1]at e ⊢
    rw[Et e]
   ·rw[if_neg h1]at e ⊢
    by_cases h2:l<i/\i<=k
    ·rw[if_pos h2]at e ⊢
     rw[Et e]
    ·rw[if_neg h2]at e ⊢
     rw[Et e]
  refine Pa f _ (k+1) (hp.bub _ _) (by omega) (fun i j je hj=>?_) fun p' h1 h2=>g p' h1 (by rw[show k+(f+1)=k+1+f by omega];exact h2)
  rw[hb,hb]
  by_cases hi:i=l
  ·rw[if_pos hi]
   by_cases n6:j=l
   ·rw[if_pos n6];exact mR _
   ·rw[if_neg n6,if_pos (by omega)]
    have:=b (j-1) (by omega) (by omega)
    omega
  ·rw[if_neg hi]
   by_cases n6:j=l
   ·rw[if_pos n6,if_neg (by omega)]
    exact a i (by omega)
   ·rw[if_neg n6]
    by_cases hi3:l<i/\i<=k
    ·rw[if_pos hi3,if_pos (by omega)]
     exact hs _ _ (by omega) (by omega)
    ·rw[if_neg hi3]
     by_cases hj3:l<j/\j<=k
     ·rw[if_pos hj3]
      exact hs _ _ (by omega) (by omega)
     ·rw[if_neg hj3]
      exact hs _ _ je (by omega)
theorem awK(hn:1<=n):gG n (lt key) (kas_sort n) (fun p=>Pm n p/\Up key p n):=by
 unfold kas_sort
 have h0:Pm n (N9 (bT n)):=by show(N9 (bT n)).toList.Perm _;simp
 refine gG.bind (count h0 hn fun r p' a1 a2 a3 a4=>?_)
 show gG n (lt key) (if r<n then kas_bin (n-max r 1) p' (max r 1)else .ret p') _
 by_cases hr:r<n
 ·rw[if_pos hr]
  have e:max r 1=r:=by omega
  rw[e]
  exact Pa (n-r) p' r a1 (by omega) a4 fun yL b1 b2=>⟨b1,by rw[show r+(n-r)=n by omega]at b2;exact b2⟩
 ·rw[if_neg hr]
  have e:r=n:=by omega
  subst e
  exact⟨a1,a4⟩
end
end DA
namespace L2
open PySem PySem.Spec PyProof.Rows
section
variable{X:Cx}{ah:List (aa×Obj)}{σ:St}{H H':Hp}{s:aB}
theorem cD.there{P:cH}{w:cj}{h:bL}{a:aa}{o:HO}(x:cD P w H h a o):∃ob,h.get? a=some ob:=by
 cases o with
 |lst xs=>obtain⟨_,_,_,_,e⟩:=x;exact⟨_,e⟩
 |tup xs=>obtain⟨_,_,_,ob,e,_⟩:=x;exact⟨_,e⟩
 |dK kvs=>obtain⟨_,_,_,_,o,_,_,e,_⟩:=x;exact⟨_,e⟩
 |dT kvs=>obtain⟨_,_,_,_,o,_,_,e,_⟩:=x;exact⟨_,e⟩
 |set S n=>obtain⟨o,_,_,_,e,_⟩:=x;exact⟨_,e⟩
 |ins C dx fs=>obtain⟨_,_,_,e,_⟩:=x;exact⟨_,e⟩
 |own y=>obtain⟨_,e⟩:=x;exact⟨_,e⟩
 |xd fs=>obtain⟨_,⟨_,_,_,e,_⟩,_⟩:=x;exact⟨_,e⟩
 |ME lo hi=>obtain⟨_,_,_,e⟩:=x;exact⟨_,e⟩
 |cC ob u=>obtain⟨e,_⟩:=x;exact⟨_,e⟩
 |yS ps=>exact⟨_,show h.get? a=some _ from x⟩
 |dU q pos=>obtain⟨_,e,_⟩:=x;exact⟨_,e⟩
 |met f y=>exact⟨_,show h.get? a=some _ from x⟩
 |ext φ=>obtain⟨_,⟨_,e⟩,_⟩:=x;exact⟨_,e⟩
theorem Inv.aqr{h':bL}{t':Nat}(I:Inv X ah σ H s)(k:∀b u,s.heap.get? b=some u->h'.get? b=some u)(hs:∀b u,s.heap.get? b=some u->H' b=H b)(new:∀b o,s.heap.get? b=none->H' b=some o->cD X.prog X.w H' h' b o) :
  Inv X ah σ H' {s with heap:=h',toks:=t'}:=by
 have lt:∀b o,H b=some o->H' b=some o:=fun b o e=>by
  obtain⟨ob,q⟩:=(I.hok b o e).there
  exact(hs b ob q).trans e
 refine I.un (t':=t') ⟨fun b o e _ _ _=>k b o e,fun b o e _ _ _=>⟨o.slots,k b o e⟩,fun b o e n _=>?_,fun b o e _=>⟨o,k b o e⟩,fun b xs e=>lt b _ e,fun b o u e=>lt b _ e,fun b ps e=>⟨#[],by rw[lt b _ e];simp⟩⟩ fun b o e=>?_
 ·rw[hs b o e];exact n
 ·cases hb:s.heap.get? b with
  |some u=>
   rw[hs b u hb]at e
   exact(I.hok b o e).stay (fun c v _ q=>k c v q) (fun c q=>lt c _ q) fun c xs q=>lt c _ q
  |none=>exact new b o hb e
end
end L2
namespace L2
open PySem PySem.Spec PyProof.Rows
noncomputable def aeg(XN:List Str)(xs:List (Str×oU))(N:List Str)(cap:List (Option Nat))(sc:iI):Bool:=
 decide (sc.kind=.function)&&decide N.Nodup&&sc.names.all (fun y=>decide (y.2≠.cell))&&sc.names.all (fun y=>decide (y.2=.local->sc.names.lookup y.1=some .local))&&
 sc.names.all (fun y=>decide (y.2=.free->xs.lookup y.1=some .cell\/xs.lookup y.1=some .free))&&decide (cap.length=N.length)&&
 (bT cap.length).all fun i=>match(cap[i]?).join with
  |some j=>decide (XN[j]?=N[i]?)&&(match N[i]? with | some x=>decide (sc.names.lookup x=some .free) | none=>false)
  |none=>true
theorem iA{X:Cx}{XN N:List Str}{xs:List (Str×oU)}{cap:List (Option Nat)}{sc:iI}(hN:X.N=XN)(hS:X.env.scope.names=xs)(h:aeg XN xs N cap sc=true):pS X N cap sc:=by
 subst hN hS
 unfold aeg at h
 simp only[nI,kD,decide_eq_true_eq]at h
 obtain⟨⟨⟨⟨⟨⟨h1,h2⟩,h3⟩,h4⟩,h5⟩,h6⟩,h7⟩:=h
 refine⟨h1,h2,h3,h4,h5,h6,fun i hi j hj=>?_⟩
 have q:=h7 i hi
 rw[hj]at q
 simp only[nI,decide_eq_true_eq]at q
 refine⟨q.1,?_⟩
 cases hx:N[i]? with
 |none=>rw[hx]at q;exact absurd q.2 gw
 |some x=>
  rw[hx]at q
  have e:sc.names.lookup x=some .free:=by simpa using q.2
  exact⟨x,rfl,uD e,e⟩
theorem mG{X:Cx}{x:Str}{T:String}{pos:Pos}(hg:Gl X x)(hm:X.mg x=none)(hv:xT x=some (.type T))(hn:x≠"__name__":=by decide) (hd:(x == ("__debug__" : Str))=false:=by decide):PE X (.Name x pos) (tC (.ty T)):=auh (v:=.ty T) hg hm hv rfl hn hd
theorem gR{t u:TS}{D:Ends}{σ:St}{H:Hp}(J:St->Hp->Prop)(h1:∀k:St->Hp->Prop,(∀σ' H',J σ' H'->k σ' H')->t {D with nx:=k} σ H)(h2:∀σ' H',J σ' H'->u D σ' H'):CK t u D σ H:=h1 (u D) h2
theorem O4{xs:List Int}{i:Int}(h0:0<=i)(h1:i<(xs.length:Int)):∃p∈xs,j0 (xs.map V.int) i=some (.int p):=by
 have hj:i.toNat<xs.length:=by omega
 have e:((i.toNat:Nat):Int)=i:=C9 h0
 refine⟨xs[i.toNat],A5 hj,?_⟩
 have q1:(xs.map V.int)[i.toNat]?=some (.int xs[i.toNat]):=by rw[dG,bZ hj];rfl
 have q2:=iV q1
 rw[e]at q2
 exact q2
theorem Mu{X:Cx}{K:bG}{es:List aZ}{k:Nat}{t:xN}{n:Nat}{pos:Pos}(hK:X.K=K)(hc:X.calm=true)(h:rK X es t)
  (hn:(xP es X.env).length=n:=by rfl) (eY:(xP es X.env).findIdx? (·.1)=none:=by rfl):PG X (.Tuple es k pos) (agN K n t):=by
 subst hK
 exact yN hc h hn eY
theorem aja{X:Cx}{K:bG}(hK:X.K=K):fQ X (jK .In) (rIn K false):=by
 subst hK
 exact Mq
theorem Wv{X:Cx}{K:bG}(hK:X.K=K):Dd X (akn K):=by
 subst hK
 exact eZ
theorem ahr{X:Cx}{K:bG}(hK:X.K=K):Dd X (ako K):=by
 subst hK
 exact ou
theorem ad8{X:Cx}{K:bG}(hK:X.K=K):jq X (.type "list") (fun xs H Q=>∃p ys,xs=[.ref p]/\(dO K H p ys\/gc K H p ys)/\∀l,H l=none->Q (.ref l) (upd H l (.lst ys))):=by
 subst hK
 exact o7
theorem ak.tup{K:bG}{H H':Hp}{a:aa}{xs:List V}(e:ak H H')(h:gc K H a xs):gc K H' a xs:=by
 rcases h with(h | ⟨o,h⟩) | h
 ·exact .inl (.inl (e _ _ h))
 ·exact .inl (.inr ⟨o,e _ _ h⟩)
 ·exact .inr h
theorem ak.upd{H H':Hp}{a:aa}{o:HO}(e:ak H H')(h:H a=none):ak H (L2.upd H' a o):=fun b u q=>by
 rw[aA (bf q h)]
 exact e b u q
end L2
namespace Tl
open L2
noncomputable def kvs(l:List (Int×Int)):List (Key×V):=l.map fun p=>(cN p.1,V.int p.2)
noncomputable def get(l:List (Int×Int))(n:Int):Option Int:=(l.find? fun p=>decide (p.1=n)).map (·.2)
noncomputable def put(l:List (Int×Int))(n v:Int):List (Int×Int):=
 if(l.any fun p=>decide (p.1=n))=true then l.map (fun p=>if p.1=n then(p.1,v)else p)else l++[(n,v)]
noncomputable def step(l:List (Int×Int))(n:Int):List (Int×Int):=put l n ((get l n).getD 0+1)
noncomputable def bh(ns:List Int):List (Int×Int):=ns.foldl step []
theorem agh(a b:Int):decide ((cN a:Key)=cN b)=decide (a=b):=by
 by_cases h:a=b
 ·rw[h];simp
 ·rw[decide_eq_false h,decide_eq_false (fun q=>h (Ow q))]
theorem oN(l:List (Int×Int))(n:Int):gj (kvs l) (cN n:Key)=(get l n).map V.int:=by
 unfold gj kvs get
 induction l with
 |nil=>rfl
 |cons p r ih=>
  rw[dM,rG,rG]
  show ace _ (match decide ((cN p.1:Key)=cN n)with | true=>_ | false=>_)=_
  rw[agh]
  by_cases h:p.1=n
  ·rw[decide_eq_true h];rfl
  ·rw[decide_eq_false h];exact ih
theorem Ct(l:List (Int×Int))(n v:Int):mH (kvs l) (cN n:Key) (V.int v)=kvs (put l n v):=by
 have ha:((kvs l).any fun kv=>decide (kv.1=(cN n:Key)))=l.any fun p=>decide (p.1=n):=by
  unfold kvs
  rw[abH]
  congr 1
  funext p
  exact agh p.1 n
 unfold mH put
 rw[ha]
 split
 ·unfold kvs
  rw[lE,lE]
  refine xD fun p _=>?_
  show(if(cN p.1:Key)=cN n then((cN p.1:Key),V.int v) else(cN p.1,V.int p.2))=((cN (if p.1=n then(p.1,v)else p).1:Key),V.int (if p.1=n then(p.1,v)else p).2)
  by_cases h:p.1=n
  ·rw[if_pos h,if_pos (by rw[h])]
  ·rw[if_neg h,if_neg (fun q=>h (Ow q))]
 ·unfold kvs
  rw[fD]
  rfl
theorem UX(l:List (Int×Int))(n v m:Int):get (put l n v) m=if m=n then some v else get l m:=by
 have h:=ay3 (kvs l) (cN n:Key) (cN m) (V.int v)
 rw[Ct,oN,oN]at h
 by_cases e:m=n
 ·rw[if_pos e]
  rw[if_pos (by rw[e])]at h
  cases q:get (put l n v) m with
  |none=>rw[q]at h;cases h
  |some x=>rw[q]at h;injection h with h;injection h with h;rw[h]
 ·rw[if_neg e]
  rw[if_neg (fun q=>e (Ow q))]at h
  cases q:get (put l n v) m with
  |none=>
   rw[q]at h
   cases q2:get l m with
   |none=>rfl
   |some y=>rw[q2]at h;cases h
  |some x=>
   rw[q]at h
   cases q2:get l m with
   |none=>rw[q2]at h;cases h
   |some y=>rw[q2]at h;injection h with h;injection h with h;rw[h]
theorem agR{l:List (Int×Int)}{n:Int}:(l.any fun p=>decide (p.1=n))=(get l n).isSome:=by
 unfold get
 induction l with
 |nil=>rfl
 |cons p r ih=>
  rw[A0,rG]
  by_cases h:p.1=n
  ·rw[decide_eq_true h];rfl
  ·rw[decide_eq_false h];exact ih
theorem akj{l:List (Int×Int)}{n v:Int}:(put l n v).map (·.1)=if(get l n).isSome=true then l.map (·.1)else l.map (·.1)++[n]:=by
 unfold put
 rw[agR]
 split
 ·rw[lE]
  refine xD fun p _=>?_
  show(if p.1=n then(p.1,v)else p).1=p.1
  split<;>rfl
 ·rw[fD];rfl
theorem L4{l:List (Int×Int)}{n:Int}:n∈l.map (·.1)↔(get l n).isSome=true:=by
 rw[<- agR,A1,oO]
 constructor
 ·rintro⟨p,hp,e⟩;exact⟨p,hp,decide_eq_true e⟩
 ·rintro⟨p,hp,e⟩;exact⟨p,hp,of_decide_eq_true e⟩
structure Ok(pre:List Int)(l:List (Int×Int)):Prop where
 nd:(l.map (·.1)).Nodup
 val:∀n,get l n=if n∈pre then some (pre.count n:Int)else none
theorem Ok.step{pre:List Int}{l:List (Int×Int)}(h:Ok pre l)(n:Int):Ok (pre++[n]) (step l n):=by
 have hv:=h.val n
 refine⟨?_,fun m=>?_⟩
 ·unfold Tl.step
  rw[akj]
  split
  ·exact h.nd
  ·rename_i hs
   exact Zo h.nd fun m=>hs (L4.mp m)
 ·unfold Tl.step
  rw[UX]
  by_cases e:m=n
  ·subst e
   rw[if_pos rfl,if_pos (by simp),zj,hv]
   by_cases hm:m∈pre
   ·rw[if_pos hm]
    simp
   ·rw[if_neg hm,pW hm]
    simp
  ·rw[if_neg e,h.val m,zj]
   have e1:List.count m [n]=0:=pW (by simp[e])
   rw[e1]
   by_cases hm:m∈pre
   ·rw[if_pos hm,if_pos (by simp[hm])];simp
   ·rw[if_neg hm,if_neg (by simp[hm,e])]
theorem ai3:∀(ns pre:List Int) (l:List (Int×Int)),Ok pre l->Ok (pre++ns) (ns.foldl step l)
 | [],pre,l,h=>by simpa using h
 |n::ns,pre,l,h=>by
  have:=ai3 ns (pre++[n]) (step l n) (h.step n)
  simpa using this
theorem ok(ns:List Int):Ok ns (bh ns):=by
 have:=ai3 ns [] [] ⟨Dm,fun n=>by simp[get]⟩
 simpa[bh]using this
theorem alc(ns:List Int)(n:Int):bh (ns++[n])=step (bh ns) n:=by
 unfold bh
 rw[List.foldl_append]
 rfl
theorem nD(ns:List Int):(bh ns).length<=ns.length:=by
 have key:∀(ns:List Int) (l:List (Int×Int)),(ns.foldl step l).length<=l.length+ns.length:=by
  intro ns
  induction ns with
  |nil=>intro l;simp
  |cons n ns ih=>
   intro l
   have h1:(step l n).length<=l.length+1:=by
    unfold step put
    split
    ·rw[aC];omega
    ·rw[bW];simp
   have:=ih (step l n)
   show(ns.foldl step (step l n)).length<=l.length+(ns.length+1)
   omega
 have:=key ns []
 simpa[bh]using this
theorem get_mem{l:List (Int×Int)}(nd:(l.map (·.1)).Nodup){p:Int×Int}(hp:p∈l):get l p.1=some p.2:=by
 induction l with
 |nil=>cases hp
 |cons q r ih=>
  unfold get
  rw[rG]
  have nd':(q.1::r.map (·.1)).Nodup:=nd
  obtain⟨n1,n2⟩:=nO.mp nd'
  rcases dY.mp hp with e | hp
  ·subst e
   rw[decide_eq_true rfl]
   rfl
  ·have gM:¬q.1=p.1:=fun e=>n1 (by rw[e];exact oO.mpr ⟨p,hp,rfl⟩)
   rw[decide_eq_false gM]
   exact ih n2 hp
theorem vj{ns:List Int}{p:Int×Int}(hp:p∈bh ns):p.1∈ns/\p.2=(ns.count p.1:Int):=by
 have h:=get_mem (ok ns).nd hp
 rw[(ok ns).val]at h
 by_cases hm:p.1∈ns
 ·rw[if_pos hm]at h
  exact⟨hm,(cY h).symm⟩
 ·rw[if_neg hm]at h;cases h
theorem gZ{ns:List Int}{n:Int}:n∈(bh ns).map (·.1)↔n∈ns:=by
 rw[L4,(ok ns).val]
 by_cases h:n∈ns<;>simp[h]
end Tl
set_option maxHeartbeats 400000
namespace Tl
noncomputable def xZ(ps qs:List (Int×Int)):Bool:=ps.length == qs.length&&ps.all fun p=>get qs p.1 == some p.2
theorem HA{α:Type}[DecidableEq α]:∀ {l m:List α},l.Nodup->m.Nodup->(∀x∈l,x∈m)->l.length<=m.length
 | [],m,_,_,_=>fz _
 |x::l,m,h1,h2,h=>by
  obtain⟨n1,n2⟩:=nO.mp h1
  have hx:=h x lR
  have:=HA (l:=l) (m:=m.erase x) n2 (h2.erase x) fun y hy=>(List.Nodup.mem_erase_iff h2).mpr ⟨fun e=>n1 (e▸hy),h y (iS _ hy)⟩
  rw[List.length_erase_of_mem hx]at this
  have:0<m.length:=abP hx
  simp only[gF]
  omega
theorem sub_eq{α:Type}[DecidableEq α]{l m:List α}(h1:l.Nodup)(h2:m.Nodup)(h:∀x∈l,x∈m)(hl:m.length<=l.length):∀x∈m,x∈l:=by
 intro x hx
 by_cases hxl:x∈l
 ·exact hxl
 ·exfalso
  have:=HA (l:=x::l) (m:=m) (nO.mpr ⟨hxl,h1⟩) h2 (by
   intro y hy
   rcases dY.mp hy with e | e
   ·rw[e];exact hx
   ·exact h y e)
  simp only[gF]at this
  omega
theorem anP(ns ms:List Int):xZ (bh ns) (bh ms)=decide (ns.Perm ms):=by
 by_cases hp:ns.Perm ms
 ·rw[decide_eq_true hp]
  unfold xZ
  have hk:((bh ns).map (·.1)).length=((bh ms).map (·.1)).length:=by
   apply Nat.le_antisymm
   ·exact HA (ok ns).nd (ok ms).nd fun x hx=>gZ.mpr (hp.mem_iff.mp (gZ.mp hx))
   ·exact HA (ok ms).nd (ok ns).nd fun x hx=>gZ.mpr (hp.mem_iff.mpr (gZ.mp hx))
  rw[aC,aC]at hk
  rw[nI]
  refine⟨by simpa using hk,kD.mpr fun p iL=>?_⟩
  obtain⟨a,b⟩:=vj iL
  rw[(ok ms).val,if_pos (hp.mem_iff.mp a),b,hp.count_eq]
  simp
 ·rw[decide_eq_false hp]
  cases hb:xZ (bh ns) (bh ms) with
  |false=>rfl
  |true=>
   exfalso
   unfold xZ at hb
   rw[nI]at hb
   obtain⟨h1,h2⟩:=hb
   have hl:(bh ns).length=(bh ms).length:=by simpa using h1
   have cR:∀n∈ns,n∈ms/\ns.count n=ms.count n:=fun n hn=>by
    obtain⟨p,iL,e⟩:=oO.mp (gZ.mpr hn)
    have q:=kD.mp h2 p iL
    obtain⟨a,b⟩:=vj iL
    rw[(ok ms).val,e]at q
    by_cases hm:n∈ms
    ·rw[if_pos hm,b,e]at q
     refine⟨hm,?_⟩
     have:(ms.count n:Int)=(ns.count n:Int):=by simpa using q
     omega
    ·rw[if_neg hm]at q
     simp at q
   apply hp
   rw[abZ]
   intro n
   by_cases hn:n∈ns
   ·exact(cR n hn).2
   ·have hm:¬n∈ms:=fun hm=>by
     have:=sub_eq (ok ns).nd (ok ms).nd (fun x hx=>gZ.mpr (cR x (gZ.mp hx)).1) (by rw[aC,aC];omega) n (gZ.mpr hm)
     exact hn (gZ.mp this)
    rw[pW hn,pW hm]
open PyProof.Rows in
theorem aoe(ns:List Int):firstMet (fun i=>ns.getD i 0) ns.length=ns.foldl ku []:=by
 unfold firstMet
 congr 1
 apply Iw
 intro i
 simp only[dG,List.getElem?_range']
 by_cases h:i<ns.length
 ·simp[h]
 ·simp[h]
open PyProof.Rows in
noncomputable def dist(ns:List Int):Nat:=(ns.foldl ku []).length
open PyProof.Rows in
theorem Jh:∀(ns σ:List Int),σ.Nodup->(ns.foldl ku σ).Nodup/\(∀x,x∈ns.foldl ku σ↔x∈σ\/x∈ns)/\(ns.foldl ku σ).length<=σ.length+ns.length/\
  ((ns.foldl ku σ).length=σ.length+ns.length↔ns.Nodup/\∀x∈ns,¬x∈σ)
 | [],σ,h=>⟨h,fun x=>by simp,br _,by simp⟩
 |n::ns,σ,h=>by
  have agW:(σ.any fun x=>x == n)=true↔n∈σ:=by
   rw[A1]
   constructor
   ·rintro⟨x,hx,e⟩;rw[<- (by simpa using e:x=n)];exact hx
   ·intro hx;exact⟨n,hx,by simp⟩
  show(ns.foldl ku (ku σ n)).Nodup/\(∀x,x∈ns.foldl ku (ku σ n)↔_)/\(ns.foldl ku (ku σ n)).length<=_/\((ns.foldl ku (ku σ n)).length=_↔_)
  by_cases hm:n∈σ
  ·have e:ku σ n=σ:=by unfold ku;rw[if_pos (agW.mpr hm)]
   rw[e]
   obtain⟨a,b,c,d⟩:=Jh ns σ h
   refine⟨a,fun x=>?_,by simp only[gF];omega,?_⟩
   ·rw[b,dY]
    constructor
    ·rintro(q | q)
     ·exact .inl q
     ·exact .inr (.inr q)
    ·rintro(q | q | q)
     ·exact .inl q
     ·rw[q];exact .inl hm
     ·exact .inr q
   ·constructor
    ·intro q;simp only[gF]at q;omega
    ·rintro⟨_,q⟩;exact absurd hm (q n lR)
  ·have e:ku σ n=σ++[n]:=by unfold ku;rw[if_neg (fun q=>hm (agW.mp q))]
   rw[e]
   have hn:(σ++[n]).Nodup:=by
    rw[ID]
    exact⟨h,by simp,fun x hx y hy=>by rw[gb.mp hy];exact fun q=>hm (q▸hx)⟩
   obtain⟨a,b,c,d⟩:=Jh ns (σ++[n]) hn
   have el:(σ++[n]).length=σ.length+1:=by simp
   rw[el]at c d
   refine⟨a,fun x=>?_,by simp only[gF];omega,?_⟩
   ·rw[b,lQ,gb,dY]
    constructor
    ·rintro((q | q) | q)
     ·exact .inl q
     ·exact .inr (.inl q)
     ·exact .inr (.inr q)
    ·rintro(q | q | q)
     ·exact .inl (.inl q)
     ·exact .inl (.inr q)
     ·exact .inr q
   ·have e3:σ.length+(n::ns).length=σ.length+1+ns.length:=by simp only[gF];omega
    rw[e3,d,nO]
    constructor
    ·rintro⟨q1,q2⟩
     refine⟨⟨fun q=>q2 n q (by simp),q1⟩,fun x hx=>?_⟩
     rcases dY.mp hx with z | z
     ·rw[z];exact hm
     ·intro q;exact q2 x z (by simp[q])
    ·rintro⟨⟨q1,q2⟩,q3⟩
     refine⟨q2,fun x hx q=>?_⟩
     rcases lQ.mp q with z | z
     ·exact q3 x (iS _ hx) z
     ·rw[gb.mp z]at hx;exact q1 hx
theorem Ji(ns:List Int):dist ns=ns.length↔ns.Nodup:=by
 have:=(Jh ns [] Dm).2.2.2
 simpa[dist]using this
theorem anR(ns:List Int):dist ns=1↔ns≠[]/\∀x∈ns,∀y∈ns,x=y:=by
 obtain⟨a,b,_,_⟩:=Jh ns [] Dm
 unfold dist
 generalize ns.foldl PyProof.Rows.step_dedup []=σ at a b
 have b':∀x,x∈σ↔x∈ns:=fun x=>by simpa using b x
 constructor
 ·intro h
  obtain⟨x,rfl⟩:=List.length_eq_one_iff.mp h
  refine⟨fun e=>by rw[e]at b';simpa using(b' x).mp (by simp),fun y hy z hz=>?_⟩
  rw[gb.mp ((b' y).mpr hy),gb.mp ((b' z).mpr hz)]
 ·rintro⟨h1,h2⟩
  cases ns with
  |nil=>exact absurd rfl h1
  |cons n ns=>
   have hn:n∈σ:=(b' n).mpr lR
   apply Nat.le_antisymm
   ·have:=HA a (m:=[n]) (by simp) fun x hx=>by rw[gb];exact h2 x ((b' x).mp hx) n lR
    simpa using this
   ·exact abP hn
noncomputable def most(ns:List Int):Int:=((bh ns).map (·.2)).foldl max 0
theorem foldl_max:∀(l:List Int) (a:Int),a<=l.foldl max a/\(∀x∈l,x<=l.foldl max a)/\(l.foldl max a=a\/l.foldl max a∈l)
 | [],a=>⟨mR _,(fun _ h=>nomatch h),.inl rfl⟩
 |y::l,a=>by
  obtain⟨h1,h2,h3⟩:=foldl_max l (max a y)
  show a<=l.foldl max (max a y)/\(∀x∈y::l,x<=l.foldl max (max a y))/\(l.foldl max (max a y)=a\/l.foldl max (max a y)∈y::l)
  refine⟨by omega,fun x hx=>?_,?_⟩
  ·rcases dY.mp hx with e | e
   ·rw[e];omega
   ·exact h2 x e
  ·rcases h3 with e | e
   ·rcases Int.le_total a y with z | z
    ·right;rw[e,Int.max_eq_right z];exact lR
    ·left;rw[e,Int.max_eq_left z]
   ·right;exact iS _ e
theorem anC{ns:List Int}{k:Int}(hk:k∈ns):(ns.count k:Int)∈(bh ns).map (·.2):=by
 obtain⟨p,hp,e⟩:=oO.mp (gZ.mpr hk)
 refine oO.mpr ⟨p,hp,?_⟩
 rw[(vj hp).2,<- e]
theorem aqP{ns:List Int}{c:Int}(h:c∈(bh ns).map (·.2)):∃k∈ns,(ns.count k:Int)=c:=by
 obtain⟨p,hp,e⟩:=oO.mp h
 obtain⟨m1,m2⟩:=vj hp
 exact⟨p.1,m1,by rw[<- m2,e]⟩
theorem L7(ns:List Int):0<=most ns:=(foldl_max _ _).1
theorem aiN{ns:List Int}{k:Int}(hk:k∈ns):(ns.count k:Int)<=most ns:=(foldl_max _ _).2.1 _ (anC hk)
theorem L6{ns:List Int}(k:Int):(ns.count k:Int)<=most ns:=by
 by_cases hk:k∈ns
 ·exact aiN hk
 ·rw[pW hk];exact L7 ns
theorem Al{ns:List Int}(h:ns≠[]):∃k∈ns,(ns.count k:Int)=most ns:=by
 rcases(foldl_max ((bh ns).map (·.2)) 0).2.2 with e | e
 ·exfalso
  cases ns with
  |nil=>exact h rfl
  |cons n ns=>
   have h1:=aiN (ns:=n::ns) (k:=n) lR
   have h2:0<(n::ns).count n:=A3.mpr lR
   have e':most (n::ns)=0:=e
   omega
 ·exact aqP e
theorem Zd:most []=0:=rfl
theorem aqS{ns:List Int}{M:Int}(h0:0<=M)(hu:∀c∈(bh ns).map (·.2),c<=M)(hi:M=0\/M∈(bh ns).map (·.2)):M=most ns:=by
 have h1:most ns<=M:=by
  rcases(foldl_max ((bh ns).map (·.2)) 0).2.2 with e | e
  ·have e':most ns=0:=e
   omega
  ·exact hu _ e
 have h2:M<=most ns:=by
  rcases hi with e | e
  ·rw[e];exact L7 ns
  ·exact(foldl_max _ _).2.1 _ e
 omega
noncomputable def tW(ns:List Int):Nat:=((bh ns).filter fun p=>decide (p.2=most ns)).length
theorem aaJ{ns ks:List Int}(h:ks.Perm ((bh ns).map (·.1))):(ks.filter fun k=>decide ((ns.count k:Int)=most ns)).length=tW ns:=by
 have e1:=(h.filter fun k=>decide ((ns.count k:Int)=most ns)).length_eq
 rw[e1,List.filter_map,aC]
 unfold tW
 congr 1
 refine List.filter_congr fun p hp=>?_
 show decide ((ns.count p.1:Int)=most ns)=_
 rw[(vj hp).2]
theorem akZ(x:Int):∀(ks:List Int),ks.Nodup->(ks.map fun k=>if k=x then 1 else 0).sum=if x∈ks then 1 else 0
 | [],_=>rfl
 |k::ks,h=>by
  obtain⟨h1,h2⟩:=nO.mp h
  rw[dM,zo,akZ x ks h2]
  by_cases e:k=x
  ·subst e
   simp[h1]
  ·have:(x∈k::ks)↔x∈ks:=by simp[dB e]
   simp[e,this]
theorem akY(f g:Int->Nat):∀ks:List Int,(ks.map fun k=>f k+g k).sum=(ks.map f).sum+(ks.map g).sum
 | []=>rfl
 |k::ks=>by simp only[dM,zo,akY f g ks];omega
theorem aaE(ks:List Int)(hk:ks.Nodup):∀xs:List Int,(∀x∈xs,x∈ks)->(ks.map fun k=>xs.count k).sum=xs.length
 | [],_=>by
  have:∀l:List Int,(l.map fun k=>([]:List Int).count k).sum=0:=fun l=>by induction l with
   |nil=>rfl
   |cons a l ih=>rw[dM,zo,ih];rfl
  exact this ks
 |x::xs,h=>by
  have e:(ks.map fun k=>(x::xs).count k)=ks.map fun k=>xs.count k+(if k=x then 1 else 0):=by
   refine xD fun k _=>?_
   rw[NW]
   by_cases z:x=k
   ·simp[z]
   ·simp[z,dB z]
  rw[e,akY,aaE ks hk xs (fun y hy=>h y (iS _ hy)),akZ x ks hk,if_pos (h x lR),gF]
theorem M4(f:Int->Nat):∀ks:List Int,((ks.map f).sum:Int)=(ks.map fun k=>(f k:Int)).sum
 | []=>rfl
 |k::ks=>by simp only[dM,zo,<- M4 f ks];omega
theorem Nb(ns:List Int):(bh ns).map (·.2)=((bh ns).map (·.1)).map fun k=>(ns.count k:Int):=by
 rw[lE]
 exact xD fun p hp=>(vj hp).2
theorem ald(ns:List Int):((bh ns).map (·.2)).sum=(ns.length:Int):=by
 rw[Nb,<- M4 (fun k=>ns.count k),aaE _ (ok ns).nd ns fun x hx=>gZ.mpr hx]
noncomputable def mn(m v:Int):Int:=if m<v then m else v
noncomputable def jA(ns:List Int)(m:Int):Int:=(((bh ns).map (·.2)).map (mn m)).sum
theorem aaF{α:Type}(f g:α->Int):∀l:List α,(∀x∈l,f x<=g x)->(l.map f).sum<=(l.map g).sum
 | [],_=>mR _
 |x::l,h=>by
  simp only[dM,zo]
  have h1:=h x lR
  have h2:=aaF f g l fun y hy=>h y (iS _ hy)
  omega
theorem MF(ns:List Int)(m:Int):jA ns m<=ns.length:=by
 rw[<- ald]
 unfold jA
 have:=aaF (mn m) id ((bh ns).map (·.2)) (fun x _=>by unfold mn;show _<=x;split<;>omega)
 simpa using this
theorem akx{ns xs:List Int}{m:Int}(h:∀k,xs.count k<=ns.count k)(hm:∀k,(xs.count k:Int)<=m):(xs.length:Int)<=jA ns m:=by
 have hx:∀x∈xs,x∈(bh ns).map (·.1):=fun x hx=>by
  refine gZ.mpr (A3.mp ?_)
  have:=A3.mpr hx
  have:=h x
  omega
 rw[<- aaE _ (ok ns).nd xs hx,M4]
 unfold jA
 rw[Nb]
 have e:(((bh ns).map (·.1)).map fun k=>(ns.count k:Int)).map (mn m)=((bh ns).map (·.1)).map fun k=>mn m (ns.count k:Int):=by rw[lE];rfl
 rw[e]
 refine aaF _ _ _ fun k _=>?_
 unfold mn
 have:=h k
 have:=hm k
 split<;>omega
end Tl
set_option maxHeartbeats 4000000
namespace L2
open PySem PySem.Spec PyProof.Rows
section
variable{X:Cx}{ah:List (aa×Obj)}{σ:St}{H:Hp}{s:aB}
theorem ad7:jq X (.builtin "isinstance") (fun xs H Q=>∃(x:V) (t:ao) (C:aa) (b:Bool),xs=[x,.ref C]/\kF X.K H x t/\bz X.K t (.ref C)=some b/\Q (.bl b) H):=by
 intro ah s σ H xs us Q I r h
 obtain⟨x,t,C,b,rfl,ty,e,q⟩:=h
 obtain⟨u,v,rfl,ru,rv⟩:=r.two
 obtain rfl:v=cI C:=rv
 exact aho I ru ty e fun tk=>⟨.bl b,H,I.tok tk,rfl,q⟩
theorem Zk:A6 X "list.count" (fun x vs H Q=>∃(a:aa) (ns:List Int) (k:Int),x=.ref a/\vs=[.int k]/\dO X.K H a (ns.map V.int)/\Q (.int (ns.count k:Int)) H):=by
 intro ah s σ H x vs v us Q I rx rv h
 obtain⟨a,ns,k,rfl,rfl,hl,q⟩:=h
 cases rx
 obtain⟨u,rfl,t,rfl⟩:=rv.one
 obtain⟨its,r,p,hz⟩:=I.list hl
 exact count_list_ints p.isList (E8 r) ⟨.int _,H,I.tok _,⟨_,rfl⟩,q⟩
theorem QG(hc:X.calm=true):jq X (.type "set") (fun xs H Q=>∃(a:aa) (ns:List Int),xs=[.ref a]/\dO X.K H a (ns.map V.int)/\ns.length<=4000/\∀p S,H p=none->Q (.ref p) (upd H p (.set S (Tl.dist ns)))):=by
 intro ah s σ H xs us Q I r h
 obtain⟨a,ns,rfl,hl,hz,q⟩:=h
 obtain⟨u,rfl,ru⟩:=r.one
 cases ru
 obtain⟨its,rv,p,_⟩:=I.list hl
 have bC:its.length=ns.length:=by rw[<- rv.length,aC]
 have hsz:its.toArray.size=ns.length:=by rw[cV,bC]
 refine call_set_list (I.ok.hd hc) p.isList (E8 rv) (by rw[hsz];show ns.length+1<4096;omega) fun h' tk hS kp=>?_
 rw[hsz,Tl.aoe]at hS
 exact⟨.ref s.heap.objs.size,_,I.laid (o:=.set (fun k'=>(A4 ku [] ns).any fun x=>x == k') (Tl.dist ns)) (h':=h') (t':=tk) (fun b o e=>kp b o (bV e) e) (br _) hS,rfl,q _ _ I.fresh⟩
theorem QF:jq X (.builtin "len") (fun xs H Q=>∃(p:aa) (S:Int->Bool) (n:Nat),xs=[.ref p]/\H p=some (.set S n)/\Q (.int n) H):=by
 intro ah s σ H xs us Q I r h
 obtain⟨p,S,n,rfl,hp,q⟩:=h
 obtain⟨u,rfl,ru⟩:=r.one
 cases ru
 obtain⟨o,es,ep,t,ho,hex,hd,_,_,hb,hf,hn⟩:=(show cD X.prog X.w H s.heap p (.set S n)from I.hok p _ hp)
 have hb':es.size<4096:=hb
 subst hn
 exact PySem.call_len_set ho hex hd hf (by omega) ⟨.int _,H,I.tok _,⟨_,rfl⟩,q⟩
theorem ais{A:cS}{s:aB}{qs:List (Int×Int)}{vb:List (Key×ao)}(rb:KV (Tl.kvs qs) vb):∀(ps:List (Int×Int)) (va:List (Key×ao)),KV (Tl.kvs ps) va->
  PySem.W.KeqHits A s vb va (ps.all fun p=>Tl.get qs p.1 == some p.2)
 | [],va,r=>by
  cases r
  exact .nil
 |p::ps,va,r=>by
  cases r with
  | @cons _ q _ vt r1 rt=>
   obtain⟨k,v⟩:=q
   obtain⟨e1,t,e2⟩:=r1
   have o8:(cN p.1:Key)=k:=e1
   have kJ:v=uG p.2 t:=e2
   subst o8 kJ
   have hv:=rb.val (cN p.1:Key)
   rw[Tl.oN]at hv
   have ih:=ais (A:=A) (s:=s) rb ps vt rt
   rw[Ir]
   cases hg:Tl.get qs p.1 with
   |none=>
    rw[hg]at hv
    have:((none:Option Int) == some p.2)=false:=rfl
    rw[this,iQ]
    exact .miss hv.none_of
   |some y=>
    rw[hg]at hv
    obtain⟨u,hu,tu,eu⟩:=hv.some_of
    subst eu
    obtain⟨e,he,ag4⟩:=HT.aoa A s p.2 t y tu
    have ee:(some y == some p.2)=e:=by
     cases e with
     |true=>rw[ag4.mp rfl];simp
     |false=>
      have:¬p.2=y:=fun z=>by have:=ag4.mpr z;cases this
      simp;exact fun z=>this z.symm
    rw[ee]
    exact .hit hu he ih
noncomputable def auN(neg:Bool):R2:=fun x y H Q=>∃(a b:aa) (ps qs:List (Int×Int)),x=.ref a/\y=.ref b/\H a=some (.dK (Tl.kvs ps))/\H b=some (.dK (Tl.kvs qs))/\Q (.bl (if neg then !Tl.xZ ps qs else Tl.xZ ps qs)) H
theorem aua(hu:X.A.units+64<nU):fQ X (jK .Eq) (auN false):=by
 intro ah s σ H x y v u Q I rx ry h
 obtain⟨a,b,ps,qs,rfl,rfl,ha,hb,q⟩:=h
 cases rx
 cases ry
 obtain⟨_,la,va,ra,da⟩:=(show cD X.prog X.w H s.heap a (.dK (Tl.kvs ps))from I.hok a _ ha)
 obtain⟨_,lb,vb,rb,db⟩:=(show cD X.prog X.w H s.heap b (.dK (Tl.kvs qs))from I.hok b _ hb)
 refine PySem.W.keq_eq la lb da db (by omega) (fun _=>ais rb ps va ra) ⟨.bl _,H,I,?_,q⟩
 show uF _=uF _
 rw[<- ra.length,<- rb.length]
 unfold Tl.xZ Tl.kvs
 rw[aC,aC]
 rfl
noncomputable def NS(d:aa)(o:Obj)(kvs:List (Key×V)):It:=
 ⟨fun i H=>i<kvs.length/\H d=some (.cC o (.dK kvs)),fun i H x H'=>∃p,kvs[i]?=some p/\x=p.2/\H'=H,fun i H=>kvs.length<=i/\H d=some (.cC o (.dK kvs))⟩
theorem ayK{P:cH}{w:cj}{K:bG}{tg:aZ}(d it:aa)(o:Obj)(kvs:List (Key×V)) :
  uE P w K tg (NS d o kvs) [it] it (fun i h=>h.IsValIter it d i kvs.length (D3 o)) where
 mem:=by simp
 obj:=fun i h st b hb=>by
  have e:b=it:=by simpa using hb
  subst e
  obtain⟨o,e,c,d⟩:=st
  exact⟨o,e,fun v z=>by rw[d]at z;cases z⟩
 keep:=fun i h h' ⟨o,e,r⟩ k=>⟨o,k it (by simp) o e,r⟩
 item:=by
  intro X hP hw hK hc i ah s σ H E I hf st hg
  subst hP hw hK
  obtain⟨bQ,hd⟩:=hg
  obtain⟨lo,vs,cQ,dat⟩:=I.CJ hd
  obtain⟨f0,f1,f2,f3,f4,f5⟩:=hf it (by simp)
  obtain⟨q,hq,e1,r2⟩:=XJ cQ (bZ bQ)
  have kN:kvs.length=vs.length:=cQ.length
  rw[kN]at st
  refine wpAny_pyNext_values_item st dat (k:=q.1) (v:=q.2) hq fun h' aU sb=>?_
  have I1:Inv X ah σ H {s with heap:=h'}:=I.turned (t':=s.toks) (fun b o hb e=>(sb.2 b hb).trans e) f0 f1 f3 f4 f5
  obtain⟨o',e,c,dd⟩:=id aU
  exact⟨q.2,rfl,KC (s:={s with heap:=h'}) e c dd (by decide) ⟨kvs[i].2,H,I1,r2,⟨kvs[i],bZ bQ,rfl,rfl⟩,by rw[kN];exact aU,fun b hb=>(hf b hb).1⟩⟩
 done:=by
  intro X hP hw hK hc i ah s σ H E I hf st hg
  subst hP hw hK
  obtain⟨fK,hd⟩:=hg
  obtain⟨lo,vs,cQ,dat⟩:=I.CJ hd
  obtain⟨f0,f1,f2,f3,f4,f5⟩:=hf it (by simp)
  have kN:kvs.length=vs.length:=cQ.length
  rw[kN]at st
  exact wpAny_pyNext_values_end (I.ok.hd hc) st dat (xC (by omega)) fun h' eb=>⟨rfl,I.turned (t':=s.toks) (fun b o hb e=>eb b o hb e) f0 f1 f3 f4 f5⟩
 self:=fun _ _ _ _ _ st h=>wpAny_pyIter_valiter st h
noncomputable def ap3(te:TE):TI:=fun σ H R=>te σ H fun x H1=>∃(v d:aa) (kvs:List (Key×V)),x=.ref v/\H1 v=some (jY "dict_values" v d)/\H1 d=some (.dK kvs)/\∀o,R (NS d o kvs) (upd H1 d (.cC o (.dK kvs)))
theorem auw{tg l:aZ}{te:TE}(hl:PE X l te):PI X tg l (ap3 te):=by
 intro ah s σ H R I h
 refine aV (hl ah s σ H _ I h) fun u s1 ⟨x,H1,I1,r1,q1⟩=>?_
 obtain⟨v,d,kvs,e,hv,hd,q⟩:=q1
 subst e
 cases r1
 obtain⟨o,ho,I2⟩:=I1.akV hd
 obtain⟨lo,vs,cQ,dat⟩:=I2.CJ au
 have E4:s1.heap.IsValuesView v d:=⟨_,(I1.hok v _ hv).1,rfl,rfl⟩
 refine wpAny_pyIter_values E4 dat ?_
 refine⟨s1.heap.objs.size,[s1.heap.objs.size],_,_,_,rfl,I2.kept (t':=s1.toks) fun b o e=>cM _ e,ayK d _ o kvs,⟨_,gn _ rfl,rfl,by
  have kN:kvs.length=vs.length:=cQ.length
  rw[kN]
  rfl⟩,fun b hb=>?_,q o⟩
 have e:b=s1.heap.objs.size:=by simpa using hb
 subst e
 exact I2.p9 (br _) (I2.hok.fresh (br _))
theorem agy{J:It}{n:Nat}{g:TG}{tb:TS}{D:Ends}{σ:St}{H:Hp}(Pv:Nat->St->Hp->Prop)(h0:Pv 0 σ H)
  (z3:∀i σ H,i<n->Pv i σ H->J.go i H) (V3:∀σ H,Pv n σ H->J.stop n H)
  (hs:∀i σ H x H',i<n->Pv i σ H->J.nG i H x H'->g x σ H' fun σ2 H2=>tb {D with nx:=Pv (i+1),ct:=Pv (i+1),bk:=D.nx} σ2 H2) (hd:∀σ H,Pv n σ H->D.nx σ H) :
  ∃W:Nat->Nat->St->Hp->Prop,(∃m,W 0 m σ H)/\∀i m σ H,W i m σ H->
   (J.stop i H/\D.nx σ H)\/(J.go i H/\∃N:St->Hp->Prop,(∀σ' H',N σ' H'->∃m',m'<m/\W (i+1) m' σ' H')/\∀x H',J.nG i H x H'->g x σ H' fun σ2 H2=>tb {D with nx:=N,ct:=N,bk:=D.nx} σ2 H2):=by
 refine⟨fun i m σ H=>m=n-i/\i<=n/\Pv i σ H,⟨n,by simp,fz _,h0⟩,?_⟩
 rintro i m σ H ⟨rfl,hi,p⟩
 by_cases bQ:i<n
 ·exact .inr ⟨z3 i σ H bQ p,Pv (i+1),fun σ' H' p'=>⟨n-(i+1),by omega,rfl,bQ,p'⟩,fun x H' y=>hs i σ H x H' bQ p y⟩
 ·have e:i=n:=by omega
  subst e
  exact .inl ⟨V3 σ H p,hd σ H p⟩
theorem aqv{J:It}{n:Nat}{cap:List (Option Nat)}{g:TG}{tt:TT}{te:TE}{σ:St}{H1:Hp}{Q:VK}(Pv:Nat->List V->aa->St->Hp->Prop)
  (h0:∀D,H1 D=none->Pv 0 [] D (fR cap σ) (upd H1 D (.lst [])))
  (z3:∀i aE D σ H,i<n->Pv i aE D σ H->J.go i H) (V3:∀aE D σ H,Pv n aE D σ H->J.stop n H)
  (hs:∀i aE D σ H x H' (R:St->Hp->Prop),i<n->(∀DN σ' H',Pv (i+1) DN D σ' H'->R σ' H')->Pv i aE D σ H->J.nG i H x H'->g x σ H' fun σ3 H3=>tt σ3 H3 fun b H4=>
   if b=true then te σ3 H4 fun v H5=>∃aE,H5 D=some (.lst aE)/\aE.length<aX/\R σ3 (upd H5 D (.lst (aE++[v])))else R σ3 H4)
  (hd:∀aE D σ H,Pv n aE D σ H->Q (.ref D) H):lP cap g tt te σ Q J H1:=by
 intro D hD
 refine⟨fun i m σ' H'=>m=n-i/\i<=n/\∃aE,Pv i aE D σ' H',⟨n,by simp,fz _,[],h0 D hD⟩,?_⟩
 rintro i m σ' H' ⟨rfl,hi,aE,p⟩
 by_cases bQ:i<n
 ·refine .inr ⟨z3 i aE D σ' H' bQ p,fun x H2 y=>?_⟩
  have key:=hs i aE D σ' H' x H2 (fun σ' H'=>∃m',m'<n-i/\m'=n-(i+1)/\i+1<=n/\∃aE,Pv (i+1) aE D σ' H') bQ (fun DN σ'' Ie p'=>⟨n-(i+1),by omega,rfl,bQ,DN,p'⟩) p y
  exact key
 ·have e:i=n:=by omega
  subst e
  exact .inl ⟨V3 aE D σ' H' p,hd aE D σ' H' p⟩
end
end L2
namespace L2
open PySem PySem.Spec PyProof.Rows
section
variable{K:bG}{cap:List (Option Nat)}{g:TG}{tt:TT}{te:TE}{σ:St}{H1:Hp}{Q:VK}
theorem pQ{n:Nat}(h:n<=1000000):n<sizeLine:=by rw[tK];omega
theorem leM{n:Nat}(h:n<=1000000):n<=sizeLine:=by rw[tK];omega
theorem YV{J:It}{n:Nat}(S:St->Prop)(P:Nat->List V->aa->Hp->Prop)
  (z3:∀i H',i<n->ak H1 H'->J.go i H') (eY:∀H',ak H1 H'->J.stop n H') (hn:n<=1000000) (h0:S (fR cap σ)) (p0:∀D,H1 D=none->P 0 [] D (upd H1 D (.lst [])))
  (Fx:∀i aE D H,P i aE D H->aE.length<=i)
  (Hx:∀i aE D H H',P i aE D H->(∀b o,b≠D->H b=some o->H' b=some o)->P i aE D H')
  (step:∀(i:Nat) (aE:List V) (D:aa) (σ':St) (H':Hp) (x:V) (H2:Hp) (k:V->St->Hp->Prop) (r:St->Hp->Prop),i<n->S σ'->ak H1 H'->H1 D=none->H' D=some (.lst aE)->P i aE D H'->J.nG i H' x H2->
   (∀v σ3 H5,S σ3->ak H' H5->P (i+1) (aE++[v]) D H5->k v σ3 H5)->(∀σ3 H4,S σ3->ak H' H4->P (i+1) aE D H4->r σ3 H4)->
   g x σ' H2 fun σ3 H3=>tt σ3 H3 fun b H4=>if b=true then te σ3 H4 (fun v H5=>k v σ3 H5)else r σ3 H4)
  (done:∀(aE:List V) (D:aa) (σ':St) (H':Hp),H1 D=none->ak H1 H'->H' D=some (.lst aE)->P n aE D H'->Q (.ref D) H'):lP cap g tt te σ Q J H1:=by
 refine aqv (n:=n) (fun i aE D σ' H'=>S σ'/\ak H1 H'/\H1 D=none/\H' D=some (.lst aE)/\P i aE D H') (fun D hD=>⟨h0,(ak.refl H1).upd hD,hD,au,p0 D hD⟩)
  (fun i aE D σ' H' hi p=>z3 i H' hi p.2.1) (fun aE D σ' H' p=>eY H' p.2.1) (fun i aE D σ' H' x H2 R hi hR p y=>?_) (fun aE D σ' H' p=>done aE D σ' H' p.2.2.1 p.2.1 p.2.2.2.1 p.2.2.2.2)
 obtain⟨q1,q2,q3,q4,q5⟩:=p
 refine step i aE D σ' H' x H2 (fun v σ3 H5=>∃aE,H5 D=some (.lst aE)/\aE.length<aX/\R σ3 (upd H5 D (.lst (aE++[v])))) R hi q1 q2 q3 q4 q5 y (fun v σ3 H5 s3 sm p5=>?_) (fun σ3 H4 s3 sm p4=>?_)
 ·have hl:=Fx i aE D H' q5
  refine⟨aE,sm D _ q4,pQ (by omega),hR (aE++[v]) σ3 _ ⟨s3,(q2.trans sm).upd q3,q3,au,Hx _ _ _ _ _ p5 fun b o hb e=>by rw[aA hb];exact e⟩⟩
 ·exact hR aE σ3 H4 ⟨s3,q2.trans sm,q3,sm D _ q4,p4⟩
theorem Cc{J:It}{n:Nat}(S:St->Prop)(fs:Nat->Option V)
  (z3:∀i H',i<n->ak H1 H'->J.go i H') (eY:∀H',ak H1 H'->J.stop n H') (hn:n<=1000000) (h0:S (fR cap σ))
  (step:∀(i:Nat) (σ':St) (H':Hp) (x:V) (H2:Hp) (k:V->St->Hp->Prop) (r:St->Hp->Prop),i<n->S σ'->ak H1 H'->J.nG i H' x H2->
   (∀v σ3 H5,fs i=some v->S σ3->ak H' H5->k v σ3 H5)->(∀σ3 H4,fs i=none->S σ3->ak H' H4->r σ3 H4)->
   g x σ' H2 fun σ3 H3=>tt σ3 H3 fun b H4=>if b=true then te σ3 H4 (fun v H5=>k v σ3 H5)else r σ3 H4)
  (done:∀D H',H1 D=none->ak H1 H'->H' D=some (.lst ((bT n).filterMap fs))->Q (.ref D) H'):lP cap g tt te σ Q J H1:=by
 refine YV (n:=n) S (fun i aE _ _=>aE=(bT i).filterMap fs) z3 eY hn h0 (fun _ _=>rfl) (fun i aE D H e=>?_) (fun i aE D H H' e _=>e) (fun i aE D σ' H' x H2 k r hi s1 s2 hD hA e y hk hr=>?_) (fun aE D σ' H' hD sm hA e=>done D H' hD sm (e▸hA))
 ·subst e
  have:=abO fs (bT i)
  rw[um]at this
  exact this
 ·subst e
  refine step i σ' H' x H2 k r hi s1 s2 y (fun v σ3 H5 hv s3 sm=>hk v σ3 H5 s3 sm ?_) (fun σ3 H4 hv s3 sm=>hr σ3 H4 s3 sm ?_)
  ·rw[xE,Dk];simp[hv]
  ·rw[xE,Dk];simp[hv]
theorem akq{xs:List V}{f:V->Option V}:(bT xs.length).filterMap (fun i=>xs[i]?.bind f)=xs.filterMap f:=by
 have e:xs=(bT xs.length).filterMap fun i=>xs[i]?:=by
  apply Iw
  intro i
  have key:∀n,n<=xs.length->(bT n).filterMap (fun i=>xs[i]?)=xs.take n:=fun n=>by
   induction n with
   |zero=>intro _;simp
   |succ n ih=>
    intro hn
    rw[xE,Dk,ih (by omega),jW]
    simp[bZ (show n<xs.length by omega)]
  rw[key xs.length (br _),mS]
 conv=>rhs;rw[e]
 rw[List.filterMap_filterMap]
theorem LS{a:aa}{xs:List V}(S:St->Prop)(f:V->Option V)(hn:xs.length<=1000000)(h0:S (fR cap σ))(ha:dO K H1 a xs)
  (step:∀(i:Nat) (x:V) (σ':St) (H':Hp) (k:V->St->Hp->Prop) (r:St->Hp->Prop),xs[i]?=some x->S σ'->ak H1 H'->
   (∀v σ3 H5,f x=some v->S σ3->ak H' H5->k v σ3 H5)->(∀σ3 H4,f x=none->S σ3->ak H' H4->r σ3 H4)->
   g x σ' H' fun σ3 H3=>tt σ3 H3 fun b H4=>if b=true then te σ3 H4 (fun v H5=>k v σ3 H5)else r σ3 H4)
  (done:∀D H',H1 D=none->ak H1 H'->H' D=some (.lst (xs.filterMap f))->Q (.ref D) H'):lP cap g tt te σ Q (rE K a) H1:=by
 refine Cc (n:=xs.length) S (fun i=>xs[i]?.bind f) (fun i H' hi sm=>⟨xs,xs[i],sm.seq ha,bZ hi⟩) (fun H' sm=>⟨xs,sm.seq ha,br _⟩) hn h0 (fun i σ' H' x H2 k r hi s1 sm y hk hr=>?_) (fun D H' hD sm hA=>done D H' hD sm (by rw[akq]at hA;exact hA))
 obtain⟨e,y⟩:=y
 subst e
 have hx:=y xs (sm.seq ha)
 refine step i x σ' H2 k r hx s1 sm (fun v σ3 H5 hv s3 kZ=>hk v σ3 H5 (by simp only[hx];exact hv) s3 kZ) (fun σ3 H4 hv s3 kZ=>hr σ3 H4 (by simp only[hx];exact hv) s3 kZ)
theorem zQ{α β:Type}(f:α->β)(xs:List α):xs.filterMap (fun x=>some (f x))=xs.map f:=by
 rw[List.filterMap_eq_map']
theorem YT{a:aa}{xs:List V}(S:St->Prop)(f:V->V)(hn:xs.length<=1000000)(h0:S (fR cap σ))(ha:dO K H1 a xs)
  (step:∀(i:Nat) (x:V) (σ':St) (H':Hp) (k:V->St->Hp->Prop) (r:St->Hp->Prop),xs[i]?=some x->S σ'->ak H1 H'->(∀σ3 H5,S σ3->ak H' H5->k (f x) σ3 H5)->
   g x σ' H' fun σ3 H3=>tt σ3 H3 fun b H4=>if b=true then te σ3 H4 (fun v H5=>k v σ3 H5)else r σ3 H4)
  (done:∀D H',H1 D=none->ak H1 H'->H' D=some (.lst (xs.map f))->Q (.ref D) H'):lP cap g tt te σ Q (rE K a) H1:=
 LS S (fun x=>some (f x)) hn h0 ha (fun i x σ' H' k r hx s1 sm hk _=>step i x σ' H' k r hx s1 sm fun σ3 H5 s3 kZ=>hk (f x) σ3 H5 rfl s3 kZ) fun D H' hD sm hA=>done D H' hD sm (by rw[zQ]at hA;exact hA)
theorem aqw{lo:Int}{n:Nat}(S:St->Prop)(f:Nat->V)(hn:n<=1000000)(h0:S (fR cap σ))
  (step:∀(i:Nat) σ' H' (k:V->St->Hp->Prop) (r:St->Hp->Prop),i<n->S σ'->ak H1 H'->(∀σ3 H5,S σ3->ak H' H5->k (f i) σ3 H5)->
   g (.int (lo+i)) σ' H' fun σ3 H3=>tt σ3 H3 fun b H4=>if b=true then te σ3 H4 (fun v H5=>k v σ3 H5)else r σ3 H4)
  (done:∀D H',H1 D=none->ak H1 H'->H' D=some (.lst ((bT n).map f))->Q (.ref D) H'):lP cap g tt te σ Q (uh lo n) H1:=by
 refine Cc (n:=n) S (fun i=>some (f i)) (fun i H' hi _=>hi) (fun H' _=>br _) hn h0 (fun i σ' H' x H2 k r hi s1 sm y hk hr=>?_) (fun D H' hD sm hA=>done D H' hD sm (by rw[zQ]at hA;exact hA))
 obtain⟨e,y⟩:=y
 subst e y
 exact step i σ' H2 k r hi s1 sm fun σ3 H5 s3 kZ=>hk _ σ3 H5 rfl s3 kZ
theorem LR{d:aa}{o:Obj}{ps:List (Int×Int)}(S:St->Prop)(f:Int×Int->Option V)(hn:ps.length<=1000000)(h0:S (fR cap σ))(hd:H1 d=some (.cC o (.dK (Tl.kvs ps))))
  (step:∀(i:Nat) (p:Int×Int) (σ':St) (H':Hp) (t:aa) (k:V->St->Hp->Prop) (r:St->Hp->Prop),ps[i]?=some p->S σ'->ak H1 H'->H' t=none->
   (∀v σ3 H5,f p=some v->S σ3->ak H' H5->k v σ3 H5)->(∀σ3 H4,f p=none->S σ3->ak H' H4->r σ3 H4)->
   g (.ref t) σ' (upd H' t (.tup [.int p.1,.int p.2])) fun σ3 H3=>tt σ3 H3 fun b H4=>if b=true then te σ3 H4 (fun v H5=>k v σ3 H5)else r σ3 H4)
  (done:∀D H',H1 D=none->ak H1 H'->H' D=some (.lst (ps.filterMap f))->Q (.ref D) H'):lP cap g tt te σ Q (AX d o (Tl.kvs ps)) H1:=by
 have el:(Tl.kvs ps).length=ps.length:=by unfold Tl.kvs;rw[aC]
 have key:∀n,n<=ps.length->(bT n).filterMap (fun i=>ps[i]?.bind f)=(ps.take n).filterMap f:=fun n=>by
  induction n with
  |zero=>intro _;simp
  |succ n ih=>
   intro hn
   rw[xE,Dk,ih (by omega),jW,Dk,bZ (show n<ps.length by omega)]
   congr 1
   show NY (fun i=>ps[i]?.bind f) [n]=NY f [ps[n]]
   rw[nK,nK,bZ (show n<ps.length by omega)]
   rfl
 refine Cc (n:=ps.length) S (fun i=>ps[i]?.bind f) (fun i H' hi sm=>⟨by rw[el];exact hi,sm d _ hd⟩) (fun H' sm=>⟨by rw[el];exact br _,sm d _ hd⟩) hn h0 (fun i σ' H' x H2 k r hi s1 sm y hk hr=>?_) (fun D H' hD sm hA=>done D H' hD sm (by rw[key _ (br _),mS]at hA;exact hA))
 obtain⟨q,t,hq,ht,e1,e2⟩:=y
 subst e1 e2
 unfold Tl.kvs at hq
 rw[dG,bZ hi]at hq
 cases(cY hq:(cN ps[i].1,V.int ps[i].2)=q)
 exact step i ps[i] σ' H' t k r (bZ hi) s1 sm ht (fun v σ3 H5 hv s3 kZ=>hk v σ3 H5 (by rw[bZ hi];exact hv) s3 kZ) (fun σ3 H4 hv s3 kZ=>hr σ3 H4 (by rw[bZ hi];exact hv) s3 kZ)
theorem aqz{d:aa}{o:Obj}{ps:List (Int×Int)}(S:St->Prop)(f:Int->V)(hn:ps.length<=1000000)(h0:S (fR cap σ))(hd:H1 d=some (.cC o (.dK (Tl.kvs ps))))
  (step:∀(i:Nat) (v:Int) (σ':St) (H':Hp) (k:V->St->Hp->Prop) (r:St->Hp->Prop),(ps.map (·.2))[i]?=some v->S σ'->ak H1 H'->(∀σ3 H5,S σ3->ak H' H5->k (f v) σ3 H5)->
   g (.int v) σ' H' fun σ3 H3=>tt σ3 H3 fun b H4=>if b=true then te σ3 H4 (fun v H5=>k v σ3 H5)else r σ3 H4)
  (done:∀D H',H1 D=none->ak H1 H'->H' D=some (.lst ((ps.map (·.2)).map f))->Q (.ref D) H'):lP cap g tt te σ Q (NS d o (Tl.kvs ps)) H1:=by
 have el:(Tl.kvs ps).length=ps.length:=by unfold Tl.kvs;rw[aC]
 have key:∀n,n<=ps.length->(bT n).filterMap (fun i=>ps[i]?.map fun p=>f p.2)=((ps.take n).map (·.2)).map f:=fun n=>by
  induction n with
  |zero=>intro _;simp
  |succ n ih=>
   intro hn
   rw[xE,Dk,ih (by omega),jW,fD,fD]
   simp[bZ (show n<ps.length by omega)]
 refine Cc (n:=ps.length) S (fun i=>ps[i]?.map fun p=>f p.2) (fun i H' hi sm=>⟨by rw[el];exact hi,sm d _ hd⟩) (fun H' sm=>⟨by rw[el];exact br _,sm d _ hd⟩) hn h0 (fun i σ' H' x H2 k r hi s1 sm y hk hr=>?_) (fun D H' hD sm hA=>done D H' hD sm (by rw[key _ (br _),mS]at hA;exact hA))
 obtain⟨q,hq,e1,e2⟩:=y
 subst e1 e2
 unfold Tl.kvs at hq
 rw[dG,bZ hi]at hq
 cases(cY hq:(cN ps[i].1,V.int ps[i].2)=q)
 exact step i ps[i].2 σ' H2 k r (by rw[dG,bZ hi];rfl) s1 sm fun σ3 H5 s3 kZ=>hk (f ps[i].2) σ3 H5 (by simp only[bZ hi];rfl) s3 kZ
theorem YU{a:aa}{xs:List V}(S:St->Prop)(P:Nat->List V->aa->Hp->Prop)(hn:xs.length<=1000000)(h0:S (fR cap σ))(ha:dO K H1 a xs)(p0:∀D,H1 D=none->P 0 [] D (upd H1 D (.lst [])))
  (Fx:∀i aE D H,P i aE D H->aE.length<=i)
  (Hx:∀i aE D H H',P i aE D H->(∀b o,b≠D->H b=some o->H' b=some o)->P i aE D H')
  (step:∀(i:Nat) (x:V) (aE:List V) (D:aa) (σ':St) (H':Hp) (k:V->St->Hp->Prop) (r:St->Hp->Prop),xs[i]?=some x->S σ'->ak H1 H'->H1 D=none->H' D=some (.lst aE)->P i aE D H'->
   (∀v σ3 H5,S σ3->ak H' H5->P (i+1) (aE++[v]) D H5->k v σ3 H5)->
   g x σ' H' fun σ3 H3=>tt σ3 H3 fun b H4=>if b=true then te σ3 H4 (fun v H5=>k v σ3 H5)else r σ3 H4)
  (done:∀(aE:List V) (D:aa) (σ':St) (H':Hp),H1 D=none->ak H1 H'->H' D=some (.lst aE)->P xs.length aE D H'->Q (.ref D) H'):lP cap g tt te σ Q (rE K a) H1:=by
 refine YV (n:=xs.length) S P (fun i H' hi sm=>⟨xs,xs[i],sm.seq ha,bZ hi⟩) (fun H' sm=>⟨xs,sm.seq ha,br _⟩) hn h0 p0 Fx Hx (fun i aE D σ' H' x H2 k r hi s1 sm hD hA p y hk hr=>?_) done
 obtain⟨e,y⟩:=y
 subst e
 exact step i x aE D σ' H2 k r (y xs (sm.seq ha)) s1 sm hD hA p hk
theorem aqy{a:aa}{xs:List V}(S:St->Prop)(f:V->V)(hn:xs.length<=1000000)(h0:S (fR cap σ))(ha:gc K H1 a xs)
  (step:∀(i:Nat) (x:V) (σ':St) (H':Hp) (k:V->St->Hp->Prop) (r:St->Hp->Prop),xs[i]?=some x->S σ'->ak H1 H'->(∀σ3 H5,S σ3->ak H' H5->k (f x) σ3 H5)->
   g x σ' H' fun σ3 H3=>tt σ3 H3 fun b H4=>if b=true then te σ3 H4 (fun v H5=>k v σ3 H5)else r σ3 H4)
  (done:∀D H',H1 D=none->ak H1 H'->H' D=some (.lst (xs.map f))->Q (.ref D) H'):lP cap g tt te σ Q (AY K a) H1:=by
 refine Cc (n:=xs.length) S (fun i=>xs[i]?.bind fun x=>some (f x)) (fun i H' hi sm=>⟨xs,xs[i],sm.tup ha,bZ hi⟩) (fun H' sm=>⟨xs,sm.tup ha,br _⟩) hn h0 (fun i σ' H' x H2 k r hi s1 sm y hk hr=>?_) (fun D H' hD sm hA=>done D H' hD sm (by rw[akq,zQ]at hA;exact hA))
 obtain⟨e,y⟩:=y
 subst e
 have hx:=y xs (sm.tup ha)
 exact step i x σ' H2 k r hx s1 sm fun σ3 H5 s3 kZ=>hk (f x) σ3 H5 (by rw[hx];rfl) s3 kZ
theorem Fv{a:aa}{xs:List V}(S:St->Prop)(f:Nat->V)(hn:xs.length<=1000000)(h0:S (fR cap σ))(ha:dO K H1 a xs)
  (step:∀(i:Nat) (x:V) (σ':St) (H':Hp) (k:V->St->Hp->Prop) (r:St->Hp->Prop),xs[i]?=some x->S σ'->ak H1 H'->(∀σ3 H5,S σ3->ak H' H5->k (f i) σ3 H5)->
   g x σ' H' fun σ3 H3=>tt σ3 H3 fun b H4=>if b=true then te σ3 H4 (fun v H5=>k v σ3 H5)else r σ3 H4)
  (done:∀D H',H1 D=none->ak H1 H'->H' D=some (.lst ((bT xs.length).map f))->Q (.ref D) H'):lP cap g tt te σ Q (rE K a) H1:=by
 refine Cc (n:=xs.length) S (fun i=>some (f i)) (fun i H' hi sm=>⟨xs,xs[i],sm.seq ha,bZ hi⟩) (fun H' sm=>⟨xs,sm.seq ha,br _⟩) hn h0 (fun i σ' H' x H2 k r hi s1 sm y hk hr=>?_) (fun D H' hD sm hA=>done D H' hD sm (by rw[zQ]at hA;exact hA))
 obtain⟨e,y⟩:=y
 subst e
 exact step i x σ' H2 k r (y xs (sm.seq ha)) s1 sm fun σ3 H5 s3 kZ=>hk (f i) σ3 H5 rfl s3 kZ
theorem range_all{α:Type}(ps:List α)(d:α)(q:α->Bool):(bT ps.length).all (fun i=>q (ps.getD i d))=ps.all q:=by
 rw[rB,kD,kD]
 constructor
 ·intro h x hx
  obtain⟨i,hi,e⟩:=List.mem_iff_getElem.mp hx
  have:=h i (iG.mpr hi)
  rw[eX,bZ hi]at this
  rw[<- e];exact this
 ·intro h i hi
  have j4:=iG.mp hi
  rw[eX,bZ j4]
  exact h _ (A5 j4)
theorem qW(x y:Int):decide (V.int x=V.int y)=decide (x=y):=by
 by_cases h:x=y
 ·rw[h];simp
 ·rw[decide_eq_false h,decide_eq_false (fun q=>h (by injection q))]
theorem CP(x y:Int):(!decide (V.int x=V.int y))=decide (x≠y):=by
 rw[qW]
 by_cases h:x=y<;>simp[h]
theorem Ws(k:Int)(ns:List Int):Lu (.int k) (ns.map V.int)=decide (k∈ns):=by
 unfold Lu
 rw[abH,rB,A1,decide_eq_true_iff]
 constructor
 ·rintro⟨x,hx,e⟩
  have:x=k:=by simpa[rS]using e
  rw[<- this];exact hx
 ·intro h
  exact⟨k,h,by simp[rS]⟩
end
end L2
namespace L2
open PySem PySem.Spec PyProof.Rows
section
variable{X:Cx}{ah:List (aa×Obj)}{σ:St}{H:Hp}{s:aB}
theorem Inv.alk{h':bL}{t':Nat}{ch:List aa}{a:aa}{o':HO}(I:Inv X ah σ H s)(k:∀b o,b∉ch->s.heap.get? b=some o->h'.get? b=some o)(hf:∀b∈ch,iR X ah H b)
  (ha:s.heap.objs.size<=a) (new:cD X.prog X.w (upd H a o') h' a o'):Inv X ah σ (upd H a o') {s with heap:=h',toks:=t'}:=by
 have fr:H a=none:=I.hok.fresh ha
 have qq:∀b u,H b=some u->b∉ch:=fun b u e z=>by
  have:=(hf b z).1
  rw[e]at this;cases this
 refine I.step (g':=s.gens) (d':=s.drawn) (ch:=ch) (fun b hb=>?_) (fun b o _ _ hc e _=>k b o hc e) (fun b o _ _ hc e _=>⟨o.slots,k b o hc e⟩) (fun b o _ e n=>?_)
  (fun b o hc e=>⟨o,k b o hc e⟩) (fun b xs e=>?_) (fun b o u e=>?_) (fun b ps e=>⟨#[],?_⟩) (fun m hm=>?_) (fun b u e=>?_) I.bare
 ·obtain⟨f0,f1,f2,f3,f4,f5⟩:=hf b hb
  exact⟨f3,f1,f4,f5⟩
 ·rw[aA (dw (gq (bV e) ha))];exact n
 ·rw[aA (bf e fr)];exact e
 ·rw[aA (bf e fr)];exact e
 ·rw[aA (bf e fr),e];simp
 ·obtain⟨o,es,ep,ho,r⟩:=hm
  exact⟨o,es,ep,k _ o (fun z=>(hf _ z).2.1 rfl) ho,r⟩
 ·by_cases hb:b=a
  ·subst hb
   rw[au]at e
   cases e
   exact new
  ·rw[aA hb]at e
   refine(I.hok b u e).stay (fun c v hc q=>k c v ?_ q) (fun c q=>?_) fun c xs q=>?_
   ·rcases hc with z | z
    ·rw[z];exact qq b u e
    ·exact qq c _ z
   ·rw[aA (bf q fr)];exact q
   ·rw[aA (bf q fr)];exact q
noncomputable def ug(a:aa)(xs:List V):It:=
 ⟨fun i H=>i<xs.length/\H a=some (.lst xs),fun i H x H'=>∃y t,xs[i]?=some y/\H t=none/\x=.ref t/\H'=upd H t (.tup [.int (i:Int),y]),fun i H=>xs.length<=i/\H a=some (.lst xs)⟩
theorem ayF{P:cH}{w:cj}{K:bG}{p7:List aZ}{x1:Nat}{oM:Pos}(a e it:aa)(xs:List V)(gM:e≠it) :
  uE P w K (.Tuple p7 x1 oM) (ug a xs) [e,it] e (fun i h=>(∃qu,IsEnum h e it (i:Int) qu)/\h.IsListIter it a i) where
 mem:=by simp
 obj:=fun i h st b hb=>by
  obtain⟨⟨qu,st⟩,o,ho,hc,hd⟩:=st
  rcases dY.mp hb with q | q
  ·subst q
   exact⟨_,st,fun v z=>by
    have z':HW _=C1 v:=z
    cases z'⟩
  ·rw[gb.mp q]
   exact⟨o,ho,fun v z=>by rw[hd]at z;cases z⟩
 keep:=fun i h h' ⟨⟨qu,st⟩,jk⟩ k=>⟨⟨qu,k e (by simp) _ st⟩,jk.at fun o q=>k it (by simp) o q⟩
 item:=by
  intro X hP hw hK hc i ah s σ H E I hf st hg
  subst hP hw hK
  obtain⟨⟨qu,st⟩,jk⟩:=st
  obtain⟨bQ,hd⟩:=hg
  obtain⟨z,its,n,rv,bS⟩:=(show cD X.prog X.w H s.heap a (.lst xs)from I.hok a _ hd)
  have hl:s.heap.IsList a its.toArray:=⟨_,bS,rfl,_,rfl⟩
  have hx:xs[i]?=some xs[i]:=bZ bQ
  obtain⟨u,hu,ru⟩:=rv.get hx
  refine wpAny_pyNext_enum_item st jk hl (x:=u) (by simpa using hu) gM fun h1 out it1 ht hz kp=>?_
  refine⟨_,rfl,wpAny_letOwnedTupleGo_enum out fun h2 eU sb=>?_⟩
  have hel:e<s.heap.objs.size:=bV st
  have jM:h2.get? s.heap.objs.size=some {cls:=.type "tuple",data:=.seq #[.int i s.toks,u]}:=(sb.2 _ (kE hel)).trans ht
  have fr:H s.heap.objs.size=none:=I.fresh
  obtain⟨oi,hoi,_⟩:=id jk
  have uX:it<s.heap.objs.size:=bV hoi
  have I3:Inv X ah σ (upd H s.heap.objs.size (.tup [.int (i:Int),xs[i]])) {s with heap:=h2,toks:=s.toks+1}:=
   I.alk (ch:=[e,it]) (fun b o hb q=>(sb.2 b (fun z=>hb (by simp[z]))).trans (kp b o (fun z=>hb (by simp[z])) (fun z=>hb (by simp[z])) q)) hf (br _)
    ⟨by show 2<=aX;decide,[.int i s.toks,u],.cons ⟨_,rfl⟩ (.cons ru .nil),_,jM,rfl,_,rfl⟩
  refine⟨.ref s.heap.objs.size,_,I3,rfl,⟨xs[i],s.heap.objs.size,hx,fr,rfl,rfl⟩,⟨⟨u,?_⟩,it1.at fun o q=>(sb.2 it (dB gM)).trans q⟩,fun b hb=>?_⟩
  ·have:(((i+1:Nat)):Int)=(i:Int)+1:=by omega
   rw[this];exact eU
  ·rw[aA]
   ·exact(hf b hb).1
   ·rcases dY.mp hb with q | q
    ·rw[q];exact dw hel
    ·rw[gb.mp q];exact dw uX
 done:=by
  intro X hP hw hK hc i ah s σ H E I hf st hg
  subst hP hw hK
  obtain⟨⟨qu,st⟩,jk⟩:=st
  obtain⟨fK,hd⟩:=hg
  obtain⟨z,its,n,rv,bS⟩:=(show cD X.prog X.w H s.heap a (.lst xs)from I.hok a _ hd)
  have hl:s.heap.IsList a its.toArray:=⟨_,bS,rfl,_,rfl⟩
  obtain⟨f0,f1,f2,f3,f4,f5⟩:=hf it (by simp)
  have bC:=rv.length
  exact wpAny_pyNext_enum_end (I.ok.hd hc) st jk hl (by simp;omega) fun h' eb=>⟨rfl,I.turned (t':=s.toks) (fun b o hb q=>eb b o hb q) f0 f1 f3 f4 f5⟩
 self:=by
  intro A i s Q E ⟨⟨qu,st⟩,_⟩ h
  exact wpAny_pyIter_enum st h
noncomputable def apX(ta:TE):TI:=fun σ H R=>ta σ H fun x H1=>∃(a:aa) (xs:List V),x=.ref a/\H1 a=some (.lst xs)/\R (ug a xs) H1
theorem auu{p7:List aZ}{x1:Nat}{oM:Pos}{l:aZ}{ta:TE}{p pos:Pos}(hg:Gl X "enumerate") (hm:X.mg "enumerate" = none) (ha:PE X l ta) (hs:dR [l] X.env=[(false,eval l X.env)]:=by rfl) :
  PI X (.Tuple p7 x1 oM) (.Call (.Name "enumerate" p) [l] [] pos) (apX ta):=by
 intro ah s σ H R I h
 have pa:=aj ha aq hs
 refine Call_ (qo I hg hm boot_enumerate (A7 (aV (pa pos ah s σ H (fun vs H1=>∃(a:aa) (xs:List V),vs=[.ref a]/\H1 a=some (.lst xs)/\R (ug a xs) H1) I ?_) fun us s1 ⟨vs,H1,I1,r1,q1⟩=>?_) hs rfl))
 ·show ta σ H fun x H1=>∃(a:aa) (xs:List V),[x]=[.ref a]/\H1 a=some (.lst xs)/\R (ug a xs) H1
  have e:(fun(x:V) (H1:Hp)=>∃(a:aa) (xs:List V),[x]=[V.ref a]/\H1 a=some (.lst xs)/\R (ug a xs) H1)=fun x H1=>∃(a:aa) (xs:List V),x=.ref a/\H1 a=some (.lst xs)/\R (ug a xs) H1:=by
   funext x H1
   simp
  rw[e]
  exact h
 ·obtain⟨a,xs,e,hd,q⟩:=q1
  subst e
  obtain⟨u,rfl,ru⟩:=r1.one
  cases ru
  obtain⟨z,its,n,rv,bS⟩:=(show cD X.prog X.w H1 s1.heap a (.lst xs)from I1.hok a _ hd)
  refine call_enumerate_1 (items:=its.toArray) (n:=n) bS fun h' he hit hz kp=>?_
  refine wpAny_pyIter_enum he ?_
  have gM:s1.heap.objs.size+1≠s1.heap.objs.size:=kE (II _)
  refine⟨s1.heap.objs.size+1,[s1.heap.objs.size+1,s1.heap.objs.size],_,_,H1,rfl,I1.kept (t':=s1.toks) kp,ayF a _ _ xs gM,⟨⟨_,he⟩,hit⟩,fun b hb=>?_,q⟩
  rcases dY.mp hb with q | q
  ·rw[q];exact I1.p9 (uw _) (I1.hok.fresh (uw _))
  ·rw[gb.mp q];exact I1.p9 (br _) (I1.hok.fresh (br _))
theorem aol{a:aa}{xs:List V}{g:TG}{tb:TS}{D:Ends}{σ:St}{H:Hp}(Pv:Nat->St->Hp->Prop)(h0:Pv 0 σ H)(hl:∀i σ H,i<=xs.length->Pv i σ H->H a=some (.lst xs))
  (hs:∀i x σ H t,xs[i]?=some x->Pv i σ H->H t=none->g (.ref t) σ (upd H t (.tup [.int (i:Int),x])) fun σ2 H2=>tb {D with nx:=Pv (i+1),ct:=Pv (i+1),bk:=D.nx} σ2 H2) (hd:∀σ H,Pv xs.length σ H->D.nx σ H) :
  ∃W:Nat->Nat->St->Hp->Prop,(∃m,W 0 m σ H)/\∀i m σ H,W i m σ H->
   ((ug a xs).stop i H/\D.nx σ H)\/((ug a xs).go i H/\∃N:St->Hp->Prop,(∀σ' H',N σ' H'->∃m',m'<m/\W (i+1) m' σ' H')/\∀x H',(ug a xs).nG i H x H'->g x σ H' fun σ2 H2=>tb {D with nx:=N,ct:=N,bk:=D.nx} σ2 H2):=
 agy (n:=xs.length) Pv h0 (fun i σ H hi p=>⟨hi,hl i σ H (lG hi) p⟩) (fun σ H p=>⟨br _,hl _ σ H (br _) p⟩)
  (fun i σ H x H' hi p y=>by
   obtain⟨y,t,e1,e2,e3,e4⟩:=y
   subst e3 e4
   exact hs i y σ H t e1 p e2) hd
end
end L2
set_option maxHeartbeats 1000000
namespace L2
open PySem PySem.Spec PyProof.Rows
theorem afi{K:bG}{H:Hp}:∀ns:List Int,lC K H (ns.map iH) (ns.map V.int)
 | []=>by simp[lC]
 |n::ns=>by
  rw[dM,dM]
  unfold lC
  exact⟨_,_,rfl,by simp[gS],afi ns⟩
theorem ju{K:bG}{H:Hp}{a:aa}{ns:List Int}(h:dO K H a (ns.map V.int)):gS K H (.list (ns.map iH)) (.ref a):=by
 unfold gS
 exact⟨a,_,rfl,h,afi ns⟩
noncomputable def pr(p:Int×Int):PyData:=.tuple [.int p.1,.int p.2]
theorem anN{K:bG}{H:Hp}{t:aa}{p:Int×Int}(h:gc K H t [.int p.1,.int p.2]):gS K H (pr p) (.ref t):=by
 unfold pr gS
 exact⟨t,_,rfl,h,by simp[lC,gS]⟩
theorem afj{K:bG}{H:Hp}:∀(ps:List (Int×Int)) (ts:List aa),ts.length=ps.length->(∀(j:Nat) (t:aa) (p:Int×Int),ts[j]?=some t->ps[j]?=some p->gc K H t [.int p.1,.int p.2])->lC K H (ps.map pr) (ts.map V.ref)
 | [],[],_,_=>by simp[lC]
 | [],_::_,h,_=>by cases h
 |_::_,[],h,_=>by cases h
 |p::ps,t::ts,h,f=>by
  rw[dM,dM]
  unfold lC
  exact⟨_,_,rfl,anN (f 0 t p rfl rfl),afj ps ts (by simpa using h) fun j t' p' h1 h2=>f (j+1) t' p' (by simpa using h1) (by simpa using h2)⟩
theorem anO{K:bG}{H:Hp}{a:aa}{ts:List aa}{ps:List (Int×Int)}(h:dO K H a (ts.map V.ref))(hl:ts.length=ps.length)(f:∀(j:Nat) (t:aa) (p:Int×Int),ts[j]?=some t->ps[j]?=some p->gc K H t [.int p.1,.int p.2]) :
  gS K H (.list (ps.map pr)) (.ref a):=by
 unfold gS
 exact⟨a,_,rfl,h,afj ps ts hl f⟩
theorem YS:∀ns:List Int,uz (ns.map iH)=true/\uA (ns.map iH)=0
 | []=>by simp[uz,uA]
 |n::ns=>by
  obtain⟨h1,h2⟩:=YS ns
  rw[dM]
  unfold uz uA
  simp[h1,h2,Dv,Dw]
theorem shaped_ints(ns:List Int):xH (.list (ns.map iH))=true:=by
 obtain⟨h1,h2⟩:=YS ns
 simp[xH,Dv,Dw,h1,h2]
theorem aiA:∀ps:List (Int×Int),uz (ps.map pr)=true/\uA (ps.map pr)<=1
 | []=>by simp[uz,uA]
 |p::ps=>by
  obtain⟨h1,h2⟩:=aiA ps
  rw[dM]
  have c:(pr p).canLay0=true:=by simp[pr,Dv,uz]
  have d:(pr p).depth=1:=by simp[pr,Dw,uA]
  unfold uz uA
  rw[c,d]
  exact⟨by simp[h1],by omega⟩
theorem Hu(ps:List (Int×Int)):xH (.list (ps.map pr))=true:=by
 obtain⟨h1,h2⟩:=aiA ps
 have c:(Ol (ps.map pr)).canLay0=true:=by unfold Dv;exact h1
 have d:(Ol (ps.map pr)).depth<=64:=by unfold Dw;omega
 simp[xH,c,d]
theorem CH{d:Du}(h:xH d=true):jI d d=true:=PySem.SeqAt.eqv_refl d (PySem.SeqAt.canLay_of_shaped h)
theorem Jm(ns ms:List Int):jI (.list (ns.map iH)) (.list (ms.map iH))=decide (ns=ms):=by
 have key:∀ns ms:List Int,IP (ns.map iH) (ms.map iH)=decide (ns=ms):=by
  intro ns
  induction ns with
  |nil=>intro ms;cases ms<;>simp[IP]
  |cons n ns ih=>
   intro ms
   cases ms with
   |nil=>simp[IP]
   |cons m ms=>
    simp only[dM,IP,jI,ih]
    by_cases h:n=m<;>by_cases h2:ns=ms<;>simp[h,h2]
 simp only[jI,key]
end L2
namespace L2
open PySem PySem.Spec PyProof.Rows
section
variable{X:Cx}{ah:List (aa×Obj)}{σ:St}{H:Hp}{s:aB}
theorem Inv.AC{d:aa}{o:Obj}{kvs:List (Key×V)}(I:Inv X ah σ H s)(h0:∀o u,X.H₀ d≠some (.cC o u))(hd:H d=some (.cC o (.dK kvs))):Inv X ah σ (upd H d (.dK kvs)) s:=by
 have ne:∀b,H b=none->b≠d:=fun b e z=>by rw[z,hd]at e;cases e
 have oE:∀b u,H b=some u->u≠.cC o (.dK kvs)->b≠d:=fun b u e n z=>by rw[z,hd]at e;exact n (cY e).symm
 obtain⟨ok,os,bare,base,loc,cell,free,kK,pin,hok,len⟩:=I
 refine⟨ok,os,bare,⟨base.keep,base.slot,fun b ob e n hx=>?_,base.there,fun b xs e=>?_,fun b ob u e=>?_,fun b ps e=>?_⟩,loc,cell,?_,fun x c e=>?_,fun p hp=>?_,fun b u e=>?_,len⟩
 ·have:=base.free b ob e n hx
  rw[aA (ne b this)];exact this
 ·have:=base.tups b xs e
  rw[aA (oE b _ this (by intro q;cases q))];exact this
 ·have:=base.mY b ob u e
  have nb:b≠d:=fun z=>h0 ob u (z▸e)
  rw[aA nb];exact this
 ·obtain⟨more,q⟩:=base.qP b ps e
  exact⟨more,by rw[aA (oE b _ q (by intro q;cases q))];exact q⟩
 ·rw[aA (ne _ free)];exact free
 ·have:=kK x c e
  rw[aA (ne _ this)];exact this
 ·obtain⟨a1,a2,a3⟩:=pin p hp
  exact⟨a1,by rw[aA (ne _ a2)];exact a2,a3⟩
 ·by_cases hb:b=d
  ·subst hb
   rw[au]at e
   cases e
   obtain⟨_,q⟩:=(show cD X.prog X.w H s.heap b (.cC o (.dK kvs))from hok b _ hd)
   exact cD.stay q (fun _ _ _ q=>q) (fun c q=>by rw[aA (oE c _ q (by intro q;cases q))];exact q) (fun c xs q=>by rw[aA (oE c _ q (by intro q;cases q))];exact q)
  ·rw[aA hb]at e
   refine(hok b u e).stay (fun _ _ _ q=>q) (fun c q=>?_) fun c xs q=>?_
   ·rw[aA (oE c _ q (by intro q;cases q))];exact q
   ·rw[aA (oE c _ q (by intro q;cases q))];exact q
theorem Inv.aiR{d:aa}{kvs:List (Key×V)}(I:Inv X ah σ H s)(hd:H d=some (.dK kvs)):∀o u,X.H₀ d≠some (.cC o u):=fun o u e=>by
 have:=I.base.mY d o u e
 rw[hd]at this
 cases this
noncomputable def ays(t:TE):TE:=fun σ H Q=>∃(d:aa) (Fo:List (Key×V)),H d=some (.dK Fo)/\t σ H fun v H1=>∃(o:Obj) (kvs:List (Key×V)),H1 d=some (.cC o (.dK kvs))/\Q v (upd H1 d (.dK kvs))
theorem auq{e:aZ}{t:TE}(h:PE X e t):PE X e (ays t):=by
 intro ah s σ H Q I q
 obtain⟨d,Fo,hd,q⟩:=q
 have h0:=I.aiR hd
 refine aV (h ah s σ H _ I q) fun u s1 ⟨v,H1,I1,r1,o,kvs,h1,q1⟩=>⟨v,_,I1.AC h0 h1,r1,q1⟩
noncomputable def au6(t:TS):TS:=fun D σ H=>∃(d:aa) (Fo:List (Key×V)),H d=some (.dK Fo)/\
 t {nx:=fun σ' H1=>∃(o:Obj) (kvs:List (Key×V)),H1 d=some (.cC o (.dK kvs))/\D.nx σ' (upd H1 d (.dK kvs)),rt:=fun v H1=>∃(o:Obj) (kvs:List (Key×V)),H1 d=some (.cC o (.dK kvs))/\D.rt v (upd H1 d (.dK kvs))} σ H
theorem auF{st:iT}{t:TS}(h:PS X st t):PS X st (au6 t):=by
 intro ah s σ H D I q
 obtain⟨d,Fo,hd,q⟩:=q
 have h0:=I.aiR hd
 refine aV (h ah s σ H _ I q) fun f s1 q1=>?_
 cases f with
 |next=>
  obtain⟨σ',H1,I1,o,kvs,h1,q1⟩:=q1
  exact⟨σ',_,I1.AC h0 h1,q1⟩
 |brk=>obtain⟨_,_,_,z⟩:=q1;exact z.elim
 |cont=>obtain⟨_,_,_,z⟩:=q1;exact z.elim
 |ret u=>
  obtain⟨v,σ',H1,I1,r,o,kvs,h1,q1⟩:=q1
  exact⟨v,σ',_,I1.AC h0 h1,r,q1⟩
end
end L2
namespace Tl
open L2
noncomputable def iW(ks:List Int)(f:Int->Int):List (Int×Int):=ks.map fun k=>(k,f k)
theorem agl(ks:List Int)(f:Int->Int):(iW ks f).map (·.1)=ks:=by unfold iW;rw[lE];exact abS _
theorem anV(ks:List Int)(f:Int->Int):(iW ks f).map (·.2)=ks.map f:=by unfold iW;rw[lE];rfl
theorem anU(ks:List Int)(f:Int->Int):(iW ks f).length=ks.length:=by unfold iW;rw[aC]
theorem CL(ns:List Int):bh ns=iW ((bh ns).map (·.1)) fun k=>(ns.count k:Int):=by
 unfold iW
 rw[lE]
 have:bh ns=(bh ns).map id:=by simp
 refine this.trans (xD fun p hp=>?_)
 show p=(p.1,(ns.count p.1:Int))
 rw[<- (vj hp).2]
theorem agQ{ks:List Int}{f:Int->Int}{k:Int}(hk:k∈ks):get (iW ks f) k=some (f k):=by
 unfold get iW
 induction ks with
 |nil=>cases hk
 |cons x ks ih=>
  rw[dM,rG]
  by_cases e:x=k
  ·subst e;simp
  ·simp only[e,decide_false]
   rcases dY.mp hk with z | z
   ·exact absurd z.symm e
   ·exact ih z
end Tl
set_option maxHeartbeats 2000000
set_option maxHeartbeats 1000000
namespace L2
open PySem PySem.Spec PyProof.Rows
theorem aaR:∀ {xs:List V} {us:List ao},xs.length=us.length->(∀(i:Nat) x u,xs[i]?=some x->us[i]?=some u->RelV x u)->bu xs us
 | [],[],_,_=>.nil
 | [],_::_,h,_=>by cases h
 |_::_,[],h,_=>by cases h
 |x::xs,u::us,h,f=>.cons (f 0 x u rfl rfl) (aaR (by simpa using h) fun i y v h1 h2=>f (i+1) y v h1 h2)
end L2
set_option maxHeartbeats 4000000
namespace L2
open PySem PySem.Spec PyProof.Rows
noncomputable def abu(X:Cx)(f:ao)(ks:List Str)(r:List V->List V->Hp->VK->Prop):Prop:=
 ∀(ah:List (aa×Obj)) (s:aB) (σ:St) (H:Hp) (xs zs:List V) (us ws:List ao) (Q:VK),Inv X ah σ H s->bu xs us->bu zs ws->r xs zs H Q->
  aK (aN X.prog X.w) X.A (call f us (ks.zip ws)) (EP X ah σ Q) X.xe s
noncomputable def ax4(r:List V->List V->Hp->VK->Prop)(t tk:TA):TE:=fun σ H Q=>t σ H fun vs H1=>tk σ H1 fun zs H2=>r vs zs H2 Q
section
variable{X:Cx}{ah:List (aa×Obj)}{σ:St}{H:Hp}{s:aB}
theorem auj{id:String}{ks:List Str}{r:List V->List V->Hp->VK->Prop}{x:Str}{e:aZ}{es:List aZ}{ql:List AZ}{t tk:TA}{p pos:Pos}(hc:abu X (.builtin id) ks r)(hg:Gl X x)(hm:X.mg x=none)(hv:xT x=some (.builtin id))(ha:PA X (e::es) t)(hkw:PK X ql tk)
  (hn:x≠"__name__":=by decide) (nZ:(x == ("__debug__" : Str))=false:=by decide) (VI:(uJ pos (ve ql X.env)).filterMap (·.1)=ks:=by rfl)
  (he:jJ pos (dR (e::es) X.env)=(false,eval e X.env)::jJ pos (dR es X.env):=by rfl) (VZ:(jJ pos (dR (e::es) X.env)).any (·.1)=false:=by rfl)
  (cR:(uJ pos (ve ql X.env)).all (·.1.isSome)=true:=by rfl) (hkn:(uJ pos (ve ql X.env)).any (·.1.isNone)=false:=by rfl) :
  PE X (.Call (.Name x p) (e::es) ql pos) (ax4 r t tk):=by
 intro ah s σ H Q I h
 refine AH (qo I hg hm hv ?_ hn nZ)
 refine amV (aV (ha pos ah s σ H _ I h) fun us s1 ⟨vs,H1,I1,r1,q1⟩=>aV (hkw pos ah s1 σ H1 _ I1 q1) fun ws s2 ⟨zs,H2,I2,r2,q2⟩=>?_) he VZ cR hkn
 rw[VI]
 exact hc ah s2 σ H2 vs zs us ws Q I2 r1 r2 q2
theorem ans(hc:X.calm=true):jq X (.type "list") (fun xs H Q=>∃(v d:aa) (kvs:List (Key×V)),xs=[.ref v]/\H v=some (jY "dict_values" v d)/\H d=some (.dK kvs)/\∀l,H l=none->Q (.ref l) (upd H l (.lst (kvs.map (·.2))))):=by
 intro ah s σ H xs us Q I r h
 obtain⟨v,d,kvs,rfl,hv,hd,q⟩:=h
 obtain⟨u,rfl,ru⟩:=vals1 r
 cases ru
 obtain⟨z,lo,vs,cQ,dd⟩:=x6 I.hok hd
 obtain⟨ep,eG⟩:=dd.dictAt
 have E4:s.heap.IsValuesView v d:=⟨_,(I.hok v _ hv).1,rfl,rfl⟩
 have bC:kvs.length=vs.length:=cQ.length
 refine PySem.W.kdl_call (PySem.W.kdl_values (knd:=iE X.prog X.w) (kvs:=vs) (ep:=ep)) (I.ok.hd hc) ⟨E4,eG⟩ (by rw[<- bC];exact z) fun h' tk DN c' kp hl hi=>?_
 refine⟨.ref s.heap.objs.size,_,I.laid (o:=.lst (kvs.map (·.2))) (t':=tk) kp (br _) ⟨?_,DN.toList,c',?_,hl⟩,rfl,q _ I.fresh⟩
 ·rw[aC];exact z
 ·refine aaR (by rw[aC,bC,<- hi.1,lM]) fun i x u h1 h2=>?_
  obtain⟨k,e⟩:=hi.2 i u (by simpa using h2)
  obtain⟨p,hp,_,e2⟩:=B0 cQ e
  rw[dG,hp]at h1
  cases h1
  exact e2
theorem anw{prog:cH}{w:cj}{A:cS}{E:ao->aB->Prop}{s:aB}{id:String}{b:Builtin}{args:List ao}{kw:List (Str×ao)}{Q:ao->aB->Prop}(hk:builtinKind id=none)(hp:plainId id=true)
  (hb:entryFor table id=some b) (ha:argsOk id ⟨args,kw⟩)
  (hc:aK (aN prog w) A.in1 (b ⟨args,kw⟩) (fun fin s'=>match fin with
   | .done f=>(match(Except.ok f:zC)with | .ok (.ret v)=>Q v s' | .ok _=>False | .error e=>E e s')
   | .again c'=>c'.quiet=true/\mX (aN prog w) A c' (fun r s'=>match r with | .ok (.ret v)=>Q v s' | .ok _=>False | .error e=>E e s') s') E s) :
  aK (aN prog w) A (call (.builtin id) args kw) Q E s:=by
 refine aaW (codeAny_call_builtin hp hb ?_)
 simp only[checkBuiltinCall,hk]
 cases apH:Manifest.signature? id with
 |none=>exact bJ hc
 |some sig=>
  simp only[argsOk,apH]at ha
  have h2:Bind.checkArgs id sig ⟨args,kw⟩=pure ():=ha
  show aK _ A.in1 (Bind.checkArgs id sig ⟨args,kw⟩) _ _ s
  rw[h2];exact bJ hc
section
variable{prog:cH}{w:cj}{A:cS}{R:zC->aB->Prop}{I:aa}{fp wr:List aa}{n:Nat}{P:Nat->ao->Prop}{St:Nat->bL->Prop}{dk:Str}{dv:ao}
theorem aqO(W:Walks prog w A.in1 I fp wr n P St)(bt:Nat->Nat->Bool)(Vm:CmpOf prog w A.in1 .Gt P bt)(S:aa)(yc:S∉fp) :
  ∀(k j:Nat) (s:aB) (vb:ao) (c:Nat),n-(j+1)=k->j+1<=n->St (j+1) s.heap->P (Bg bt j) vb->
  s.heap.get? S=some {cls:=.type "list",dict:=none,data:=.seq #[vb,vb] c,slots:=#[]}->
  (∀v h' tk,P (Bg bt (n-1)) v->(∀b o,b∉wr->b≠S->s.heap.get? b=some o->h'.get? b=some o)->R (.ok (.ret v)) {s with heap:=h',toks:=tk})->
  mX (aN prog w) A (.builtin "max.loop" ⟨[.ref I,.none,.ref S],[(dk,dv)]⟩) R s:=by
 have KS:S∉wr:=fun h=>yc (W.sub _ h)
 have BI:(toString "max"++toString ".loop" : String) = "max.loop":=by decide
 intro k
 induction k with
 |zero=>
  intro j s vb c hk hj eY KO hS hR
  have yl:j+1=n:=by omega
  refine Jc ack ?_
  rw[HS A8 _]
  show aK _ A.in1 (seqItems? (.ref S) >>= _) _ _ s
  refine aF (HQ hS rfl ?_)
  show aK _ A.in1 (tryCatch (qB (.ref I)) _ >>= _) _ _ s
  refine aF (Nn (W.done s _ _ (yl▸eY) fun h' tk fM=>?_))
  have qb:=fM S _ KS hS
  show aK _ A.in1 (HK S (fun _=>#[]) >>= _) _ _ _
  refine aF ?_
  refine CV qb rfl (aF (CS (bJ ?_)))
  refine hR vb _ tk (by rw[<- yl];exact KO) fun b o rY uQ e=>(pU _ _ (dB uQ)).trans (fM b o rY e)
 |succ k ih=>
  intro j s vb c hk hj eY KO hS hR
  have bQ:j+1<n:=by omega
  refine Jc ack ?_
  rw[HS A8 _]
  show aK _ A.in1 (seqItems? (.ref S) >>= _) _ _ s
  refine aF (HQ hS rfl ?_)
  show aK _ A.in1 (tryCatch (qB (.ref I)) _ >>= _) _ _ s
  refine aF (Nn (W.item (j+1) s _ _ bQ eY fun v h' tk hP BU fM=>?_))
  have qb:=fM S _ KS hS
  show aK _ A.in1 (tryCatch (BL [v,v] (richCompare .Gt v vb >>= _)) _ >>= _) _ _ _
  refine aF (Nn (jS (aF (Vm (j+1) (Bg bt j) v vb _ _ _ hP KO ?_))))
  refine aF (jS (qZ ?_))
  refine aF (CS (bJ ?_))
  cases hb:bt (j+1) (Bg bt j) with
  |true=>
   simp only[if_true]
   refine aF ?_
   refine CV qb rfl (aF (CS ?_))
   rw[BI]
   refine bJ ⟨Gd A8 _,ih (j+1) _ v _ (by omega) bQ (W.frame _ _ _ BU fun b Vj o e=>?_) (by simp only[Bg,hb,if_true];exact hP) (AU _ qb rfl)
    fun v' ya HF Ew EK=>?_⟩
   ·exact(pU _ _ (fun h:S=b=>yc (by rw[h];exact Vj))).trans e
   ·exact hR v' ya HF Ew fun b o rY uQ e=>EK b o rY uQ ((pU _ _ (dB uQ)).trans (fM b o rY e))
  |false=>
   simp only[lN,if_false]
   refine aF (CS ?_)
   rw[BI]
   refine bJ ⟨Gd A8 _,ih (j+1) _ vb c (by omega) bQ BU (by simp only[Bg,hb,lN,if_false];exact KO) qb fun v' ya HF Ew EK=>?_⟩
   exact hR v' ya HF Ew fun b o rY uQ e=>EK b o rY uQ (fM b o rY e)
theorem aqN(W:Walks prog w A.in1 I fp wr n P St)(bt:Nat->Nat->Bool)(Vm:CmpOf prog w A.in1 .Gt P bt)(S:aa)(yc:S∉fp){s:aB}{c:Nat}(eY:St 0 s.heap)
  (hS:s.heap.get? S=some {cls:=.type "list",dict:=none,data:=.seq #[] c,slots:=#[]})
  (hR0:n=0->∀h' tk,(∀b o,b∉wr->b≠S->s.heap.get? b=some o->h'.get? b=some o)->R (.ok (.ret dv)) {s with heap:=h',toks:=tk})
  (hR:0<n->∀v h' tk,P (Bg bt (n-1)) v->(∀b o,b∉wr->b≠S->s.heap.get? b=some o->h'.get? b=some o)->R (.ok (.ret v)) {s with heap:=h',toks:=tk}) :
  mX (aN prog w) A (.builtin "max.loop" ⟨[.ref I,.none,.ref S],[(dk,dv)]⟩) R s:=by
 have KS:S∉wr:=fun h=>yc (W.sub _ h)
 have BI:(toString "max"++toString ".loop" : String) = "max.loop":=by decide
 refine Jc ack ?_
 rw[HS A8 _]
 show aK _ A.in1 (seqItems? (.ref S) >>= _) _ _ s
 refine aF (HQ hS rfl ?_)
 show aK _ A.in1 (tryCatch (qB (.ref I)) _ >>= _) _ _ s
 by_cases hn:n=0
 ·refine aF (Nn (W.done s _ _ (by rw[hn];exact eY) fun h' tk fM=>?_))
  exact aF (qY (bJ (hR0 hn h' tk fun b o hb _ e=>fM b o hb e)))
 ·have yq:0<n:=Nat.pos_of_ne_zero hn
  refine aF (Nn (W.item 0 s _ _ yq eY fun v h' tk hP BU fM=>?_))
  have qb:=fM S _ KS hS
  show aK _ A.in1 (HK S (fun _=>#[v,v]) >>= _) _ _ _
  refine aF ?_
  refine CV qb rfl ?_
  rw[BI]
  refine bJ ⟨Gd A8 _,aqO W bt Vm S yc _ 0 _ v _ rfl yq (W.frame _ _ _ BU fun b Vj o e=>?_) hP (AU _ qb rfl) fun v' ya HF Ew EK=>?_⟩
  ·exact(pU _ _ (fun h:S=b=>yc (by rw[h];exact Vj))).trans e
  ·exact hR yq v' ya HF Ew fun b o rY uQ e=>EK b o rY uQ ((pU _ _ (dB uQ)).trans (fM b o rY e))
end
theorem anh(a v:ao):argsOk "max" ⟨[a],[(rN "default",v)]⟩:=by unfold argsOk;kernel_rfl
theorem anu(hc:X.calm=true):abu X (.builtin "max") [rN "default"] (fun xs zs H Q=>∃(x:V) (ns:List Int) (dz:V),xs=[x]/\zs=[dz]/\zE X.K H x (ns.map V.int)/\(ns=[]->Q dz H)/\(ns≠[]->∀M:Int,M∈ns->(∀a∈ns,a<=M)->Q (.int M) H)):=by
 intro ah s σ H xs zs us ws Q I r rz h
 obtain⟨x,ns,dz,rfl,rfl,hs,q0,q1⟩:=h
 obtain⟨u,rfl,ru⟩:=vals1 r
 obtain⟨w0,rfl,rw0⟩:=vals1 rz
 obtain⟨d,oI,St,hd,it,W,st⟩:=I.src (A:=X.A.in1) (I.ok.hd hc) ru hs
 rw[aC]at W
 have BI:(toString "max"++toString ".loop" : String) = "max.loop":=by decide
 show aK _ _ (call (.builtin "max") [u] [(rN "default",w0)]) _ _ s
 refine anw PySem.F.kind_max PySem.F.plain_max PySem.F.entry_max (anh _ _) ?_
 show aK _ X.A.in1 (alG "max" ["key","default"] 0 ⟨[],[(rN "default",w0)]⟩ >>= _) _ _ s
 refine aF (wpAny_of_eq (show alG "max" ["key","default"] 0 ⟨[],[(rN "default",w0)]⟩=pure [none,some w0]from rfl) ?_)
 refine aF (bJ ?_)
 refine aF (it _ _ ?_)
 refine aF (aaZ ?_)
 have EG:=aay (s:=s) (oI:=oI) hd
 have yc:(s.heap.push oI).objs.size∉[s.heap.objs.size,d]:=fun hm=>mT _ (EG _ hm)
 rw[BI]
 have fin:∀(v:V) (u:ao) (h':bL) (tk:Nat),RelV v u->Q v H->(∀b o,b∉[s.heap.objs.size]->b≠(s.heap.push oI).objs.size->((s.heap.push oI).push {cls:=.type "list",data:=.seq ([]:List ao).toArray}).get? b=some o->h'.get? b=some o)->
   EP X ah σ Q u {s with heap:=h',toks:=tk}:=fun v u h' tk rv qv hk=>by
  refine⟨v,H,I.kept fun b o e=>?_,rv,qv⟩
  have bQ:=bV e
  refine hk b o (fun z=>by rw[gb.mp z]at bQ;exact mT _ bQ) (fun z=>?_) (cM _ (cM _ e))
  have hz:(s.heap.push oI).objs.size=s.heap.objs.size+1:=C8 ..
  rw[z,hz]at bQ
  exact absurd bQ (Nat.not_lt.mpr (uw _))
 refine bJ ⟨Gd A8 _,aqN W _ (CmpOf.ints_gt (fun i=>ns.getD i 0) (fun i v hP=>int_at hP)) (s.heap.push oI).objs.size yc (W.frame _ _ _ st fun b _ o e=>cM _ e) (gn _ rfl) (fun hn h' tk hk=>?_) fun hn v h' tk hP hk=>?_⟩
 ·exact fin dz w0 h' tk rw0 (q0 (abN.mp hn)) hk
 ·obtain⟨t,rfl⟩:=int_at hP
  obtain⟨b1,b2⟩:=argBest_gt (fun i=>ns.getD i 0) (ns.length-1)
  refine fin (.int _) _ h' tk ⟨t,rfl⟩ (q1 (fun z=>by rw[z]at hn;exact mT _ hn) _ (agO (by omega)) fun a ha=>?_) hk
  obtain⟨j,hj,rfl⟩:=ahm ha
  exact b2 j (by omega)
end
noncomputable def CI(xs:List V)(a m:Int):List V:=(aau (jj (some a) none (some m) xs.length).1 (jj (some a) none (some m) xs.length).2.1 (jj (some a) none (some m) xs.length).2.2).filterMap (xs[·]?)
theorem aaS{xs:List V}{us:List ao}(r:bu xs us):∀l:List Nat,bu (l.filterMap (xs[·]?)) (l.filterMap (us[·]?))
 | []=>.nil
 |i::l=>by
  rw[nK,nK]
  cases h:xs[i]? with
  |none=>rw[r.none_of h];exact aaS r l
  |some x=>
   obtain⟨u,h1,h2⟩:=r.get h
   rw[h1]
   exact .cons h2 (aaS r l)
theorem axU(xs:List V){a m:Int}(ha:0<=a)(hm:1<=m):(CI xs a m).length<=xs.length:=by
 unfold CI
 refine fP (abO _ _) (sliceRange_length_le _ _ _ xs.length (fun _=>?_) fun h=>absurd (show(jj (some a) none (some m) xs.length).2.2>0 from(by simp only[jj,ux];omega)) h)
 have hp:m>0:=by omega
 simp only[jj,ux,hp,if_true]
 constructor<;>omega
section
variable{X:Cx}{ah:List (aa×Obj)}{σ:St}{H:Hp}{s:aB}
noncomputable def ak7(K:bG)(te tl ts:TE):TE:=fun σ H Q=>te σ H fun x H1=>tl σ H1 fun l H2=>ts σ H2 fun y H3=>∃i c:Int,l=.int i/\y=.int c/\0<=i/\1<=c/\∃a xs,x=.ref a/\dO K H3 a xs/\∀p,H3 p=none->Q (.ref p) (upd H3 p (.lst (CI xs i c)))
theorem ajh{K:bG}{e lo st:aZ}{te tl ts:TE}{p2 pos:Pos}(hK:X.K=K)(he:PE X e te)(hl:PE X lo tl)(hs:PE X st ts):PE X (.Subscript e (.Slice (some lo) none (some st) p2) pos) (ak7 K te tl ts):=by
 subst hK
 intro ah s σ H Q I h
 refine DB (aV (he ah s σ H _ I h) fun v s1 ⟨x,H1,I1,r1,q1⟩=>?_)
 refine Nl ?_
 rw[D5]
 refine aV (hl ah s1 σ H1 _ I1 q1) fun w0 s2 ⟨l,H2,I2,r2,q2⟩=>?_
 rw[D4]
 refine bJ ?_
 rw[D5]
 refine aV (hs ah s2 σ H2 _ I2 q2) fun w s3 ⟨y,H3,I3,r3,q3⟩=>?_
 obtain⟨i,c,rfl,rfl,hi,hc,a,xs,rfl,hx,q⟩:=q3
 cases r1
 obtain⟨t,rfl⟩:=r3
 obtain⟨t0,rfl⟩:=r2
 have I4:Inv X ah σ H3 {s3 with heap:=s3.heap.push {cls:=.type "slice",data:=.fields #[.int i t0,.none,.int c t]}}:=I3.kept (t':=s3.toks) fun b ob q=>cM _ q
 obtain⟨its,r,ht,hz⟩:=I4.list hx
 have bC:=r.length
 show aK (aN X.prog X.w) X.A (HB e (.Slice (some lo) none (some st) p2) (.ref a) (.ref s3.heap.objs.size)) (EP X ah σ Q) X.xe {s3 with heap:=s3.heap.push {cls:=.type "slice",data:=.fields #[.int i t0,.none,.int c t]}}
 refine tail_any (ops:=[.ref a,.ref s3.heap.objs.size]) ht.isList.typeIs aav.lookup ?_ (by with_unfolding_all rfl)
 refine aly ht.isList (Ik ..) (abE _ _) .none (abE _ _) (fun z=>by injection z with z;omega) ?_ (by rw[cV]<;>omega)
 refine⟨.ref _,_,I4.laid (t':=s3.toks) (o:=.lst (CI xs i c)) (fun b ob q=>cM _ q) (br _) ?_,rfl,q _ (I4.hok.fresh (br _))⟩
 refine⟨fP (axU xs hi hc) hz,(aau (jj (some i) none (some c) xs.length).1 (jj (some i) none (some c) xs.length).2.1 (jj (some i) none (some c) xs.length).2.2).filterMap (its[·]?),0,aaS r _,?_⟩
 have e:slicePick its.toArray (some i) none (some c)=((aau (jj (some i) none (some c) xs.length).1 (jj (some i) none (some c) xs.length).2.1 (jj (some i) none (some c) xs.length).2.2).filterMap (its[·]?)).toArray:=by
  unfold slicePick
  rw[cV,bC]
  simp
 rw[<- e]
 exact gn _ rfl
theorem aup{e lo st:aZ}{te tl ts:TE}{p2 pos:Pos}(he:PE X e te)(hl:PE X lo tl)(hs:PE X st ts):PE X (.Subscript e (.Slice (some lo) none (some st) p2) pos) (ak7 X.K te tl ts):=ajh rfl he hl hs
theorem Inv.aaM{h':bL}{t':Nat}{ch:List aa}(I:Inv X ah σ H s)(k:∀b o,b∉ch->s.heap.get? b=some o->h'.get? b=some o)(hf:∀b∈ch,iR X ah H b):Inv X ah σ H {s with heap:=h',toks:=t'}:=by
 have qq:∀b u,H b=some u->b∉ch:=fun b u e z=>by
  have:=(hf b z).1
  rw[e]at this;cases this
 refine I.step (g':=s.gens) (d':=s.drawn) (ch:=ch) (fun b hb=>?_) (fun b o _ _ hc e _=>k b o hc e) (fun b o _ _ hc e _=>⟨o.slots,k b o hc e⟩) (fun _ _ _ _ n=>n)
  (fun b o hc e=>⟨o,k b o hc e⟩) (fun _ _ e=>e) (fun _ _ _ e=>e) (fun b ps e=>⟨#[],by rw[e];simp⟩) (fun m hm=>?_) (fun b u e=>?_) I.bare
 ·obtain⟨f0,f1,f2,f3,f4,f5⟩:=hf b hb
  exact⟨f3,f1,f4,f5⟩
 ·obtain⟨o,es,ep,ho,r⟩:=hm
  exact⟨o,es,ep,k _ o (fun z=>(hf _ z).2.1 rfl) ho,r⟩
 ·refine(I.hok b u e).stay (fun c v hc q=>k c v ?_ q) (fun _ q=>q) fun _ _ q=>q
  rcases hc with z | z
  ·rw[z];exact qq b u e
  ·exact qq c _ z
noncomputable def Dc(a b:aa)(xs ys:List V):It:=
 ⟨fun i H=>(i<xs.length/\i<ys.length)/\H a=some (.lst xs)/\H b=some (.lst ys),fun i H x H'=>∃y z t,xs[i]?=some y/\ys[i]?=some z/\H t=none/\x=.ref t/\H'=upd H t (.tup [y,z]),
  fun i H=>(xs.length<=i\/ys.length<=i)/\H a=some (.lst xs)/\H b=some (.lst ys)⟩
theorem ayL{P:cH}{w:cj}{K:bG}{p7:List aZ}{x1:Nat}{oM:Pos}(a b z TI TO i1 i2:aa)(xs ys:List V)(D:Bf z TI TO i1 i2 a b) :
  uE P w K (.Tuple p7 x1 oM) (Dc a b xs ys) [z,TI,TO,i1,i2] z (fun i h=>IsZip h z TI TO .none/\zg h TI (.ref i1) (.ref i2)/\(∃p q,zg h TO p q)/\h.IsListIter i1 a i/\h.IsListIter i2 b i) where
 mem:=by simp
 obj:=fun i h st c hc=>by
  obtain⟨h1,h2,⟨p,q,h3⟩,⟨o4,e4,c4,d4⟩,⟨o5,e5,c5,d5⟩⟩:=st
  simp only[dY,zm,or_false]at hc
  rcases hc with rfl | rfl | rfl | rfl | rfl
  ·exact⟨_,h1,fun v z=>by cases(show HW _=C1 v from z)⟩
  ·exact⟨_,h2,fun v z=>by cases(show Data.seq _ _=C1 v from z)⟩
  ·exact⟨_,h3,fun v z=>by cases(show Data.seq _ _=C1 v from z)⟩
  ·exact⟨_,e4,fun v z=>by rw[d4]at z;cases z⟩
  ·exact⟨_,e5,fun v z=>by rw[d5]at z;cases z⟩
 keep:=fun i h h' ⟨h1,h2,⟨p,q,h3⟩,h4,h5⟩ k=>⟨k z (by simp) _ h1,k TI (by simp) _ h2,⟨p,q,k TO (by simp) _ h3⟩,h4.at fun o e=>k i1 (by simp) o e,h5.at fun o e=>k i2 (by simp) o e⟩
 item:=by
  intro X hP hw hK hc i ah s σ H E I hf st hg
  subst hP hw hK
  obtain⟨h1,h2,⟨p,q,h3⟩,h4,h5⟩:=st
  obtain⟨⟨bQ,api⟩,ha,hb⟩:=hg
  obtain⟨z1,its,n,rv,bS⟩:=(show cD X.prog X.w H s.heap a (.lst xs)from I.hok a _ ha)
  obtain⟨z2,jy,n2,MH,cE⟩:=(show cD X.prog X.w H s.heap b (.lst ys)from I.hok b _ hb)
  have hx:xs[i]?=some xs[i]:=bZ bQ
  have hy:ys[i]?=some ys[i]:=bZ api
  obtain⟨u,hu,ru⟩:=rv.get hx
  obtain⟨v,hv,rv'⟩:=MH.get hy
  refine wpAny_pyNext_zip_item D h1 h2 h3 h4 h5 (xs:=its.toArray) (ys:=jy.toArray) ⟨_,bS,rfl,_,rfl⟩ ⟨_,cE,rfl,_,rfl⟩ (x:=u) (y:=v) (by simpa using hu) (by simpa using hv) fun h' g1 g2 g3 g4 g5 g6 g7=>?_
  refine⟨_,rfl,wpAny_letOwnedTupleGo_zip g1 fun ya k1 sb=>?_⟩
  have hzl:z<s.heap.objs.size:=bV h1
  have jM:ya.get? s.heap.objs.size=some {cls:=.type "tuple",data:=.seq #[u,v]}:=(sb.2 _ (kE hzl)).trans g5
  have fr:H s.heap.objs.size=none:=I.fresh
  have I3:Inv X ah σ (upd H s.heap.objs.size (.tup [xs[i],ys[i]])) {s with heap:=ya,toks:=s.toks}:=
   I.alk (ch:=[z,TI,TO,i1,i2]) (fun c o hc q=>(sb.2 c (fun z=>hc (by simp[z]))).trans (g7 c o (fun z=>hc (by simp[z])) (fun z=>hc (by simp[z])) (fun z=>hc (by simp[z])) (fun z=>hc (by simp[z])) q)) hf (br _)
    ⟨by show 2<=aX;decide,[u,v],.cons ru (.cons rv' .nil),_,jM,rfl,_,rfl⟩
  refine⟨.ref s.heap.objs.size,_,I3,rfl,⟨xs[i],ys[i],s.heap.objs.size,hx,hy,fr,rfl,rfl⟩,⟨k1,(sb.2 _ D.TIz).trans (g7 TI _ D.TIz D.TITO D.TIi1 D.TIi2 h2),⟨_,_,(sb.2 _ D.TOz).trans g2⟩,g3.at fun o e=>(sb.2 _ D.i1z).trans e,g4.at fun o e=>(sb.2 _ D.i2z).trans e⟩,fun c hc=>?_⟩
  rw[aA]
  ·exact(hf c hc).1
  ·obtain⟨o,ho,_⟩:∃o,s.heap.get? c=some o/\True:=by
    simp only[dY,zm,or_false]at hc
    obtain⟨o4,e4,_⟩:=id h4
    obtain⟨o5,e5,_⟩:=id h5
    rcases hc with rfl | rfl | rfl | rfl | rfl
    ·exact⟨_,h1,trivial⟩
    ·exact⟨_,h2,trivial⟩
    ·exact⟨_,h3,trivial⟩
    ·exact⟨_,e4,trivial⟩
    ·exact⟨_,e5,trivial⟩
   exact dw (bV ho)
 done:=by
  intro X hP hw hK hc i ah s σ H E I hf st hg
  subst hP hw hK
  obtain⟨h1,h2,⟨p,q,h3⟩,h4,h5⟩:=st
  obtain⟨fK,ha,hb⟩:=hg
  obtain⟨z1,its,n,rv,bS⟩:=(show cD X.prog X.w H s.heap a (.lst xs)from I.hok a _ ha)
  obtain⟨z2,jy,n2,MH,cE⟩:=(show cD X.prog X.w H s.heap b (.lst ys)from I.hok b _ hb)
  have e1:=rv.length
  have e2:=MH.length
  refine wpAny_pyNext_zip_end (I.ok.hd hc) D h1 h2 h3 h4 h5 (xs:=its.toArray) (ys:=jy.toArray) ⟨_,bS,rfl,_,rfl⟩ ⟨_,cE,rfl,_,rfl⟩ (by rcases fK with g | g;exact .inl (by simp;omega);exact .inr (by simp;omega)) fun h' g7=>⟨rfl,?_⟩
  exact I.aaM (t':=s.toks) (ch:=[z,TI,TO,i1,i2]) (fun c o hc q=>g7 c o (fun z=>hc (by simp[z])) (fun z=>hc (by simp[z])) (fun z=>hc (by simp[z])) (fun z=>hc (by simp[z])) q) hf
 self:=by
  intro A i s Q E ⟨h1,_⟩ h
  exact alC h1 h
noncomputable def ap4(t:TA):TI:=fun σ H R=>t σ H fun vs H1=>∃(a b:aa) (xs ys:List V),vs=[.ref a,.ref b]/\H1 a=some (.lst xs)/\H1 b=some (.lst ys)/\R (Dc a b xs ys) H1
theorem auy{p7:List aZ}{x1:Nat}{oM:Pos}{l1 l2:aZ}{t:TA}{p pos:Pos}(hg:Gl X "zip") (hm:X.mg "zip" = none) (ha:PA X [l1,l2] t) (hs:dR [l1,l2] X.env=(false,eval l1 X.env)::dR [l2] X.env:=by rfl) (jx:(jJ pos (dR [l2] X.env)).any (·.1)=false:=by rfl) :
  PI X (.Tuple p7 x1 oM) (.Call (.Name "zip" p) [l1,l2] [] pos) (ap4 t):=by
 intro ah s σ H R I h
 refine Call_ (qo I hg hm boot_zip (A7 (aV (ha pos ah s σ H _ I h) fun us s1 ⟨vs,H1,I1,r1,q1⟩=>?_) hs jx))
 obtain⟨a,b,xs,ys,rfl,hd,jw,q⟩:=q1
 obtain⟨u,v,rfl,ru,rv⟩:=vals2 r1
 cases ru
 cases rv
 obtain⟨z,its,n,rv,bS⟩:=(show cD X.prog X.w H1 s1.heap a (.lst xs)from I1.hok a _ hd)
 obtain⟨z2,jy,n2,MH,cE⟩:=(show cD X.prog X.w H1 s1.heap b (.lst ys)from I1.hok b _ jw)
 refine call_zip_2 (xs:=its.toArray) (ys:=jy.toArray) ⟨_,bS,rfl,_,rfl⟩ ⟨_,cE,rfl,_,rfl⟩ fun h' hz rW Ex K8 z4 _ hk=>?_
 refine alC hz ?_
 refine⟨_,_,_,_,H1,rfl,I1.kept (t':=s1.toks) hk,ayL a b _ _ _ _ _ xs ys (zipApart_new (bV bS) (bV cE)),⟨hz,rW,⟨_,_,Ex⟩,K8,z4⟩,fun c hc=>?_,q⟩
 have fK:s1.heap.objs.size<=c:=by
  simp only[dY,zm,or_false]at hc
  rcases hc with z | z | z | z | z
  ·rw[z];exact Dq _ 4
  ·rw[z];exact Dq _ 2
  ·rw[z];exact Dq _ 3
  ·rw[z];exact br _
  ·rw[z];exact Dq _ 1
 exact I1.p9 fK (I1.hok.fresh fK)
theorem aom{a b:aa}{xs ys:List V}{g:TG}{tb:TS}{D:Ends}{σ:St}{H:Hp}(Pv:Nat->St->Hp->Prop)(h0:Pv 0 σ H)(hl:∀i σ H,i<=min xs.length ys.length->Pv i σ H->H a=some (.lst xs)/\H b=some (.lst ys))
  (hs:∀i x y σ H t,xs[i]?=some x->ys[i]?=some y->Pv i σ H->H t=none->g (.ref t) σ (upd H t (.tup [x,y])) fun σ2 H2=>tb {D with nx:=Pv (i+1),ct:=Pv (i+1),bk:=D.nx} σ2 H2) (hd:∀σ H,Pv (min xs.length ys.length) σ H->D.nx σ H) :
  ∃W:Nat->Nat->St->Hp->Prop,(∃m,W 0 m σ H)/\∀i m σ H,W i m σ H->
   ((Dc a b xs ys).stop i H/\D.nx σ H)\/((Dc a b xs ys).go i H/\∃N:St->Hp->Prop,(∀σ' H',N σ' H'->∃m',m'<m/\W (i+1) m' σ' H')/\∀x H',(Dc a b xs ys).nG i H x H'->g x σ H' fun σ2 H2=>tb {D with nx:=N,ct:=N,bk:=D.nx} σ2 H2):=
 agy (n:=min xs.length ys.length) Pv h0 (fun i σ H hi p=>⟨⟨by omega,by omega⟩,hl i σ H (lG hi) p⟩) (fun σ H p=>⟨by omega,hl _ σ H (br _) p⟩)
  (fun i σ H x H' hi p y=>by
   obtain⟨y,z,t,e1,e2,e3,e4,e5⟩:=y
   subst e4 e5
   exact hs i y z σ H t e1 e2 p e3) hd
end
end L2
namespace Zp
open PySem PySem.Spec PyProof.Rows
noncomputable abbrev AW(h:bL)(z TI TO a:aa)(f:Bool):Prop:=
 h.get? z=some {cls:=.type "zip",dict:=none,data:=.fields #[Cz a,.bool f,.bool false,.ref TI,.ref TO],slots:=#[]}
section
variable{prog:cH}{w:cj}{A:cS}{E:ao->aB->Prop}{s:aB}
theorem agB{z TI TO a:aa}{f:Bool}{oa:Obj}{Q:Bool->aB->Prop}(hz:AW s.heap z TI TO a f)(ha:s.heap.get? a=some oa)
  (hQ:∀h',AW h' z TI TO a true->Il z s.heap h'->Q false {s with heap:=h'}):aK (aN prog w) A (Nt (.ref z)) Q E s:=by
 unfold Nt
 refine aF (qX hz rfl (x:=Cz a) rfl ?_)
 show aK _ _ (loadIfAlive ((a:Int).toNat) >>= _) _ _ _
 rw[Ip]
 refine aF (PySem.W.kdx_alive ha ?_)
 simp only[Option.isNone_some,lN,if_false]
 refine aF (qX hz rfl (x:=.bool f) rfl ?_)
 cases f with
 |true=>
  rw[if_neg (show ¬((uF true != uF true)=true)from gw)]
  exact bJ (hQ s.heap hz (Heap.SameBut.refl _ _))
 |false=>
  rw[if_pos (show(uF false != uF true)=true from rfl)]
  exact aF (wpAny_setField_rec hz (by simp) fun h₃ he₃ BV=>bJ (hQ h₃ he₃ BV))
theorem aq1{z TI TO i1 i2 l1 l2 a:aa}{f:Bool}{oa:Obj}{k:Nat}{xs ys:Array ao}{x y:ao}{Q:ao->aB->Prop}(D:Bf z TI TO i1 i2 l1 l2)
  (hz:AW s.heap z TI TO a f) (ha:s.heap.get? a=some oa) (rW:zg s.heap TI (.ref i1) (.ref i2))
  (h1:s.heap.IsListIter i1 l1 k) (h2:s.heap.IsListIter i2 l2 k) (cT:s.heap.IsList l1 xs) (cE:s.heap.IsList l2 ys) (hx:xs[k]?=some x) (hy:ys[k]?=some y)
  (hQ:∀h',AW h' z TI TO a true->h'.IsListIter i1 l1 (k+1)->h'.IsListIter i2 l2 (k+1)->zg h' s.heap.objs.size x y->h'.objs.size=s.heap.objs.size+1->
   (∀c o,c≠z->c≠i1->c≠i2->s.heap.get? c=some o->h'.get? c=some o)->Q (.ref s.heap.objs.size) {s with heap:=h'}) :
  aK (aN prog w) A (Builtin.«zip.__next__» ⟨[.ref z],[]⟩) (fun fin s'=>∃v,fin=.done (.ret v)/\Q v s') E s:=by
 show aK _ _ (field (.ref z) 2 >>= _) _ _ _
 refine aF (qX hz rfl (x:=.bool false) rfl ?_)
 show aK _ _ (field (.ref z) 3 >>= _) _ _ _
 refine aF (qX hz rfl (x:=.ref TI) rfl ?_)
 refine aF (HQ rW rfl ?_)
 show aK _ _ (Nt (.ref z) >>= _) _ _ _
 refine aF (agB hz ha fun h₁ hz₁ mq=>?_)
 simp only[lN,if_false]
 refine aF ?_
 rw[<- Np]
 simp only[abJ,List.forIn_nil]
 refine aF (aF (jS ?_))
 show aK _ _ (Nr (.ref i1) >>= _) _ _ _
 refine aF (alB (h1.extBut mq.extBut D.i1z) (cT.extBut mq.extBut D.l1z) hx fun h₂ h1₂ qg=>bJ (bJ ?_))
 refine aF (aF (jS ?_))
 show aK _ _ (Nr (.ref i2) >>= _) _ _ _
 refine aF (alB ((h2.extBut mq.extBut D.i2z).extBut qg.extBut D.i12.symm) ((cE.extBut mq.extBut D.l2z).extBut qg.extBut D.l2i1) hy fun h₃ h2₃ BV=>bJ (bJ (bJ ?_)))
 refine aF (alA ?_ (by show 2<=aX;decide))
 have hsz:h₃.objs.size=s.heap.objs.size:=by rw[BV.1,qg.1,mq.1]
 refine bJ ⟨_,rfl,?_⟩
 show Q (.ref h₃.objs.size) _
 rw[hsz]
 have up:∀c o,c≠z->c≠i1->c≠i2->s.heap.get? c=some o->(h₃.push {cls:=.type "tuple",data:=.seq #[x,y]}).get? c=some o:=fun c o c1 c2 c3 e=>cM _ (BV.extBut _ _ c3 (qg.extBut _ _ c2 (mq.extBut _ _ c1 e)))
 refine hQ _ (cM _ (BV.extBut _ _ D.i2z.symm (qg.extBut _ _ D.i1z.symm hz₁))) ((h1₂.extBut BV.extBut D.i12).at fun o e=>cM _ e) (h2₃.at fun o e=>cM _ e) ?_ ?_ up
 ·rw[<- hsz];exact gn _ rfl
 ·rw[<- hsz];exact C8 ..
theorem anY{z TI TO i1 i2 l1 l2 a:aa}{f:Bool}{oa:Obj}{k:Nat}{xs ys:Array ao}{Q:Op->aB->Prop}(hh:A.handled=none)(D:Bf z TI TO i1 i2 l1 l2)
  (hz:AW s.heap z TI TO a f) (ha:s.heap.get? a=some oa) (rW:zg s.heap TI (.ref i1) (.ref i2))
  (h1:s.heap.IsListIter i1 l1 k) (h2:s.heap.IsListIter i2 l2 k) (cT:s.heap.IsList l1 xs) (cE:s.heap.IsList l2 ys) (K4:xs[k]?=none\/ys[k]?=none)
  (hE:∀h' e,(∀c o,c≠z->c≠i1->c≠i2->s.heap.get? c=some o->h'.get? c=some o)->(∃o,h'.get? e=some o/\o.cls=.type "StopIteration")->E (.ref e) {s with heap:=h'}) :
  aK (aN prog w) A (Builtin.«zip.__next__» ⟨[.ref z],[]⟩) Q E s:=by
 show aK _ _ (field (.ref z) 2 >>= _) _ _ _
 refine aF (qX hz rfl (x:=.bool false) rfl ?_)
 show aK _ _ (field (.ref z) 3 >>= _) _ _ _
 refine aF (qX hz rfl (x:=.ref TI) rfl ?_)
 refine aF (HQ rW rfl ?_)
 show aK _ _ (Nt (.ref z) >>= _) _ _ _
 refine aF (agB hz ha fun h₁ hz₁ mq=>?_)
 simp only[lN,if_false]
 refine aF ?_
 rw[<- Np]
 simp only[abJ,List.forIn_nil]
 refine aF (aF (jS ?_))
 show aK _ _ (Nr (.ref i1) >>= _) _ _ _
 cases hx:xs[k]? with
 |none=>
  refine aF (wpAny_nextOf_list_end hh (h1.extBut mq.extBut D.i1z) (cT.extBut mq.extBut D.l1z) hx fun h₂ e qg he=>?_)
  exact hE h₂ e (fun c o c1 c3 _ x=>qg _ _ c3 (mq.extBut _ _ c1 x)) he
 |some x=>
  have hy:ys[k]?=none:=by rcases K4 with h | h;rw[hx]at h;cases h;exact h
  refine aF (alB (h1.extBut mq.extBut D.i1z) (cT.extBut mq.extBut D.l1z) hx fun h₂ h1₂ qg=>bJ (bJ ?_))
  refine aF (aF (jS ?_))
  show aK _ _ (Nr (.ref i2) >>= _) _ _ _
  refine aF (wpAny_nextOf_list_end hh ((h2.extBut mq.extBut D.i2z).extBut qg.extBut D.i12.symm) ((cE.extBut mq.extBut D.l2z).extBut qg.extBut D.l2i1) hy fun h₄ e hs₄ he=>?_)
  exact hE h₄ e (fun c o c1 c3 c4 x=>hs₄ _ _ c4 (qg.extBut _ _ c3 (mq.extBut _ _ c1 x))) he
noncomputable def uH(h:bL)(z TI TO i1 i2 l1 l2 S:aa)(i:Nat):Prop:=
 zg h TI (.ref i1) (.ref i2)/\(∃p q,zg h TO p q)/\h.IsListIter i1 l1 i/\h.IsListIter i2 l2 i/\(IsZip h z TI TO .none\/∃a f oa,AW h z TI TO a f/\h.get? a=some oa/\a≠z/\a≠i1/\a≠i2/\a≠S)
theorem uH.keep{h h':bL}{z TI TO i1 i2 l1 l2 S:aa}{i:Nat}(x:uH h z TI TO i1 i2 l1 l2 S i)(hk:∀b o,b≠S->h.get? b=some o->h'.get? b=some o)(n:z≠S/\TI≠S/\TO≠S/\i1≠S/\i2≠S):uH h' z TI TO i1 i2 l1 l2 S i:=by
 obtain⟨a1,⟨p,q,a2⟩,a3,a4,a5⟩:=x
 refine⟨hk _ _ n.2.1 a1,⟨p,q,hk _ _ n.2.2.1 a2⟩,a3.at fun o e=>hk _ o n.2.2.2.1 e,a4.at fun o e=>hk _ o n.2.2.2.2 e,?_⟩
 rcases a5 with a5 | ⟨a,f,oa,b1,b2,b3,b4,b5,b6⟩
 ·exact .inl (hk _ _ n.1 a5)
 ·exact .inr ⟨a,f,oa,hk _ _ n.1 b1,hk _ _ b6 b2,b3,b4,b5,b6⟩
theorem aze{z TI TO i1 i2 l1 l2 S:aa}{i:Nat}{xs ys:Array ao}{x y:ao}{Q:Option ao->aB->Prop}(D:Bf z TI TO i1 i2 l1 l2)(st:uH s.heap z TI TO i1 i2 l1 l2 S i)(hS:S<s.heap.objs.size)
  (cT:s.heap.IsList l1 xs) (cE:s.heap.IsList l2 ys) (hx:xs[i]?=some x) (hy:ys[i]?=some y)
  (hQ:∀h',uH h' z TI TO i1 i2 l1 l2 S (i+1)->zg h' s.heap.objs.size x y->h'.objs.size=s.heap.objs.size+1->(∀c o,c≠z->c≠TO->c≠i1->c≠i2->s.heap.get? c=some o->h'.get? c=some o)->Q (some (.ref s.heap.objs.size)) {s with heap:=h'}) :
  aK (aN prog w) A (qB (.ref z)) Q E s:=by
 obtain⟨a1,⟨p,q,a2⟩,a3,a4,a5⟩:=st
 have lt1:i1<s.heap.objs.size:=by obtain⟨_,e,_⟩:=a3;exact bV e
 have lt2:i2<s.heap.objs.size:=by obtain⟨_,e,_⟩:=a4;exact bV e
 rcases a5 with a5 | ⟨a,f,oa,b1,b2,b3,b4,b5,b6⟩
 ·refine wpAny_pyNext_zip_item D a5 a1 a2 a3 a4 cT cE hx hy fun h' g1 g2 g3 g4 g5 g6 g7=>hQ h' ⟨g7 _ _ D.TIz D.TITO D.TIi1 D.TIi2 a1,⟨_,_,g2⟩,g3,g4,.inr ⟨s.heap.objs.size,false,_,g1,g5,kE (bV a5),kE lt1,kE lt2,kE hS⟩⟩ g5 g6 g7
 ·have hT:s.TypeIs (.ref z) "zip":=⟨_,b1,rfl⟩
  unfold qB
  refine aF (aaV (aaX (name:=rN "__next__") hT IQ
   (AI IQ hT am0 (aq1 D b1 b2 a1 a3 a4 cT cE hx hy fun h' g1 g2 g3 g4 g5 g6=>bJ (hQ h' ⟨g6 _ _ D.TIz D.TIi1 D.TIi2 a1,⟨p,q,g6 _ _ D.TOz D.TOi1 D.TOi2 a2⟩,g2,g3,.inr ⟨a,true,oa,g1,g6 a oa b3 b4 b5 b2,b3,b4,b5,b6⟩⟩ g4 g5 fun c o c1 _ c3 c4 e=>g6 c o c1 c3 c4 e)) (amX _))))
theorem azc{z TI TO i1 i2 l1 l2 S:aa}{i:Nat}{xs ys:Array ao}{Q:Option ao->aB->Prop}(hh:A.handled=none)(D:Bf z TI TO i1 i2 l1 l2)(st:uH s.heap z TI TO i1 i2 l1 l2 S i)
  (cT:s.heap.IsList l1 xs) (cE:s.heap.IsList l2 ys) (K4:xs[i]?=none\/ys[i]?=none)
  (hQ:∀h',(∀c o,c≠z->c≠TO->c≠i1->c≠i2->s.heap.get? c=some o->h'.get? c=some o)->Q none {s with heap:=h'}) :
  aK (aN prog w) A (qB (.ref z)) Q E s:=by
 obtain⟨a1,⟨p,q,a2⟩,a3,a4,a5⟩:=st
 rcases a5 with a5 | ⟨a,f,oa,b1,b2,b3,b4,b5,b6⟩
 ·exact wpAny_pyNext_zip_end hh D a5 a1 a2 a3 a4 cT cE K4 hQ
 ·have hT:s.TypeIs (.ref z) "zip":=⟨_,b1,rfl⟩
  unfold qB
  refine aF (aaV (aaX (name:=rN "__next__") hT IQ
   (AI IQ hT am0 (anY hh D b1 b2 a1 a3 a4 cT cE K4 fun h' e hk he=>?_) (amX _))))
  obtain⟨o,ho,hc⟩:=he
  refine aF (wpAny_isInstance (T:="StopIteration") (b:=true) ⟨o,ho,hc⟩ isSubtype_stop ?_)
  exact bJ (hQ _ fun c o c1 _ c3 c4 e=>hk c o c1 c3 c4 e)
end
theorem azi:aaN (.type "zip") "__len__" = pure none:=by rw[typeLookup_type,builtinLookup_eq_fast];kernel_rfl
theorem azh:aaN (.type "zip") "__length_hint__" = pure none:=by rw[typeLookup_type,builtinLookup_eq_fast];kernel_rfl
structure ZG(xs ys:List ao)(lo:aa)(h:bL)(as:List aa):Prop where
 rise:as.Pairwise (· < ·)
 above:∀a∈as,lo<a
 pairs:∀(j:Nat) (a:aa),as[j]?=some a->∃x y,xs[j]?=some x/\ys[j]?=some y/\h.get? a=some {cls:=.type "tuple",data:=.seq #[x,y]}
theorem ZG.there{xs ys:List ao}{lo:aa}{h:bL}{as:List aa}(g:ZG xs ys lo h as){a:aa}(ha:a∈as):a<h.objs.size:=by
 obtain⟨j,hj⟩:=N6.mp ha
 obtain⟨_,_,_,_,e⟩:=g.pairs j a hj
 exact bV e
section
variable{prog:cH}{w:cj}{A:cS}{s:aB}{R:zC->aB->Prop}{xs ys:List ao}
theorem azf{S z TI TO i1 i2 l1 l2 lo:aa}(hh:A.handled=none)(D:Bf z TI TO i1 i2 l1 l2)(n:z≠S/\TI≠S/\TO≠S/\i1≠S/\i2≠S)(KP:l1≠S)(KQ:l2≠S)(iX:S<=lo/\z<=lo/\TO<=lo/\i1<=lo/\i2<=lo)(hn:xs.length<=aX)(res:ao){h₁:bL}
  (hR:∀h' tk aE c as,(∀b o,b≠S->b≠z->b≠TO->b≠i1->b≠i2->h₁.get? b=some o->h'.get? b=some o)->h'.get? S=some {cls:=.type "list",dict:=none,data:=.seq aE c,slots:=#[]}->as.length=min xs.length ys.length->ZG xs ys lo h' as->
   aE.toList=as.map cI->R (.ok (.ret res)) {s with heap:=h',toks:=tk}) :
  ∀(k i:Nat) (h:bL) (tk c:Nat) (aE:Array ao) (as:List aa),min xs.length ys.length-i=k->i<=min xs.length ys.length->uH h z TI TO i1 i2 l1 l2 S i->h.IsList l1 xs.toArray->h.IsList l2 ys.toArray->(∀b o,b≠S->b≠z->b≠TO->b≠i1->b≠i2->h₁.get? b=some o->h.get? b=some o)->
   h.get? S=some {cls:=.type "list",dict:=none,data:=.seq aE c,slots:=#[]}->aE.toList=as.map cI->as.length=i->ZG xs ys lo h as->lo<h.objs.size->
   mX (aN prog w) A (.builtin "list.extend.loop" ⟨[.ref S,.ref z,res],[]⟩) R {s with heap:=h,toks:=tk}:=by
 intro k
 induction k with
 |zero=>
  intro i h tk c aE as hk hi eY cT cE VF hS pA Ez hG U4
  refine Jc amZ ?_
  rw[HS Om _]
  show aK _ A.in1 (qB (.ref z) >>= _) _ _ _
  refine aF (azc (s:={s with heap:=h,toks:=tk}) (A:=A.in1) hh D eY cT cE (by
   by_cases hc:xs.length<=i
   ·exact .inl (by simp;omega)
   ·exact .inr (by simp;omega)) fun h' he=>?_)
  refine bJ (hR h' tk aE c as (fun b o h1 h2 h3 h4 h5 e=>he b o h2 h3 h4 h5 (VF b o h1 h2 h3 h4 h5 e)) (he S _ (dB n.1) (dB n.2.2.1) (dB n.2.2.2.1) (dB n.2.2.2.2) hS) (by omega) ⟨hG.rise,hG.above,fun j a hj=>?_⟩ pA)
  obtain⟨x,y,e1,e2,e3⟩:=hG.pairs j a hj
  have Ey:=hG.above a (eB hj)
  have ne:∀ {q:aa},q<=lo->a≠q:=fun hq=>kE (Of hq Ey)
  exact⟨x,y,e1,e2,he a _ (ne iX.2.1) (ne iX.2.2.1) (ne iX.2.2.2.1) (ne iX.2.2.2.2) e3⟩
 |succ k ih=>
  intro i h tk c aE as hk hi eY cT cE VF hS pA Ez hG U4
  have apm:i<xs.length:=by omega
  have apn:i<ys.length:=by omega
  have hx:xs[i]?=some xs[i]:=bZ apm
  have hy:ys[i]?=some ys[i]:=bZ apn
  have hsz:aE.size=i:=by rw[<- lM,pA,aC,Ez]
  have U7:S<h.objs.size:=bV hS
  refine Jc amZ ?_
  rw[HS Om _]
  show aK _ A.in1 (qB (.ref z) >>= _) _ _ _
  refine aF (aze (s:={s with heap:=h,toks:=tk}) D eY U7 cT cE (x:=xs[i]) (y:=ys[i]) (by simpa using hx) (by simpa using hy) fun h' BU ht hz n8=>?_)
  dsimp only at ht hz n8 ⊢
  have qb:=n8 S _ (dB n.1) (dB n.2.2.1) (dB n.2.2.2.1) (dB n.2.2.2.2) hS
  have up:∀b o,b≠S->h'.get? b=some o->(h'.update S (eE (·.push (cI h.objs.size)))).get? b=some o:=fun b o hb e=>(pU _ _ (dB hb)).trans e
  show aK _ A.in1 (HK S (·.push (cI h.objs.size)) >>= _) _ _ _
  refine aF ?_
  refine CV qb rfl (bJ ⟨Gd Om _,ih (i+1) _ tk _ (aE.push (cI h.objs.size)) (as++[h.objs.size]) (by omega) (by omega) (BU.keep up n)
   (cT.at fun o e=>up l1 o KP (n8 l1 o D.l1z D.l1TO D.l1i1 D.l1i2 e)) (cE.at fun o e=>up l2 o KQ (n8 l2 o D.l2z D.l2TO D.l2i1 D.l2i2 e))
   (fun b o h1 h2 h3 h4 h5 e=>up b o h1 (n8 b o h2 h3 h4 h5 (VF b o h1 h2 h3 h4 h5 e))) (AU _ qb rfl) (by rw[xq,pA,fD];rfl) (by rw[bW,Ez];rfl) ⟨?_,?_,?_⟩ ?_⟩) (by rw[hsz];omega) (by show(aE.push (cI h.objs.size)).size<=aX+1;rw[Array.size_push,hsz];omega)
  ·refine abY.mpr ⟨hG.rise,List.pairwise_singleton _ _,fun a ha b hb=>?_⟩
   rw[gb.mp hb]
   exact hG.there ha
  ·intro a ha
   rcases lQ.mp ha with ha | ha
   ·exact hG.above a ha
   ·rw[gb.mp ha];exact U4
  ·intro j b hj
   rcases Og j as.length with h1 | h1 | h1
   ·rw[nM h1]at hj
    obtain⟨x',y',e1,e2,e3⟩:=hG.pairs j b hj
    have Ey:=hG.above b (eB hj)
    have ne:∀ {q:aa},q<=lo->b≠q:=fun hq=>kE (Of hq Ey)
    exact⟨x',y',e1,e2,up b _ (ne iX.1) (n8 b _ (ne iX.2.1) (ne iX.2.2.1) (ne iX.2.2.2.1) (ne iX.2.2.2.2) e3)⟩
   ·subst h1
    have hb:h.objs.size=b:=by simpa using hj
    subst hb
    exact⟨_,_,by rw[Ez];exact hx,by rw[Ez];exact hy,up _ _ (kE U7) ht⟩
   ·have aps:(as++[h.objs.size])[j]?=none:=xC (by rw[bW,abQ];omega)
    rw[aps]at hj;cases hj
  ·have e:(h'.update S (eE (·.push (cI h.objs.size)))).get? h.objs.size=_:=up _ _ (kE U7) ht
   exact IJ U4 (bV e)
end
section
variable{prog:cH}{w:cj}{A:cS}{E:ao->aB->Prop}{s:aB}{xs ys:List ao}
theorem azd{R:zC->aB->Prop}{S z TI TO i1 i2 l1 l2:aa}(hh:A.handled=none)(D:Bf z TI TO i1 i2 l1 l2)(n:z≠S/\TI≠S/\TO≠S/\i1≠S/\i2≠S)(KP:l1≠S)(KQ:l2≠S)(iX:z<=S/\TO<=S/\i1<=S/\i2<=S)(hn:xs.length<=aX)(res:ao)(c₀:Nat)
  (eY:uH s.heap z TI TO i1 i2 l1 l2 S 0) (hz0:∃o,s.heap.get? z=some o/\o.cls=.type "zip") (apG:∀(h:bL) (Q:ao->aB->Prop) (E:ao->aB->Prop) (s':aB),uH s'.heap z TI TO i1 i2 l1 l2 S 0->Q (.ref z) s'->aK (aN prog w) A.in1 (pyIter (.ref z)) Q E s')
  (cT:s.heap.IsList l1 xs.toArray) (cE:s.heap.IsList l2 ys.toArray) (hS:s.heap.get? S=some {cls:=.type "list",data:=.seq #[] c₀})
  (hR:∀h' tk aE c as,(∀b o,b≠S->b≠z->b≠TO->b≠i1->b≠i2->s.heap.get? b=some o->h'.get? b=some o)->h'.get? S=some {cls:=.type "list",dict:=none,data:=.seq aE c,slots:=#[]}->as.length=min xs.length ys.length->ZG xs ys S h' as->
   aE.toList=as.map cI->R (.ok (.ret res)) {s with heap:=h',toks:=tk}) :
  aK (aN prog w) A.in1 (CZ (.ref S) (.ref z) res)
   (fun fin s'=>match fin with | .done f=>R (.ok f) s' | .again c'=>c'.quiet=true/\mX (aN prog w) A c' R s') (fun e s'=>R (.error e) s') s:=by
 have hT:s.TypeIs (.ref z) "zip":=hz0
 unfold CZ
 refine aF (No hT ?_)
 have h1:abr (.ref S) (.ref z)=false:=by simp[abr,n.1.symm]
 have h2:(Be "zip" == Be "list")=false:=by decide
 have h3:(Be "zip" == Be "tuple")=false:=by decide
 simp only[h1,h2,h3,Bool.or_false,lN,if_false]
 refine aF (apG s.heap _ _ _ eY ?_)
 refine aF (jS ?_)
 unfold Builtin.List.listLengthHint
 refine aF (aa0 hT azi ?_)
 show aK _ A.in1 (specialOf (cI z) (rN "__length_hint__") >>= _) _ _ _
 refine aF (aa0 hT azh ?_)
 refine bJ ?_
 show aK _ A.in1 (rule "list.extend.makes-room" >>= fun _=>Builtin.List.listTouch (.ref S) >>= fun _=>
  again (.builtin "list.extend.loop" ⟨[.ref S,.ref z,res],[]⟩)) _ _ _
 refine aF (qY ?_)
 refine aF ?_
 show aK _ A.in1 (HK S (·.push .none) >>= fun _=>HK S (·.pop)) _ _ _
 refine aF (CV hS rfl ?_)
 have KU:=AU (eE (·.push lU)) hS rfl
 refine CV (hz:=by seq_fits) KU rfl ?_
 have hS₃:=AU (eE (·.pop)) KU rfl
 have nA:∀b o,b≠S->s.heap.get? b=some o->((s.heap.update S (eE (·.push lU))).update S (eE (·.pop))).get? b=some o:=
  fun b o hb e=>(pU _ _ (dB hb)).trans ((pU _ _ (dB hb)).trans e)
 have bQ:S<((s.heap.update S (eE (·.push lU))).update S (eE (·.pop))).objs.size:=by rw[NR,NR];exact bV hS
 refine bJ ⟨Gd Om _,azf (s:=s) (h₁:=s.heap) (lo:=S) hh D n KP KQ ⟨br _,iX.1,iX.2.1,iX.2.2.1,iX.2.2.2⟩ hn res hR _ 0 _ s.toks _ #[] [] rfl (fz _) (eY.keep nA n) (cT.at fun o e=>nA _ o KP e) (cE.at fun o e=>nA _ o KQ e) (fun b o h1 _ _ _ _ e=>nA b o h1 e) hS₃ rfl rfl
  ⟨amt,(fun _ ha=>nomatch ha),(fun j a hj=>by simp at hj)⟩ bQ⟩
end
end Zp
namespace L2
open PySem PySem.Spec PyProof.Rows
noncomputable def yU(H:Hp):List aa->List (V×V)->Hp
 |a::as,p::ps=>upd (yU H as ps) a (.tup [p.1,p.2])
 |_,_=>H
theorem Nd{H:Hp}{b:aa}:∀ {as:List aa} {ps:List (V×V)},b∉as->yU H as ps b=H b
 | [],_,_=>rfl
 |_::_,[],_=>rfl
 |a::as,p::ps,h=>by
  show upd (yU H as ps) a _ b=_
  rw[aA (fun e=>h (by rw[e];exact lR))]
  exact Nd fun m=>h (iS _ m)
theorem ali{H:Hp}{b:aa}{q:V×V}:∀ {as:List aa} {ps:List (V×V)} {j:Nat},as.Nodup->as[j]?=some b->ps[j]?=some q->yU H as ps b=some (.tup [q.1,q.2])
 | [],_,_,_,h,_=>by simp at h
 |_::_,[],_,_,_,h=>by simp at h
 |a::as,p::ps,0,nd,h1,h2=>by
  simp at h1 h2
  subst h1 h2
  exact au
 |a::as,p::ps,j+1,nd,h1,h2=>by
  obtain⟨n1,n2⟩:=nO.mp nd
  have pe:as[j]?=some b:=by simpa using h1
  show upd (yU H as ps) a _ b=_
  rw[aA (fun e=>n1 (by rw[<- e];exact eB pe))]
  exact ali n2 pe (by simpa using h2)
section
variable{X:Cx}{ah:List (aa×Obj)}{σ:St}{H:Hp}{s:aB}
noncomputable def ayd(t:TA):TE:=fun σ H Q=>t σ H fun vs H1=>∃(a b:aa) (xs ys:List V),vs=[.ref a,.ref b]/\H1 a=some (.lst xs)/\H1 b=some (.lst ys)/\
 ∀(l:aa) (ts:List aa) (H':Hp),ak H1 H'->H1 l=none->H' l=some (.lst (ts.map V.ref))->ts.length=min xs.length ys.length->(∀(j:Nat) (t:aa) (x y:V),ts[j]?=some t->xs[j]?=some x->ys[j]?=some y->H1 t=none/\H' t=some (.tup [x,y]))->Q (.ref l) H'
theorem aul{e1 e2:aZ}{t:TA}{p p2 pos pos2:Pos}(hc:X.calm=true)(hg:Gl X "list") (hm:X.mg "list" = none) (BE:Gl X "zip") (EO:X.mg "zip" = none) (ha:PA X [e1,e2] t)
  (hs:dR [e1,e2] X.env=(false,eval e1 X.env)::dR [e2] X.env:=by rfl) (jx:(jJ pos2 (dR [e2] X.env)).any (·.1)=false:=by rfl) :
  PE X (.Call (.Name "list" p) [.Call (.Name "zip" p2) [e1,e2] [] pos2] [] pos) (ayd t):=by
 intro ah s σ H Q I h
 refine AH (qo I hg hm iJ (A7 ?_ rfl rfl))
 show aK _ _ (spliced ((false,eval (.Call (.Name "zip" p2) [e1,e2] [] pos2) X.env)::[])) _ _ s
 refine Nv (Call_ (qo I BE EO boot_zip (A7 (aV (ha pos2 ah s σ H _ I h) fun us s1 ⟨vs,H1,I1,r1,q1⟩=>?_) hs jx)))
 obtain⟨a,b,xs,ys,rfl,hd,jw,q⟩:=q1
 obtain⟨u,v,rfl,ru,rv⟩:=vals2 r1
 cases ru
 cases rv
 obtain⟨z1,its,n1,rx,bS⟩:=(show cD X.prog X.w H1 s1.heap a (.lst xs)from I1.hok a _ hd)
 obtain⟨z2,jy,n2,ry,cE⟩:=(show cD X.prog X.w H1 s1.heap b (.lst ys)from I1.hok b _ jw)
 have La:s1.heap.IsList a its.toArray:=⟨_,bS,rfl,_,rfl⟩
 have Lb:s1.heap.IsList b jy.toArray:=⟨_,cE,rfl,_,rfl⟩
 refine call_zip_2 La Lb fun h' hz rW Ex K8 z4 hsz hk=>abw ?_
 have D:=zipApart_new (bV bS) (bV cE)
 generalize Lq:s1.heap.objs.size+4=z at hz D
 generalize hTI':s1.heap.objs.size+2=TI at hz rW D
 generalize hTO':s1.heap.objs.size+3=TO at hz Ex D
 generalize hi2':s1.heap.objs.size+1=i2 at rW z4 D
 generalize hi1':s1.heap.objs.size=i1 at *
 have ag9:z<h'.objs.size:=bV hz
 have apj:TI<h'.objs.size:=bV rW
 have ag7:TO<h'.objs.size:=bV Ex
 have z8:i1<h'.objs.size:=by obtain⟨_,e,_⟩:=K8;exact bV e
 have ag8:i2<h'.objs.size:=by obtain⟨_,e,_⟩:=z4;exact bV e
 have apk:a<h'.objs.size:=bV (hk _ _ bS)
 have apl:b<h'.objs.size:=bV (hk _ _ cE)
 refine callType_codes (Q₁:=fun obj s₁=>obj=.ref h'.objs.size/\s₁={s1 with heap:=h'.push {cls:=.type "list",data:=.seq #[]}}) PySem.F.called_list (PySem.F.typeCall_list_1 _) PySem.F.entry_list_init
  (code_list_new (s:={s1 with heap:=h'}) _ ⟨rfl,rfl⟩) fun obj s₁ h₁=>?_
 obtain⟨rfl,rfl⟩:=h₁
 have hS:(h'.push {cls:=.type "list",data:=.seq #[]}).get? h'.objs.size=some {cls:=.type "list",data:=.seq #[]}:=gn _ rfl
 refine⟨⟨_,hS,rfl⟩,PySem.F.args_list_init_2 _ _,?_⟩
 show aK _ _ (do let qu <- alH (.ref h'.objs.size);Builtin.List.listUpdate (.ref h'.objs.size) (fun _=>#[]);letGo qu.toList.reverse;CZ (.ref h'.objs.size) (.ref z) .none) _ _ _
 refine aF ?_
 unfold alH
 refine aF (HQ hS rfl (bJ ?_))
 show aK _ _ (HK h'.objs.size (fun _=>#[]) >>= fun _=>letGo (#[]:Array ao).toList.reverse >>= fun _=>CZ (.ref h'.objs.size) (.ref z) .none) _ _ _
 refine aF (CV hS rfl ?_)
 have KU:=AU (eE (fun _=>(#[]:Array ao))) hS rfl
 have nA:∀b o,h'.get? b=some o->((h'.push {cls:=.type "list",data:=.seq #[]}).update h'.objs.size (eE (fun _=>(#[]:Array ao)))).get? b=some o:=
  fun b o e=>(pU _ _ (kE (bV e))).trans (cM _ e)
 refine aF (CS ?_)
 refine Zp.azd (xs:=its) (ys:=jy) (A:=X.A.in1) (I1.ok.hd hc) D ⟨dw ag9,dw apj,dw ag7,dw z8,dw ag8⟩ (dw apk) (dw apl) ⟨lG ag9,lG ag7,lG z8,lG ag8⟩ (by rw[<- rx.length];exact z1) .none _
  ⟨nA _ _ rW,⟨_,_,nA _ _ Ex⟩,K8.at fun o e=>nA _ o e,z4.at fun o e=>nA _ o e,.inl (nA _ _ hz)⟩ ⟨_,nA _ _ hz,rfl⟩ (fun _ Q E s' st hq=>?_) (La.at fun o e=>nA _ o (hk _ o e)) (Lb.at fun o e=>nA _ o (hk _ o e)) KU fun h3 tk aE c as kp n9 bC hG pA=>⟨rfl,?_⟩
 ·obtain⟨_,_,_,_,a5⟩:=st
  rcases a5 with a5 | ⟨_,_,_,b1,_⟩
  ·exact alC a5 hq
  ·have hT:s'.TypeIs (.ref z) "zip":=⟨_,b1,rfl⟩
   refine wpAny_pyIter_slot hT am1 (AI am1 hT PySem.F.entry_zip_iter ?_ (PySem.F.args_zip_iter_1 _))
   show aK _ _ (ret (.ref z)) _ _ s'
   exact bJ ⟨_,rfl,"zip",_,hT,IQ.lookup,hq⟩
 -- yX has come
 have qu:∀c o,s1.heap.get? c=some o->h3.get? c=some o:=fun c o e=>by
  have bQ:c<i1:=by rw[<- hi1'];exact bV e
  exact kp c o (dw (IJ bQ z8)) (dw (gq bQ (by rw[<- Lq];omega))) (dw (gq bQ (by rw[<- hTO'];omega))) (dw bQ) (dw (gq bQ (by rw[<- hi2'];omega))) (nA c o (hk c o e))
 have ani:as.Nodup:=hG.rise.imp fun h=>dw h
 have frS:∀c,i1<=c->H1 c=none:=fun c hb=>I1.hok.fresh (by rw[hi1'];exact hb)
 have aiE:as.length=min xs.length ys.length:=by rw[bC,rx.length,ry.length]
 have aqD:h'.objs.size∉as:=fun m=>absurd (hG.above _ m) (mT _)
 have OI:∀c∈as,i1<=c:=fun c hc=>fP (lG z8) (lG (hG.above c hc))
 have smT:ak H1 (upd (yU H1 as (xs.zip ys)) h'.objs.size (.lst (as.map V.ref))):=fun c o e=>by
  have bQ:c<i1:=by rw[<- hi1'];exact I1.hok.lt e
  rw[aA (dw (IJ bQ z8)),Nd (fun m=>absurd (OI _ m) (Nat.not_le.mpr bQ))]
  exact e
 have alh:∀(j:Nat) (tt:aa) (x y:V),as[j]?=some tt->xs[j]?=some x->ys[j]?=some y->yU H1 as (xs.zip ys) tt=some (.tup [x,y]):=fun j tt x y h1 h2 h3=>
  ali (q:=(x,y)) ani h1 (N2.mpr ⟨h2,h3⟩)
 refine⟨.ref h'.objs.size,_,I1.aqr (t':=tk) (H':=upd (yU H1 as (xs.zip ys)) h'.objs.size (.lst (as.map V.ref))) qu (fun c o e=>?_) (fun c o hn eb=>?_),rfl,q _ as _ smT (frS _ (lG z8)) au aiE fun j tt x y h1 h2 h3=>⟨frS _ (OI _ (eB h1)),?_⟩⟩
 ·have bQ:c<i1:=by rw[<- hi1'];exact bV e
  rw[aA (dw (IJ bQ z8)),Nd (fun m=>absurd (OI _ m) (Nat.not_le.mpr bQ))]
 ·by_cases hbl:c=h'.objs.size
  ·subst hbl
   rw[au]at eb
   cases eb
   refine⟨by rw[aC,aiE];omega,as.map cI,c,?_,?_⟩
   ·have go:∀l:List aa,bu (l.map V.ref) (l.map cI):=fun l=>by
     induction l with
     |nil=>exact .nil
     |cons a l ih=>exact .cons rfl ih
    exact go _
   ·have:aE=(as.map cI).toArray:=by rw[<- pA]
    rw[<- this]
    exact n9
  ·rw[aA hbl]at eb
   by_cases hm:c∈as
   ·obtain⟨j,hj⟩:=N6.mp hm
    obtain⟨x',y',g1,g2,g3⟩:=hG.pairs j c hj
    obtain⟨x,hx,rxx⟩:=CN rx g1
    obtain⟨y,hy,ryy⟩:=CN ry g2
    rw[alh j c x y hj hx hy]at eb
    cases eb
    exact⟨by show 2<=aX;decide,[x',y'],.cons rxx (.cons ryy .nil),_,g3,rfl,_,rfl⟩
   ·rw[Nd hm]at eb
    obtain⟨ob,zz⟩:=(I1.hok c o eb).there
    rw[hn]at zz
    cases zz
 ·rw[aA (fun z=>aqD (by rw[<- z];exact eB h1))]
  exact alh j tt x y h1 h2 h3
end
end L2
namespace L2
open PySem PySem.Spec PyProof.Rows PySem.W
noncomputable def Bl(X:Cx)(A:cS)(N:List Str)(qual:Str)(scope:iI)(f:aa)(cd:ao)(cl:List (Str×aa))(s:aB)(H:Hp):Cx where
 prog:=X.prog
 w:=X.w
 K:=X.K
 mg:=X.mg
 base:=X.base
 A:=A.deeper (Oq qual scope s.heap.objs.size f cd cl)
 N:=N
 s₀:=s
 H₀:=H
 env:=Oq qual scope s.heap.objs.size f cd cl
 outer:=X.stack
 stack:=Oq qual scope s.heap.objs.size f cd cl::X.stack
 ex:=[]
 fn:=fun _=>false
 calm:=true
 pn:=[]
 xe:=fun _ _=>False
section
variable{X:Cx}{ah:List (aa×Obj)}{σ:St}{H:Hp}{s:aB}
theorem ap9{A:cS}{N:List Str}{cap:List (Option Nat)}{sc:iI}{qual x:Str}{f:aa}{cd u:ao}{v:V}{h':bL}{t':Nat}(S:pS X N cap sc)(I:Inv X ah σ H s)(hA:A.frames=some X.stack)(hh:A.handled=none)
  (hx:N[0]?=some x) (hl:sc.names.lookup x=some .local) (rv:RelV v u) (yr:h'.Ns s.heap.objs.size fun y=>([(x,u)]:List (Str×ao)).reverse.lookup y) (hk:∀b o,s.heap.get? b=some o->h'.get? b=some o) :
  Inv (Bl X A N qual sc f cd (fJ X.env.cells sc.names []) s H) [] ((fR cap σ).set 0 (some v)) H {s with heap:=h',toks:=t'}:=by
 have rR:∀x c,(fJ X.env.cells sc.names []).lookup x=some c->X.env.cells.lookup x=some c/\(x,pY)∈sc.names:=fun x c e=>by
  rcases DX _ _ e with z | z
  ·cases z
  ·exact z
 have vo:∀b:aa,b∉(Bl X A N qual sc f cd (fJ X.env.cells sc.names []) s H).ex:=fun b z=>absurd (show b∈([]:List aa)from z) (by simp)
 refine⟨⟨I.ok.mod,S.kind,rfl,rfl,br _,fun x y c h1 h2=>I.ok.inj x y c (rR x c h1).1 (rR y c h2).1,fun x hx=>?_,fun x c hf _=>absurd hf (by show ¬(false=true);decide),fun _=>hh,alD hA,.inr ⟨rfl,rfl⟩,fun b z=>absurd z (vo b),I.bs,fP I.ok.rQ I.sz,fun b _ _=>vo b,fun b z=>absurd z (vo b),I.stack,I.aaB⟩,
  rfl,I.bare,Un.kept hk,⟨_,yr,fun i y w e1 e2 e3=>?_⟩,fun x c e=>?_,I.hok.fresh (br _),fun x c e=>?_,fun p hp=>absurd (show p∈([]:List (aa×Obj))from hp) (by simp),I.hok.kept hk,?_⟩
 ·-- has
  have qi:sc.names.lookup x=some .cell\/sc.names.lookup x=some .free:=hx
  have hf:sc.names.lookup x=some .free:=by
   rcases qi with z | z
   ·exact absurd rfl (S.Mh _ (uD z))
   ·exact z
  have m:=uD hf
  obtain⟨c,hc⟩:=I.ok.has x (S.free _ m rfl)
  exact⟨c,xX hc _ _ (.inr m)⟩
 ·-- loc
  have o8:N[i]?=some y:=e1
  cases i with
  |zero=>
   rw[hx]at o8
   cases o8
   have kJ:w=v:=by
    cases hc:fR cap σ with
    |nil=>rw[hc]at e2;simp at e2
    |cons a l=>rw[hc]at e2;simp at e2;exact e2.symm
   subst kJ
   exact⟨u,rv,.inl ⟨hl,by simp⟩⟩
  |succ i=>
   have kJ:(fR cap σ)[i+1]?=some (some w):=by
    rw[abK (by omega)]at e2
    exact e2
   have hi:i+1<cap.length:=by
    have:=(iw.mp kJ).1
    unfold fR at this
    rwa[aC]at this
   have Jk:(cap[i+1]?).join.bind (fun j=>(σ[j]?).join)=some w:=by
    unfold fR at kJ
    rw[dG]at kJ
    cases hc:cap[i+1]? with
    |none=>rw[hc]at kJ;cases kJ
    |some o=>
     rw[hc]at kJ
     cases o with
     |none=>cases kJ
     |some j=>exact cY kJ
   cases hj:(cap[i+1]?).join with
   |none=>rw[hj]at Jk;cases Jk
   |some j=>
    rw[hj]at Jk
    obtain⟨hN,y',hy,hm,hlk⟩:=S.cap (i+1) (iG.mpr hi) j hj
    rw[o8]at hy
    cases hy
    have hσ:σ[j]?=some (some w):=by
     have e3:(σ[j]?).join=some w:=Jk
     cases hq:σ[j]? with
     |none=>rw[hq]at e3;cases e3
     |some o=>
      rw[hq]at e3
      have:o=some w:=e3
      rw[this]
    have U8:X.N[j]?=some y:=hN.trans o8
    have z6:=S.free _ hm rfl
    obtain⟨m,hn,ym⟩:=id I.loc
    obtain⟨u',r,l⟩:=ym j y w U8 hσ (by rcases z6 with z | z;exact .inr (.inl z);exact .inr (.inr z))
    refine⟨u',r,.inr ⟨.inr hlk,?_⟩⟩
    rcases l with⟨k,_⟩ | ⟨_,c,hc,o,ho,hd⟩
    ·have k':X.env.scope.names.lookup y=some .local:=k
     rcases z6 with z | z
     ·have z':X.env.scope.names.lookup y=some .cell:=z
      rw[k']at z';cases z'
     ·have z':X.env.scope.names.lookup y=some .free:=z
      rw[k']at z';cases z'
    ·exact⟨c,xX hc _ _ (.inr hm),o,hk c o ho,hd⟩
 ·-- cell
  obtain⟨v,o,ho,hd⟩:=I.cell x c (rR x c e).1
  exact⟨v,o,hk c o ho,hd⟩
 ·exact I.kK x c (rR x c e).1
 ·show((fR cap σ).set 0 (some v)).length=N.length
  unfold fR
  rw[uo,aC,S.len]
theorem au1{A:cS}{N:List Str}{cap:List (Option Nat)}{sc:iI}{qual x:Str}{params:HR}{body:aZ}{f c':aa}{pm ctv u:ao}{v:V}{tb:TE}{Q:VK}{E:ao->aB->Prop}(S:pS X N cap sc)(I:Inv X ah σ H s)(hA:A.frames=some X.stack)(hh:A.handled=none)
  (Vw:A.depth<aku) (hx:N[0]?=some x) (hl:sc.names.lookup x=some .local) (ED:sc.isCoroutine=false) (EI:sc.isGenerator=false)
  (ho:s.heap.get? f=some (LN "<lambda>" qual params body sc (fJ X.env.cells sc.names []) pm c' ctv)) (jd:s.heap.CodeRec (.ref c') qual)
  (zX:oX (kla_fn "<lambda>" qual params body sc (fJ X.env.cells sc.names []) pm (.ref c') ctv) ⟨[u],[]⟩=pure [(x,u)]) (rv:RelV v u)
  (hb:PE (Bl X A N qual sc f (.ref c') (fJ X.env.cells sc.names []) s H) body tb) (h:tb ((fR cap σ).set 0 (some v)) H Q) :
  aK (aN X.prog X.w) A (call (.ref f) [u]) (CE X.stack X.prog X.w H s Q) E s:=by
 refine aaW ?_
 refine kla_callFunE Vw ho rfl ED EI rfl jd ?_
 rw[zX]
 refine bJ (wpAny_newFunctionEnv S.Mh (fun y hy=>?_) (fun h₁ yr Lp=>⟨I.nolimit.keeps fun b o e=>Lp.extBut b o (dw (bV e)) (cM _ e),?_⟩) S.kind)
 ·rw[gb.mp hy];exact hl
 have hk₁:∀b o,s.heap.get? b=some o->h₁.get? b=some o:=fun b o e=>Lp.extBut b o (dw (bV e)) (cM _ e)
 have I1:=ap9 (A:=A) (qual:=qual) (f:=f) (cd:=.ref c') (t':=s.toks+([(x,u)]:List (Str×ao)).length) S I hA hh hx hl rv yr hk₁
 show mX _ _ (.expr body (Oq qual sc s.heap.objs.size f (.ref c') (fJ X.env.cells sc.names []))) _ _
 refine kla_codeExpr (iP (hb [] _ _ H Q I1 h) (fun r s' ⟨w,H',J,kW,q⟩=>?_) fun _ _ z=>jT z)
 exact⟨w,H',J.os,J.bare,J.base,J.hok,kW,q⟩
theorem aqI{N:List Str}{cap:List (Option Nat)}{sc:iI}{params:HR}{body:aZ}{pos:Pos}{c P:aa}{Q:ao->aB->Prop}(S:pS X N cap sc)(I:Inv X ah σ H s)(K0:X.env.code=.ref c)(C:CodeHd X.base c P)
  (hP:H P=some (.dU (X.env.qual++"<lambda>") pos)) (Vv:defaultsOf params X.env=([],[]))
  (h:∀(f c':aa) (ctv:ao) (s':aB) (H':Hp),Inv X ah σ H' s'->ak H H'->H' f=none->s.heap.objs.size<=f->s'.heap.get? f=some (LN "<lambda>" (X.env.qual++"<lambda>") params body sc (fJ X.env.cells sc.names []) ((X.mg "__name__").getD .none) c' ctv)->
   (∃ps:Array ao,s'.heap.get? P=some (tV ps)/\DY pos ps.toList=some (.ref c'))->Q (.ref f) s') :
  aK (aN X.prog X.w) X.A (eval (.Lambda params body sc pos) X.env) Q X.xe s:=by
 refine kla_eval Vv ?_
 obtain⟨ps,yt,ht,aoH⟩:=(show cD X.prog X.w H s.heap P (.dU (X.env.qual++"<lambda>") pos)from I.hok P _ hP)
 have inB:∀b o,X.base.get? b=some o->b≠P:=fun b o e z=>by
  have:=(I.bs b o e).2
  rw[z,hP]at this
  cases this
 have hgP:bx≠P:=by
  obtain⟨o,es,ep,e,_⟩:=I.ok.mod.glob
  exact inB _ o e
 obtain⟨bm,ob,b1,b2,b3,b4,b5,b6⟩:=I.ok.mod.bmod
 have hbG:bm≠mainGlobals:=fun z=>by
  obtain⟨o,es,ep,e,hd,_⟩:=I.ok.mod.glob
  rw[z,e]at b3
  cases b3
  rw[hd]at b6
  cases b6
 have hb:s.heap.BuiltinsAt X.mg P:=⟨bm,ob,b1,b2,hbG,inB _ _ b3,I.bk _ _ b3,b4,b5,b6⟩
 have hg:s.heap.Ns bx X.mg:=I.ok.mod.glob.keeps I.bk
 have C':=C.keeps I.bk
 cases hf:DY pos ps.toList with
 |some cv=>
  obtain⟨c1,rfl,o1,ne1,cr⟩:=aoH cv hf
  refine kla_makeFunctionHit (Jb S I) I.ok.glob hg K0 C' yt ht hf hb fun ctv h' tk hk hsz=>?_
  refine h h'.objs.size c1 ctv _ H (I.kept (t':=tk) fun b o e=>cM _ (hk b o e)) (ak.refl H) (I.hok.fresh hsz) hsz (gn _ rfl) ⟨ps,cM _ (hk _ _ yt),hf⟩
 |none=>
  refine kla_makeFunction (Jb S I) I.ok.glob hg K0 C' yt ht hf hgP hb fun c1 ctv h' tk hx fK bQ EY V5=>?_
  have BA:H c1=none:=I.hok.fresh fK
  have nP:P≠c1:=bf hP BA
  have sm:ak H (upd H c1 (.own P)):=(ak.refl H).upd BA
  have ps2:TriplesOk (ps++#[Cz pos.line,Cz pos.col,.ref c1]).toList:=by
   rw[pR]
   exact TriplesOk_snoc _ _ _ _ ht
  have am:DY pos (ps++#[Cz pos.line,Cz pos.col,.ref c1]).toList=some (.ref c1):=by
   rw[pR]
   exact codeAmong_snoc _ ht hf
  generalize VT:LN "<lambda>" (X.env.qual++"<lambda>") params body sc (fJ X.env.cells sc.names []) ((X.mg "__name__").getD .none) c1 ctv=ob'
  have akt:(h'.push ob').CodeRec (.ref c1) (X.env.qual++"<lambda>"):=by
   obtain⟨c2,oc,vs,tq,e0,e1,r⟩:=EY
   cases e0
   exact⟨_,oc,vs,tq,rfl,cM _ e1,r⟩
  have kp:∀b o,b≠P->s.heap.get? b=some o->(h'.push ob').get? b=some o:=fun b o hb e=>cM _ (hx b o hb e)
  have I2:Inv X ah σ (upd H c1 (.own P)) {s with heap:=h'.push ob',toks:=tk}:=by
   refine I.un (t':=tk) ⟨fun b o e n _ _=>kp b o (fun z=>by rw[z,hP]at n;cases n) e,fun b o e n _ _=>⟨o.slots,kp b o (fun z=>by rw[z,hP]at n;cases n) e⟩,fun b o e n _=>?_,fun b o e _=>?_,fun b xs e=>?_,fun b o u e=>?_,fun b qs e=>⟨#[],?_⟩⟩ fun b o e=>?_
   ·rw[aA (dw (gq (bV e) fK))];exact n
   ·by_cases z:b=P
    ·rw[z];exact⟨_,cM _ V5⟩
    ·exact⟨o,kp b o z e⟩
   ·exact sm b _ e
   ·exact sm b _ e
   ·rw[sm b _ e];simp
   ·by_cases z:b=c1
    ·subst z
     rw[au]at e
     cases e
     obtain⟨c2,oc,vs,tq,e0,e1,r⟩:=akt
     cases e0
     exact⟨_,e1⟩
    ·rw[aA z]at e
     by_cases y:b=P
     ·subst y
      rw[hP]at e
      cases e
      refine⟨_,cM _ V5,ps2,fun cv BB=>?_⟩
      rw[am]at BB
      cases BB
      exact⟨c1,rfl,au,dB nP,akt⟩
     ·refine(I.hok b o e).stay (fun c v hc q=>kp c v (fun w=>?_) q) (fun c q=>sm c _ q) fun c xs q=>sm c _ q
      rcases hc with hc | hc
      ·exact y (hc.symm.trans w)
      ·rw[w,hP]at hc;cases hc
  have hff:(upd H c1 (.own P)) h'.objs.size=none:=by
   rw[aA (kE bQ)]
   exact I.hok.fresh (fP fK (lG bQ))
  exact h h'.objs.size c1 ctv _ _ I2 sm hff (fP fK (lG bQ)) (by rw[<- VT];exact gn _ rfl) ⟨_,cM _ V5,am⟩
end
end L2
namespace DA
open PySem PyProof.Rows PySem.W
section
variable{prog:cH}{w:cj}{A:cS}{E:ao->aB->Prop}{s:aB}
theorem anZ{a kS:aa}{vs:List ao}{as:List aa}{ps:List (Int×Int)}{e e1:Nat}{key:Nat->Int}{P:Op->aB->Prop}(uZ:s.heap.get? a=some (dZ "list" #[] e1)) (hok:s.heap.get? kS=some (dZ "list" (as.map cI).toArray e)) (gM:a≠kS)
  (bC:as.length=vs.length) (hl:as.length=ps.length) (rT:vs.length<64)
  (ht:∀(j:Nat) (x:aa) (q:Int×Int),as[j]?=some x->ps[j]?=some q->∃o t u n,s.heap.get? x=some o/\o.cls=.type "tuple"/\o.data=.seq #[.int q.1 t,.int q.2 u] n)
  (EL:∀(i j:Nat) (p q:Int×Int),ps[i]?=some p->ps[j]?=some q->(key i<key j↔p.1<q.1\/(p.1=q.1/\p.2<q.2)))
  (fin:∀(p:Array Nat) (h':bL) (tk:Nat),Pm vs.length p->Up key p vs.length->(∀b o,b≠a->b≠kS->s.heap.get? b=some o->h'.get? b=some o)->(∃c,h'.get? a=some (dZ "list" (p.toList.map fun i=>vs.getD i lU).toArray c))->P (.done (.ret .none)) {s with heap:=h',toks:=tk}) :
  aK (aN prog w) A (ksk_end a false vs.toArray e1 (.ref kS) (as.map cI).toArray) P E s:=by
 have len:(as.map cI).length=vs.length:=(aC _).trans bC
 have item:∀i,i<vs.length->∃x q,as[i]?=some x/\ps[i]?=some q/\(as.map cI).getD i lU=.ref x:=fun i hi=>by
  have j4:i<as.length:=by omega
  refine⟨as[i],ps[i]'(by omega),bZ j4,bZ (by omega),?_⟩
  rw[eX,dG,bZ j4];rfl
 have tail:∀(st:cB) (p:Array Nat),(lV st).map (·.2)=(p.toList.map fun i=>vs.getD i lU).toArray->zP st=none->Pm vs.length p->Up key p vs.length->aK (aN prog w) A (ksk_tail a false e1 (.ref kS) st) P E s:=by
  intro st p Vf hf hp hu
  have hsz:(N9 (p.toList.map fun i=>vs.getD i lU)).size=vs.length:=by rw[cV,aC,lM,hp.size]
  unfold ksk_tail
  try dsimp only
  rw[Vf]
  refine aF (Aj hok rfl ?_ (by rw[cV,len,tK];omega) (fz _))
  refine aF (CS ?_)
  have s1:=abC s.heap kS (eE fun _=>(#[]:Array ao))
  have Zn:(s.heap.update kS (eE fun _=>(#[]:Array ao))).get? a=some (dZ "list" #[] e1):=(s1.2 a gM).trans uZ
  refine aF (aar Zn rfl ?_)
  refine aF (Aj Zn rfl ?_ (fz _) (by
   simp only[lN,if_false]
   rw[hsz,tK];omega))
  rw[hf]
  simp only[bne_self_eq_false,lN,if_false]
  have s2:=abC (s.heap.update kS (eE fun _=>(#[]:Array ao))) a (eE fun _=>(p.toList.map fun i=>vs.getD i lU).toArray)
  exact bJ (fin p _ _ hp hu (fun b o h1 h2 q=>(s2.2 b h1).trans ((s1.2 b h2).trans q)) ⟨_,UV Zn fun _=>(p.toList.map fun i=>vs.getD i lU).toArray⟩)
 unfold ksk_end
 simp only[lN,if_false]
 by_cases h2:vs.toArray.size<2
 ·rw[if_pos h2,if_pos h2]
  have pq:vs.length<2:=by rwa[cV]at h2
  refine aF (bJ ?_)
  rw[StateT.run_pure]
  refine aF (bJ ?_)
  try dsimp only
  refine tail _ (bT vs.length).toArray ?_ rfl (by show(N9 (bT vs.length)).toList.Perm _;simp) fun i j je hj=>?_
  ·show(((as.map cI).toArray.zip vs.toArray).map (·.2))=_
   have cT:as.length<2:=by omega
   match as,vs,bC,pq with
   | [],[],_,_=>simp
   | [x],[y],_,_=>simp
   | [],_::_,hh,_=>simp at hh
   |_::_,[],hh,_=>simp at hh
   | [_],_::_::_,hh,_=>simp at hh
   |_::_::_,_,hh,h3=>simp at hh;omega
  ·rw[show i=j by omega]
   exact mR _
 ·rw[if_neg h2,if_neg h2]
  have pq:2<=vs.length:=by rw[cV]at h2;omega
  have tups:∀(as:List aa) (ps:List (Int×Int)),as.length=ps.length->(∀(j:Nat) (x:aa) (q:Int×Int),as[j]?=some x->ps[j]?=some q->∃o t u n,s.heap.get? x=some o/\o.cls=.type "tuple"/\o.data=.seq #[.int q.1 t,.int q.2 u] n)->
    ∃fs:List ao,fs.length=as.length/\KatTups s.heap (as.map cI) fs/\∀v∈fs,∃(i:Int) (t:Tok),v=.int i t:=by
   intro as
   induction as with
   |nil=>intro ps _ _;exact⟨[],rfl,trivial,fun v hv=>nomatch hv⟩
   |cons x as ih=>
    intro ps hl ht
    cases ps with
    |nil=>cases hl
    |cons q ps=>
     obtain⟨fs,f1,f2,f3⟩:=ih ps (by simpa using hl) fun j y r h1 h2=>ht (j+1) y r (by simpa using h1) (by simpa using h2)
     obtain⟨o,t,u,n,e,hc,hd⟩:=ht 0 x q rfl rfl
     exact⟨.int q.1 t::fs,by simp[f1],⟨⟨x,o,_,n,rfl,e,hc,hd,rfl⟩,f2⟩,fun v hv=>by
      rcases dY.mp hv with rfl | hv
      ·exact⟨_,_,rfl⟩
      ·exact f3 v hv⟩
  obtain⟨fs,f1,f2,f3⟩:=tups as ps hl ht
  refine aF (kat_kind (T:=.type "int") f2 (by rw[f1];omega) (fun v hv=>by
   obtain⟨i,t,rfl⟩:=f3 v hv
   exact .now) (by rfl) ?_)
  have W:=gG.wp (n:=vs.length) (c:=lt key) (cmp:=kas_ask prog w A (tuples' true) (as.map cI)) (Q:=fun p s'=>s'=s/\Pm vs.length p/\Up key p vs.length) (s:=s) (fun i j C hi hj hC=>?_) (fun p hp=>⟨rfl,hp⟩) (awK (by omega))
  ·refine aF (iP (kat_run (ks:=as.map cI) (Q:=fun aU s'=>∃p:Array Nat,lV aU=p.map (kas_item ((as.map cI).toArray.zip vs.toArray))/\zP aU=none/\s'=s/\Pm vs.length p/\Up key p vs.length)
    len pq rT (fun p aU s' _ a2 a3 a4=>⟨p,a2,a3,a4⟩) W) ?_ fun _ _ e=>e)
   rintro⟨⟨⟩,aU⟩ s' ⟨p,Vf,hf,rfl,hp,hu⟩
   try dsimp only
   exact tail aU p (kat_snds len Vf) hf hp hu
  ·obtain⟨x,q,x1,x2,x3⟩:=item i hi
   obtain⟨y,r,y1,y2,y3⟩:=item j hj
   unfold kas_ask
   rw[x3,y3]
   obtain⟨ox,t,u,n,ex,cx,dx⟩:=ht i x q x1 x2
   obtain⟨oy,t',u',n',ey,cy,dy⟩:=ht j y r y1 y2
   refine kat_lt (s:=s) ex dx ey dy ?_
   show KatLex prog w A true _ C [(.int q.1 t,.int r.1 t'),(.int q.2 u,.int r.2 u')] 0 s
   have hk:=EL i j q r x2 y2
   have bQ:lt key i j=decide (q.1<r.1\/(q.1=r.1/\q.2<r.2)):=by
    show decide (key i<key j)=_
    exact decide_eq_decide.mpr hk
   rw[bQ]at hC
   refine kat_cons (alx (kat_go (fun he=>?_) fun he=>?_))
   ·have e1:q.1=r.1:=by simpa using he
    refine kat_yes (kat_cons (alx (kat_go (fun he2=>kat_yes (kat_nil ?_)) fun he2=>?_)))
    ·have e2:q.2=r.2:=by simpa using he2
     rw[decide_eq_false (by omega)]at hC
     exact hC
    ·refine kat_no (show aK (aN prog w) A (oneLt' false (uG q.2 u) (uG r.2 u')) C (fun _ _=>False) s from kat_one _ _ (lt_int ?_))
     show C (decide (q.2<r.2)) s
     have:decide (q.2<r.2)=decide (q.1<r.1\/(q.1=r.1/\q.2<r.2)):=decide_eq_decide.mpr (by omega)
     rw[this]
     exact hC
   ·refine kat_no (oneLt_int ?_)
    have ne:q.1≠r.1:=by simpa using he
    have:decide (q.1<r.1)=decide (q.1<r.1\/(q.1=r.1/\q.2<r.2)):=decide_eq_decide.mpr (by omega)
    rw[this]
    exact hC
end
end DA
namespace L2
open PySem PySem.Spec PyProof.Rows PySem.W
section
variable{X:Cx}{ah:List (aa×Obj)}{σ:St}{H:Hp}{s:aB}
theorem Inv.axV{d:aa}{q:Str}{pos:Pos}{o:Obj}(I:Inv X ah σ H s)(hd:H d=some (.dU q pos))(ho:s.heap.get? d=some o):Inv X ah σ (upd H d (.cC o (.dU q pos))) s:=by
 have ob:=(show cD X.prog X.w H s.heap d (.dU q pos)from I.hok d _ hd)
 have ne:∀b u,H b=some u->u≠.dU q pos->b≠d:=fun b u e n z=>by rw[z,hd]at e;exact n (cY e).symm
 have un:Un X.fs [] H (upd H d (.cC o (.dU q pos))) s.heap s.heap:=by
  refine⟨fun b o e _ _ _=>e,fun b o e _ _ _=>⟨o.slots,e⟩,fun b ob e n _=>?_,fun b o e _=>⟨o,e⟩,fun b xs e=>?_,fun b ob u e=>?_,fun b ps e=>⟨#[],?_⟩⟩
  ·rw[aA (by rintro rfl;rw[hd]at n;cases n)];exact n
  ·rw[aA (ne b _ e (by intro q;cases q))];exact e
  ·rw[aA (ne b _ e (by intro q;cases q))];exact e
  ·rw[aA (ne b _ e (by intro q;cases q)),e];simp
 have hok:eW X.prog X.w (upd H d (.cC o (.dU q pos))) s.heap:=fun b u e=>by
  by_cases hb:b=d
  ·subst hb
   rw[au]at e
   cases e
   refine⟨ho,cD.stay ob (fun _ _ _ q=>q) (fun c q=>?_) fun c xs q=>?_⟩
   ·rw[aA (ne c _ q (by intro q;cases q))];exact q
   ·rw[aA (ne c _ q (by intro q;cases q))];exact q
  ·rw[aA hb]at e
   refine(I.hok b u e).stay (fun _ _ _ q=>q) (fun c q=>?_) fun c xs q=>?_
   ·rw[aA (ne c _ q (by intro q;cases q))];exact q
   ·rw[aA (ne c _ q (by intro q;cases q))];exact q
 exact I.un (t':=s.toks) un hok
theorem Inv.ayB{d:aa}{o:Obj}{tq:Str}{pos:Pos}(I:Inv X ah σ H s)(h0:∀o u,X.H₀ d≠some (.cC o u))(hd:H d=some (.cC o (.dU tq pos))):Inv X ah σ (upd H d (.dU tq pos)) s:=by
 have ne:∀b,H b=none->b≠d:=fun b e z=>by rw[z,hd]at e;cases e
 have oE:∀b u,H b=some u->u≠.cC o (.dU tq pos)->b≠d:=fun b u e n z=>by rw[z,hd]at e;exact n (cY e).symm
 obtain⟨ok,os,bare,base,loc,cell,free,kK,pin,hok,len⟩:=I
 refine⟨ok,os,bare,⟨base.keep,base.slot,fun b ob e n hx=>?_,base.there,fun b xs e=>?_,fun b ob u e=>?_,fun b ps e=>?_⟩,loc,cell,?_,fun x c e=>?_,fun p hp=>?_,fun b u e=>?_,len⟩
 ·have:=base.free b ob e n hx
  rw[aA (ne b this)];exact this
 ·have:=base.tups b xs e
  rw[aA (oE b _ this (by intro q;cases q))];exact this
 ·have:=base.mY b ob u e
  have nb:b≠d:=fun z=>h0 ob u (z▸e)
  rw[aA nb];exact this
 ·obtain⟨more,q⟩:=base.qP b ps e
  exact⟨more,by rw[aA (oE b _ q (by intro q;cases q))];exact q⟩
 ·rw[aA (ne _ free)];exact free
 ·have:=kK x c e
  rw[aA (ne _ this)];exact this
 ·obtain⟨a1,a2,a3⟩:=pin p hp
  exact⟨a1,by rw[aA (ne _ a2)];exact a2,a3⟩
 ·by_cases hb:b=d
  ·subst hb
   rw[au]at e
   cases e
   obtain⟨_,q⟩:=(show cD X.prog X.w H s.heap b (.cC o (.dU tq pos))from hok b _ hd)
   exact cD.stay q (fun _ _ _ q=>q) (fun c q=>by rw[aA (oE c _ q (by intro q;cases q))];exact q) (fun c xs q=>by rw[aA (oE c _ q (by intro q;cases q))];exact q)
  ·rw[aA hb]at e
   refine(hok b u e).stay (fun _ _ _ q=>q) (fun c q=>?_) fun c xs q=>?_
   ·rw[aA (oE c _ q (by intro q;cases q))];exact q
   ·rw[aA (oE c _ q (by intro q;cases q))];exact q
theorem Inv.anE{d c':aa}{q:Str}{pos:Pos}{ps:Array ao}(I:Inv X ah σ H s)(hd:H d=some (.cC (tV ps) (.dU q pos)))(ha:DY pos ps.toList=some (.ref c')):s.heap.CodeRec (.ref c') q:=by
 obtain⟨e1,ps2,e2,_,k⟩:=(show cD X.prog X.w H s.heap d (.cC (tV ps) (.dU q pos))from I.hok d _ hd)
 rw[e1]at e2
 have:ps=ps2:=by injection e2 with e2;injection e2 with _ _ e2;injection e2
 subst this
 obtain⟨c,e3,_,_,r⟩:=k _ ha
 cases e3
 exact r
theorem getD_some{α:Type}{l:List α}{i:Nat}{d:α}(h:i<l.length):l[i]?=some (l.getD i d):=by
 rw[eX,bZ h];rfl
theorem auW{A:cS}{N:List Str}{cap:List (Option Nat)}{sc:iI}{qual x:Str}{params:HR}{body:aZ}{f c' P a kS:aa}{pm ctv:ao}{ps:Array ao}{pos:Pos}{tb:TE}{ns:List Int}{vs:List ao}{k1:Int->Int}{e1:Nat}{PP:Op->aB->Prop}{E:ao->aB->Prop}
  (S:pS X N cap sc) (I:Inv X ah σ H s) (hA:A.frames=some X.stack) (hh:A.handled=none) (Vw:A.depth<aku) (hx:N[0]?=some x) (hl:sc.names.lookup x=some .local) (ED:sc.isCoroutine=false) (EI:sc.isGenerator=false)
  (zX:∀u,oX (kla_fn "<lambda>" qual params body sc (fJ X.env.cells sc.names []) pm (.ref c') ctv) ⟨[u],[]⟩=pure [(x,u)])
  (hP:H P=some (.cC (tV ps) (.dU qual pos))) (Ve:DY pos ps.toList=some (.ref c')) (rv:bu (ns.map V.int) vs) (rT:ns.length<64) (hb:∀n∈ns,0<=n/\n<=999)
  (uZ:s.heap.get? a=some (dZ "list" #[] e1)) (hok:s.heap.get? kS=some (dZ "list" #[] 0)) (gM:a≠kS) (hof:s.heap.get? f=some (LN "<lambda>" qual params body sc (fJ X.env.cells sc.names []) pm c' ctv))
  (fa:iR X ah H a) (fk:iR X ah H kS) (ff:iR X ah H f)
  (Vi:∀s' H',PE (Bl X A N qual sc f (.ref c') (fJ X.env.cells sc.names []) s' H') body tb)
  (qQ:∀n∈ns,∀H',ak H H'->tb ((fR cap σ).set 0 (some (.int n))) H' (fun r H2=>∃t,H' t=none/\r=.ref t/\H2=upd H' t (.tup [.int (k1 n),.int n])))
  (fin:∀(ms:List Int) (out:List ao) (s':aB) (H':Hp) (c:Nat),ms.Perm ns->ms.Pairwise (fun a b=>k1 a*1000+a<=k1 b*1000+b)->bu (ms.map V.int) out->ak H H'->H' a=none->Inv X ah σ H' s'->s'.heap.get? a=some (dZ "list" out.toArray c)->PP (.done (.ret .none)) s') :
  aK (aN X.prog X.w) A (ksk_rest a (.ref f) false vs.toArray e1 (.ref kS)) PP E s:=by
 have hlv:ns.length=vs.length:=by rw[<- rv.length,aC]
 unfold ksk_rest
 refine aF (qY ?_)
 first
  |rw[List.forIn_toArray]
  |(rw[<- Np];simp only[List.toList_toArray])
  |rw[<- Np]
 refine aF (ksk_fold (fun j s'=>∃(H':Hp) (ts:List aa) (e:Nat),Inv X ah σ H' s'/\ak H H'/\ts.length=j/\(∀(i:Nat) (t:aa) (n:Int),ts[i]?=some t->ns[i]?=some n->H' t=some (.tup [.int (k1 n),.int n]))/\
   s'.heap.get? a=some (dZ "list" #[] e1)/\s'.heap.get? kS=some (dZ "list" (ts.map cI).toArray e)/\s'.heap.get? f=some (LN "<lambda>" qual params body sc (fJ X.env.cells sc.names []) pm c' ctv)/\H' a=none/\H' kS=none/\H' f=none) vs 0 s
  ⟨H,[],0,I,ak.refl H,rfl,fun i t n h=>by simp at h,uZ,hok,hof,fa.1,fk.1,ff.1⟩ ?step ?done)
 case step=>
  rintro j v0 s' hv ⟨H',ts,e,I',sm,bC,V7,zU,fM,Vx,FM,FQ,Zq⟩
  simp only[ab9]at bC ⊢
  obtain⟨y,hy,ry⟩:=CN rv hv
  rw[dG]at hy
  cases hn:ns[j]? with
  |none=>rw[hn]at hy;cases hy
  |some n=>
   rw[hn]at hy
   cases hy
   have ES:=eB hn
   have jd:s'.heap.CodeRec (.ref c') qual:=I'.anE (sm P _ hP) Ve
   refine aF (aaV (iP (au1 (E:=fun _ _=>False) S I' hA hh Vw hx hl ED EI Vx jd (zX v0) ry (Vi s' H') (qQ n ES H' sm)) (fun u nB hce=>?_) fun _ _ z=>z.elim))
   obtain⟨v,H2,os,bare,un,apw,rvv,t,pG,rfl,rfl⟩:=hce
   cases rvv
   obtain⟨v2,H3,I2,_,V9,hH3⟩:=I'.after (Q:=fun r H2=>r=.ref t/\H2=upd H' t (.tup [.int (k1 n),.int n])) ⟨.ref t,_,os,bare,un,apw,rfl,rfl,rfl⟩
   subst hH3
   have US:∀ {b:aa},H' b=none->iR X ah H b->iR X ah H' b:=fun h0 fp=>⟨h0,fp.2⟩
   have XF:∀ {b:aa} {o:Obj},s'.heap.get? b=some o->iR X ah H' b->nB.heap.get? b=some o:=fun {b o} q fp=>
    un.keep b o q fp.1 (fun z=>(dY.mp (I'.M0 b z)).elim fp.2.1 fp.2.2.1) (by simp)
   have Vc:=XF zU (US FM fa)
   have bA:=XF fM (US FQ fk)
   have qc:=XF Vx (US Zq ff)
   have ZA:∀ {b:aa} {o:Obj},nB.heap.get? b=some o->o.cls≠.type "tuple"->b≠t:=fun {b o} q hc z=>by
    obtain⟨_,its,_,o2,e2,c2,_⟩:=(show cD X.prog X.w _ nB.heap t (.tup [.int (k1 n),.int n])from I2.hok t _ au)
    rw[z,e2]at q
    cases q
    exact hc c2
   have jh:a≠t:=ZA Vc (by simp)
   have nk2:kS≠t:=ZA bA (by simp)
   have nf2:f≠t:=ZA qc (by simp)
   have hsz:(ts.map cI).length<64:=by
    have:=(iw.mp hn).1
    rw[aC]
    omega
   try dsimp only
   refine aF (Aj bA rfl ?_ (by rw[cV,tK];omega) (fP (Od (Array.size_push ..)) (by rw[cV,tK];omega)))
   have s1:=abC nB.heap kS (eE (·.push (cI t)))
   obtain⟨c2,yf⟩:∃c2,(nB.heap.update kS (eE (·.push (cI t)))).get? kS=some (dZ "list" ((ts.map cI).toArray.push (.ref t)) c2):=⟨_,UV bA (·.push (.ref t))⟩
   have ea:(ts.map cI).toArray.push (.ref t)=((ts++[t]).map cI).toArray:=by simp
   rw[ea]at yf
   have I3:Inv X ah σ (upd H' t (.tup [.int (k1 n),.int n])) {nB with heap:=nB.heap.update kS (eE (·.push (cI t))),toks:=nB.toks}:=
    I2.aaM (ch:=[kS]) (fun b o rX q=>(s1.2 b (fun z=>rX (by simp[z]))).trans q) fun b rX=>by
     rw[gb.mp rX]
     exact⟨by rw[aA nk2];exact FQ,fk.2⟩
   refine bJ ⟨rfl,_,ts++[t],c2,I3,sm.upd (sm.free pG),by rw[bW,bC];rfl,fun i t' n' h1 h2=>?_,(s1.2 a gM).trans Vc,yf,(s1.2 f (fun z=>?_)).trans qc,by rw[aA jh];exact FM,by rw[aA nk2];exact FQ,by rw[aA nf2];exact Zq⟩
   ·by_cases hi:i<ts.length
    ·rw[nM hi]at h1
     have:=V7 i t' n' h1 h2
     rw[aA (bf this pG)]
     exact this
    ·have z4:i=ts.length:=by
      have:=(iw.mp h1).1
      rw[bW]at this
      simp at this
      omega
     subst z4
     rw[nN (br _)]at h1
     simp at h1
     subst h1
     rw[bC,hn]at h2
     cases h2
     exact au
   ·rw[z]at qc
    rw[qc]at bA
    exact absurd (congrArg (fun o:Option Obj=>o.map (·.cls)) bA) (by simp)
 case done=>
  rintro s' ⟨H',ts,e,I',sm,bC,V7,zU,fM,Vx,FM,FQ,Zq⟩
  rw[ab9]at bC
  try dsimp only
  refine aF (Cd fM rfl ?_)
  refine DA.anZ (key:=fun i=>k1 (ns.getD i 0)*1000+ns.getD i 0) (ps:=ns.map fun n=>(k1 n,n)) zU fM gM bC (by rw[aC,bC,hlv]) (by omega) (fun j t q h1 h2=>?_) (fun i j p q h1 h2=>?_) fun p h' tk hp hu kp ⟨c,hc⟩=>?_
  ·rw[dG]at h2
   cases hn:ns[j]? with
   |none=>rw[hn]at h2;cases h2
   |some n=>
    rw[hn]at h2
    cases h2
    obtain⟨_,its,ri,o2,e2,c2,n2,d2⟩:=(show cD X.prog X.w H' s'.heap t (.tup [.int (k1 n),.int n])from I'.hok t _ (V7 j t n h1 hn))
    obtain⟨u1,u2,rfl,⟨t1,rfl⟩,⟨t2,rfl⟩⟩:=vals2 ri
    exact⟨o2,t1,t2,n2,e2,c2,d2⟩
  ·rw[dG]at h1 h2
   cases hn:ns[i]? with
   |none=>rw[hn]at h1;cases h1
   |some n=>
    cases hm:ns[j]? with
    |none=>rw[hm]at h2;cases h2
    |some m=>
     rw[hn]at h1
     rw[hm]at h2
     cases h1
     cases h2
     have g1:ns.getD i 0=n:=by rw[eX,hn];rfl
     have g2:ns.getD j 0=m:=by rw[eX,hm];rfl
     have b1:=hb n (eB hn)
     have b2:=hb m (eB hm)
     show k1 (ns.getD i 0)*1000+ns.getD i 0<k1 (ns.getD j 0)*1000+ns.getD j 0↔k1 n<k1 m\/(k1 n=k1 m/\n<m)
     rw[g1,g2]
     omega
  ·have ein:∀i∈p.toList,i<vs.length:=fun i hi=>iG.mp (hp.mem_iff.mp hi)
   refine fin (p.toList.map fun i=>ns.getD i 0) (p.toList.map fun i=>vs.getD i lU) _ H' c ?_ ?_ ?_ sm FM (I'.aaM (t':=tk) (ch:=[a,kS]) (fun b o rX q=>kp b o (fun z=>rX (by simp[z])) (fun z=>rX (by simp[z])) q) fun b rX=>?_) hc
   ·have:=hp.map fun i=>ns.getD i 0
    refine this.trans (NV ?_)
    rw[<- hlv]
    refine Iw fun i=>?_
    rw[dG]
    by_cases hi:i<ns.length
    ·rw[N1 hi,getD_some (d:=0) hi];rfl
    ·rw[xC (l:=ns) (Oe hi),xC (l:=bT ns.length) (by rw[um];exact Oe hi)];rfl
   ·rw[List.pairwise_map,List.pairwise_iff_getElem]
    intro i j hi hj je
    have hx:=hu i j (lG je) (by rw[<- hp.size,<- lM];exact hj)
    unfold DA.kv at hx
    have gi:∀(k:Nat) (hk:k<p.toList.length),p.getD k 0=p.toList[k]:=fun k hk=>by
     have fM:k<p.size:=by rwa[lM]at hk
     simp[Array.getD,fM]
    rw[gi i hi,gi j hj]at hx
    exact hx
   ·have go:∀l:List Nat,(∀i∈l,i<vs.length)->bu ((l.map fun i=>ns.getD i 0).map V.int) (l.map fun i=>vs.getD i lU):=by
     intro l
     induction l with
     |nil=>intro _;exact .nil
     |cons i l ih=>
      intro h
      have hi:=h i (by simp)
      obtain⟨y,hy,ry⟩:=CN rv (getD_some (d:=lU) hi)
      rw[dG,getD_some (d:=0) (show i<ns.length by omega)]at hy
      cases hy
      exact .cons ry (ih fun j hj=>h j (iS _ hj))
    exact go _ ein
   ·rcases dY.mp rX with z | z
    ·rw[z];exact⟨FM,fa.2⟩
    ·rw[gb.mp z];exact⟨FQ,fk.2⟩
noncomputable def codeOf(K:Frag)(f:aa):Option Value:=match K.lookup f with
 |some ⟨_,_,.func fd,_⟩=>some fd.code
 |_=>none
noncomputable def Bk(K:Frag)(c P:aa):Bool:=match K.lookup c with
 |some ⟨.type n,_,.fields vs,_⟩=>n == "code"&&(vs[11]? == some (.ref P))&&(match vs.getD 11 .none with | .ref P'=>P' == P | _=>false)&&(match vs.getD 18 .none with | .str _ _=>true | _=>false)&&(match vs.getD 7 .none with | .int _ _=>true | _=>false)&&
   (match vs.getD 9 .none with | .bool _=>true | _=>false)&&(match vs.getD 10 .none with | .int _ _=>true | _=>false)&&(c != P)
 |_=>false
theorem anA{K:Frag}{h:bL}{c P:aa}(X:K.In h)(e:Bk K c P=true):CodeHd h c P:=by
 unfold Bk at e
 split at e
 ·rename_i n od vs sl lk
  simp only[nI]at e
  obtain⟨⟨⟨⟨⟨⟨⟨e1,e2⟩,e3⟩,e4⟩,e5⟩,e6⟩,e7⟩,e8⟩:=e
  have n1:n = "code":=by simpa using e1
  subst n1
  split at e4
  ·rename_i aod tf Bu
   split at e5
   ·rename_i aoi tg h7
    split at e6
    ·rename_i inF h9
     split at e7
     ·rename_i ayA tt h10
      split at e3
      ·rename_i P' h11
       have:P'=P:=by simpa using e3
       subst this
       exact⟨_,vs,aod,tf,aoi,tg,inF,ayA,tt,X _ _ lk,rfl,rfl,by simpa using e2,h11,Bu,h7,h9,h10,by simpa using e8⟩
      ·cases e3
     ·cases e7
    ·cases e6
   ·cases e5
  ·cases e4
 ·cases e
noncomputable def Hh(P:aa)(q:Str)(pos:Pos)(cap:List (Option Nat))(tb:TE)(σ:St)(Q:VK):VK:=fun x H1=>∃(d:aa) (kvs:List (Key×V)) (ns:List Int) (k1:Int->Int),x=.ref d/\H1 d=some (.dK kvs)/\kvs.map (·.1)=ns.map cN/\ns.length<64/\(∀n∈ns,0<=n/\n<=999)/\H1 P=some (.dU q pos)/\
 (∀n∈ns,∀H',H' d=some (.dK kvs)->tb ((fR cap σ).set 0 (some (.int n))) H' (fun r H2=>∃t,H' t=none/\r=.ref t/\H2=upd H' t (.tup [.int (k1 n),.int n])))/\
 ∀(l:aa) (ms:List Int) (H':Hp),ak H1 H'->H1 l=none->ms.Perm ns->ms.Pairwise (fun a b=>k1 a*1000+a<=k1 b*1000+b)->H' l=some (.lst (ms.map V.int))->Q (.ref l) H'
noncomputable def ayr(P:aa)(q:Str)(pos:Pos)(cap:List (Option Nat))(te tb:TE):TE:=fun σ H Q=>te σ H (Hh P q pos cap tb σ Q)
theorem Inv.adopt{a:aa}{o:HO}(I:Inv X ah σ H s)(fp:iR X ah H a)(ha:X.s₀.heap.objs.size<=a)(new:cD X.prog X.w (upd H a o) s.heap a o):Inv X ah σ (upd H a o) s:=by
 have n0:H a=none:=fp.1
 have sm:∀b u,H b=some u->(upd H a o) b=some u:=fun b u e=>by rw[aA (bf e n0)];exact e
 obtain⟨ok,os,bare,base,loc,cell,free,kK,pin,hok,len⟩:=I
 obtain⟨_,f1,f2,f3,f4,f5⟩:=fp
 refine⟨ok,os,bare,⟨base.keep,base.slot,fun b ob e n hx=>?_,base.there,fun b xs e=>sm b _ (base.tups b xs e),fun b ob u e=>sm b _ (base.mY b ob u e),fun b ps e=>?_⟩,loc,cell,?_,fun x c e=>?_,fun p hp=>?_,fun b u e=>?_,len⟩
 ·rw[aA (dw (gq (bV e) ha))]
  exact base.free b ob e n hx
 ·obtain⟨more,q⟩:=base.qP b ps e
  exact⟨more,sm b _ q⟩
 ·rw[aA (dB f1)];exact free
 ·rw[aA (f4 x c e)];exact kK x c e
 ·obtain⟨a1,a2,a3⟩:=pin p hp
  exact⟨a1,by rw[aA (f5 p hp)];exact a2,a3⟩
 ·by_cases hb:b=a
  ·subst hb
   rw[au]at e
   cases e
   exact new
  ·rw[aA hb]at e
   exact(hok b u e).stay (fun _ _ _ q=>q) (fun c q=>sm c _ q) fun c xs q=>sm c _ q
theorem auo{N:List Str}{cap:List (Option Nat)}{sc:iI}{params:HR}{body e:aZ}{te tb:TE}{c P:aa}{x:Str}{p pos lI XI:Pos}(hc:X.calm=true)(hg:Gl X "sorted") (hm:X.mg "sorted" = none) (hv:xT "sorted" = some (.builtin "sorted")) (S:pS X N cap sc)
  (hr:gr 2 X.A) (K0:X.env.code=.ref c) (gX:Bk X.K c P=true) (he:PE X e te)
  (hb:∀(A:cS) (f:aa) (cd:ao) (s:aB) (H:Hp),(Bl X A N (X.env.qual++"<lambda>") sc f cd (fJ X.env.cells sc.names []) s H).A.units+1<nU->PE (Bl X A N (X.env.qual++"<lambda>") sc f cd (fJ X.env.cells sc.names []) s H) body tb)
  (hx:N[0]?=some x:=by rfl) (hl:sc.names.lookup x=some .local:=by rfl) (ED:sc.isCoroutine=false:=by rfl) (EI:sc.isGenerator=false:=by rfl) (Vv:defaultsOf params X.env=([],[]):=by rfl)
  (zX:∀(qual:Str) (cl:List (Str×aa)) (pm cd ctv u:ao),oX ({name:="<lambda>",qualname:=qual,params,body:=.expr body,scope:=sc,globals:=bx,closure:=cl,defaults:=.none,kwdefaults:=.none,doc:=.none,pyModule:=pm,annotations:=none,code:=cd,closureTuple:=ctv,builtins:=uK}:bE) ⟨[u],[]⟩=pure [(x,u)]:=by intros;rfl)
  (hs:dR [e] X.env=[(false,eval e X.env)]:=by rfl) :
  PE X (.Call (.Name "sorted" p) [e] [⟨some "key",.Lambda params body sc lI,XI⟩] pos) (ayr P (X.env.qual++"<lambda>") lI cap te tb):=by
 intro ah s σ H Q I h
 refine AH (qo I hg hm hv ?_ (by decide) (by decide))
 have pa:=aj he aq hs
 refine amV (aV (pa pos ah s σ H (fun vs H1=>∃x,vs=[x]/\Hh P (X.env.qual++"<lambda>") lI cap tb σ Q x H1) I ?_) fun us s1 ⟨vs,H1,I1,r1,x0,hx0,d,kvs,ns,k1,hxd,hd,hkv,rT,hbn,hP,qQ,fin⟩=>?_) (by rw[hs];rfl) (by rw[hs];rfl) rfl rfl
 ·show te σ H fun x H1=>∃x',[x]=[x']/\Hh P (X.env.qual++"<lambda>") lI cap tb σ Q x' H1
  have e:(fun(x:V) (H1:Hp)=>∃x',[x]=[x']/\Hh P (X.env.qual++"<lambda>") lI cap tb σ Q x' H1)=Hh P (X.env.qual++"<lambda>") lI cap tb σ Q:=by
   funext x H1
   simp
  rw[e]
  exact h
 subst hx0 hxd
 obtain⟨u,rfl,ru⟩:=vals1 r1
 cases ru
 show aK _ _ (evalAll ((do let v <- eval (.Lambda params body sc lI) X.env;Hy pos;pure v)::[])) _ _ s1
 refine wpAny_evalAll_cons (aF (aqI S I1 K0 (anA I.ok.mod.BZ gX) hP Vv fun f c' ctv s2 H2 I2 MV qc fK ho ⟨ps,yt,Ve⟩=>aF (CU (bJ ?_))))
 refine wpAny_evalAll_nil ?_
 show aK _ _ (call (.builtin "sorted") [.ref d] [(rN "key",.ref f)]) _ _ s2
 have U6:=MV P _ hP
 have h0:∀o u,X.H₀ P≠some (.cC o u):=fun o u e=>by
  have:=I2.base.mY P o u e
  rw[U6]at this
  cases this
 have I3:=I2.axV U6 yt
 have nfP:f≠P:=fun z=>by rw[z,U6]at qc;cases qc
 have Mb:d≠P:=kh hd hP (by intro z;cases z)
 have mh:(upd H2 P (.cC (tV ps) (.dU (X.env.qual++"<lambda>") lI))) d=some (.dK kvs):=by rw[aA Mb];exact MV d _ hd
 have KN:(upd H2 P (.cC (tV ps) (.dU (X.env.qual++"<lambda>") lI))) P=some (.cC (tV ps) (.dU (X.env.qual++"<lambda>") lI)):=au
 have hf3:(upd H2 P (.cC (tV ps) (.dU (X.env.qual++"<lambda>") lI))) f=none:=by rw[aA nfP];exact qc
 -- back to the table as it was told
 have back:∀ {H4:Hp},ak (upd H2 P (.cC (tV ps) (.dU (X.env.qual++"<lambda>") lI))) H4->ak H1 (upd H4 P (.dU (X.env.qual++"<lambda>") lI)):=fun {H4} sm b o e=>by
  by_cases z:b=P
  ·rw[z,hP]at e
   cases e
   rw[z]
   exact au
  ·rw[aA z]
   exact sm b o (by rw[aA z];exact MV b o e)
 generalize hH3:upd H2 P (.cC (tV ps) (.dU (X.env.qual++"<lambda>") lI))=H3 at I3 mh KN hf3 back
 obtain⟨z,lo,Nh,cQ,dd⟩:=x6 I3.hok mh
 obtain⟨ep,eG⟩:=dd.dictAt
 have kN:Nh.length=ns.length:=by
  have:=congrArg N3 hkv
  rw[aC,aC]at this
  rw[<- cQ.length,this]
 have U0:Nh.length<=sizeLine:=fP (by omega:Nh.length<=64) (by decide)
 refine call_function_entry_kw kind_sorted plain_sorted entry_sorted (ksk_s1 _ _) ?_
 unfold Builtin.«sorted»
 refine aF (m:=checkCount "sorted" 1 1 _) (bJ ?_)
 refine aF (kdu_collect (A:=X.A.in1) (kdl_dict (knd:=iE X.prog X.w) (kvs:=Nh) (ep:=ep) lo) (I.ok.hd hc) eG U0 fun h' tk aE n8 pA=>?_)
 have ym:aE.toList.length=ns.length:=by rw[lM];exact pA.1.trans kN
 have rvs:bu (ns.map V.int) aE.toList:=by
  refine aaR (by rw[aC,ym]) fun j y u h1 h2=>?_
  rw[dG]at h1
  obtain⟨k,x,e1,e2⟩:=pA.2 j u (by rw[<- Nq];exact h2)
  obtain⟨p,hp,e3,_⟩:=B0 cQ e1
  have e4:(kvs.map (·.1))[j]?=some k:=by rw[dG,hp];exact congrArg some e3
  rw[hkv,dG]at e4
  cases hq:ns[j]? with
  |none=>rw[hq]at e4;cases e4
  |some n=>
   rw[hq]at e4 h1
   cases h1
   have e5:k=cN n:=(cY e4).symm
   subst e5
   exact LM e2
 have I4:Inv X ah σ H3 {s2 with heap:=h',toks:=tk}:=I3.kept n8
 refine aF (Nm ?_ (by rw[ym];omega))
 have sr:(h'.push (dZ "list" aE.toList.toArray 0)).get? h'.objs.size=some (dZ "list" aE.toList.toArray 0):=gn _ rfl
 refine aF (jS (wpAny_call_entry_kw akM ⟨_,sr,rfl⟩ agm ?body (ksk_l1 _ _)))
 case body=>
  rw[ksk_t1]
  unfold ksk_tree
  refine aF (Cd sr rfl ?_)
  refine aF (Aj sr rfl ?_ (by rw[cV,ym,tK];omega) (fz _))
  obtain⟨e1,Lh⟩:∃e1,((h'.push (dZ "list" aE.toList.toArray 0)).update h'.objs.size (eE fun _=>(#[]:Array ao))).get? h'.objs.size=some (dZ "list" #[] e1):=⟨_,UV sr fun _=>#[]⟩
  refine aF (aar Lh rfl ?_)
  refine aF (alA ?_ (by show aE.toList.length<=_;rw[ym,tK];omega))
  refine aF (Nm ?_ (fz _))
  refine jS ?_
  have hsz:((h'.push (dZ "list" aE.toList.toArray 0)).update h'.objs.size (eE fun _=>(#[]:Array ao))).objs.size=h'.objs.size+1:=by rw[NR,aat]
  have ahi:(((h'.push (dZ "list" aE.toList.toArray 0)).update h'.objs.size (eE fun _=>(#[]:Array ao))).push (dZ "tuple" aE.toList.toArray 0)).objs.size=h'.objs.size+2:=by rw[aat,hsz]
  have keep:∀b o,h'.get? b=some o->((((h'.push (dZ "list" aE.toList.toArray 0)).update h'.objs.size (eE fun _=>(#[]:Array ao))).push (dZ "tuple" aE.toList.toArray 0)).push (dZ "list" #[] 0)).get? b=some o:=fun b o e=>
   cM _ (cM _ ((pU _ _ (kE (bV e))).trans (cM _ e)))
  have I5:Inv X ah σ H3 {s2 with heap:=(((h'.push (dZ "list" aE.toList.toArray 0)).update h'.objs.size (eE fun _=>(#[]:Array ao))).push (dZ "tuple" aE.toList.toArray 0)).push (dZ "list" #[] 0),toks:=tk}:=I4.kept keep
  have fL:iR X ah H3 h'.objs.size:=I4.p9 (br _) (I4.hok.fresh (br _))
  have fS:iR X ah H3 (((h'.push (dZ "list" aE.toList.toArray 0)).update h'.objs.size (eE fun _=>(#[]:Array ao))).push (dZ "tuple" aE.toList.toArray 0)).objs.size:=by
   rw[ahi]
   exact I4.p9 (Dq _ 2) (I4.hok.fresh (Dq _ 2))
  have hf1:H1 f=none:=MV.free qc
  have fF:iR X ah H3 f:=⟨hf3,(I1.p9 fK hf1).2⟩
  have sL:X.s₀.heap.objs.size<=h'.objs.size:=I4.sz
  refine auW (P:=P) (ps:=ps) (pos:=lI) (c':=c') (ctv:=ctv) (k1:=k1) (tb:=tb) S I5 I.ok.frames (I.ok.hd hc) hr.depth hx hl ED EI (fun u=>zX _ _ _ _ _ u) KN Ve rvs rT hbn (cM _ (cM _ Lh)) (gn _ rfl) (by rw[ahi];exact dw (Nat.lt_add_of_pos_right (by decide))) (keep _ _ (n8 _ _ ho)) fL fS fF
   (fun s' H'=>hb X.A.in1.in1 f (.ref c') s' H' (by have:=hr.un;show X.A.units+1+1+3+1<nU;omega)) (fun n hn H' sm=>qQ n hn H' (sm d _ mh)) fun ms out s' H' c jf apx hv sm na I' oh=>⟨_,rfl,?_⟩
  have I6:=I'.ayB h0 (sm P _ KN)
  have b1:=back sm
  have nLP:h'.objs.size≠P:=fun z=>by rw[z,sm P _ KN]at na;cases na
  have nL:(upd H' P (.dU (X.env.qual++"<lambda>") lI)) h'.objs.size=none:=by rw[aA nLP];exact na
  have I7:=I6.adopt (a:=h'.objs.size) (o:=.lst (ms.map V.int)) ⟨nL,fL.2⟩ sL ⟨by rw[aC,jf.length_eq,tK];omega,out,c,hv,oh⟩
  exact bJ ⟨_,rfl,.ref _,_,I7,rfl,fin _ ms _ (b1.upd (b1.free nL)) (b1.free nL) jf apx au⟩
end
end L2
namespace L2
open PySem PySem.Spec PyProof.Rows PySem.W
section
variable{P:cH}{w:cj}{K:bG}{mg:Str->Option ao}{base:bL}
theorem ud.okC{x qual:Str}{st:iT}{f:aa}{fd:bE}{N ps:List Str}{k:Nat}{sp:Sp}(F:ud K x qual st f fd)(S:bU N ps (az st))(len:∀vs H Q E,sp vs H Q E->vs.length=ps.length)
  (EC:∀(bg:ao) (A:cS) (outer:List Env) (s:aB) (H:Hp) (vs:List V) (Q:VK) (E:XK),codeOf K f=some bg->gr k (A.deeper (uO qual (az st) s.heap.objs.size f bg))->sp vs H Q E->
   ∃t,jt (zL bK P w K mg base N qual (az st) f bg A outer s H E).Cn (aO st) t/\t {nx:=fun _ H'=>Q .cF H',rt:=Q} (start N vs) H):bD P w K mg base bK (k+1) f fd ps sp:=by
 obtain⟨oc,od,kV,doc,pm,an,bg,ct,vq,rfl,lk,jd⟩:=F.ex
 refine agx lk jd S len fun A outer s H vs Q E hr sA=>?_
 obtain⟨t,h,q⟩:=EC bg A outer s H vs Q E (by unfold codeOf;rw[lk]) hr sA
 exact⟨t,h.Cn,q⟩
noncomputable def aiu(st:iT):Pos:=match aO st with
 | [.Return (some (.Call _ _ (⟨_,.Lambda _ _ _ p,_⟩::_) _)) _]=>p
 |_=>⟨0,0,0,0⟩
end
end L2
set_option maxHeartbeats 400000
namespace Tl
noncomputable def AK(t:List Int)(k:Int)(p c:Nat):Prop:=∀i,t[i]?=some k↔p<=i/\i<p+c
theorem ad5{A B:List Int}{k:Int}{c:Nat}(hA:k∉A)(hB:k∉B):AK (A++(fj c k++B)) k A.length c:=by
 intro i
 constructor
 ·intro h
  by_cases h1:i<A.length
  ·rw[nM h1]at h
   exact absurd (eB h) hA
  ·rw[nN (by omega)]at h
   refine⟨by omega,?_⟩
   by_cases h2:i-A.length<c
   ·omega
   ·rw[nN (by simpa using h2)]at h
    exact absurd (eB h) hB
 ·rintro⟨h1,h2⟩
  rw[nN h1,nM (by simp;omega),amF]
  simp;omega
theorem akN(k:Int):∀t:List Int,t.Pairwise (·<=·)->∃A B,t=A++(fj (t.count k) k++B)/\(∀a∈A,a<k)/\(∀b∈B,k<b)
 | [],_=>⟨[],[],by simp,by simp,by simp⟩
 |x::r,h=>by
  obtain⟨h1,h2⟩:=N7.mp h
  obtain⟨A,B,e,hA,hB⟩:=akN k r h2
  rcases Int.lt_trichotomy x k with z | z | z
  ·refine⟨x::A,B,?_,?_,hB⟩
   ·rw[List.count_cons_of_ne (by omega)]
    exact congrArg (x::·) e
   ·intro a ha
    rcases dY.mp ha with rfl | ha
    ·exact z
    ·exact hA a ha
  ·subst z
   have KI:A=[]:=by
    cases A with
    |nil=>rfl
    |cons a A=>
     exfalso
     have h3:=hA a (by simp)
     have h4:=h1 a (by rw[e];simp)
     omega
   subst KI
   refine⟨[],B,?_,by simp,hB⟩
   rw[List.count_cons_self,rJ]
   exact congrArg (x::·) e
  ·have h0:∀b∈x::r,k<b:=fun b hb=>by
    rcases dY.mp hb with rfl | hb
    ·exact z
    ·have:=h1 b hb;omega
   refine⟨[],x::r,?_,by simp,h0⟩
   have:(x::r).count k=0:=List.count_eq_zero.mpr fun hm=>by have:=h0 k hm;omega
   rw[this];simp
theorem aaw{t:List Int}(hs:t.Pairwise (·<=·))(k:Int):∃p,AK t k p (t.count k):=by
 obtain⟨A,B,e,hA,hB⟩:=akN k t hs
 generalize t.count k=c at e ⊢
 subst e
 exact⟨A.length,ad5 (fun m=>by have:=hA k m;omega) (fun m=>by have:=hB k m;omega)⟩
theorem agw:∀(xs ys:List Int),xs.length=ys.length->((xs.zip ys).flatMap fun p=>[p.1,p.2]).Perm (xs++ys)
 | [],[],_=>by simp
 | [],_::_,h=>by simp at h
 |_::_,[],h=>by simp at h
 |x::xs,y::ys,h=>by
  have ih:=agw xs ys (by simpa using h)
  show(x::y::((xs.zip ys).flatMap fun p=>[p.1,p.2])).Perm (x::(xs++y::ys))
  exact((ih.cons y).trans N8.symm).cons x
theorem azg{t:List Int}{st a:Nat}(h:t.length=st+a):t.zip (t.drop st)=(t.take a).zip (t.drop st):=by
 rw[List.zip_eq_zip_take_min]
 have e:min t.length (t.drop st).length=a:=by rw[jV];omega
 rw[e,zp (l:=t.drop st) (by rw[jV];omega)]
theorem auf{t:List Int}{st:Nat}(hs:t.Pairwise (·<=·))(hc:∀k,t.count k<=st)(h1:st<=t.length)(h2:t.length<=2*st)(h3:t.length+1<2*st->∃k,t.count k=st) :
  (∀p∈t.zip (t.drop st),p.1≠p.2)/\(((t.zip (t.drop st)).flatMap fun p=>[p.1,p.2])++(t.drop (t.length-st)).take (2*st-t.length)).Perm t/\
  (2<=((t.drop (t.length-st)).take (2*st-t.length)).length->∃k,(∀x∈(t.drop (t.length-st)).take (2*st-t.length),x=k)/\∀p∈t.zip (t.drop st),k=p.1\/k=p.2):=by
 have at_:∀p∈t.zip (t.drop st),∃i,t[i]?=some p.1/\t[i+st]?=some p.2/\i+st<t.length:=fun p hp=>by
  obtain⟨i,hi⟩:=N6.mp hp
  obtain⟨e1,e2⟩:=N2.mp hi
  rw[NZ,Ob]at e2
  exact⟨i,e1,e2,(iw.mp e2).1⟩
 refine⟨fun p hp e=>?_,?_,fun hl=>?_⟩
 ·obtain⟨i,e1,e2,_⟩:=at_ p hp
  obtain⟨q,b⟩:=aaw hs p.1
  rw[<- e]at e2
  have:=(b i).mp e1
  have:=(b (i+st)).mp e2
  have:=hc p.1
  omega
 ·rw[azg (a:=t.length-st) (by omega)]
  refine((agw _ _ (by rw[jr,jV];omega)).append_right _).trans ?_
  have e:t.take (t.length-st)++((t.drop (t.length-st)).take (2*st-t.length)++t.drop st)=t:=by
   have e2:t.drop st=(t.drop (t.length-st)).drop (2*st-t.length):=by rw[List.drop_drop];congr 1;omega
   rw[e2,oR,oR]
  refine abG ?_ (NV e)
  rw[fZ]
  exact lF.append_left _
 ·rw[jr,jV]at hl
  obtain⟨k,hk⟩:=h3 (by omega)
  obtain⟨q,b⟩:=aaw hs k
  rw[hk]at b
  have hq:q+st<=t.length:=by
   have BO:q+st-1<t.length:=by
    have:=(b (q+st-1)).mpr ⟨by omega,by omega⟩
    exact(iw.mp this).1
   omega
  refine⟨k,fun x hx=>?_,fun p hp=>?_⟩
  ·obtain⟨i,hi⟩:=N6.mp hx
   rw[amG]at hi
   by_cases bQ:i<2*st-t.length
   ·rw[if_pos bQ,NZ]at hi
    have:=(b (t.length-st+i)).mpr ⟨by omega,by omega⟩
    rw[hi]at this
    exact cY this
   ·rw[if_neg bQ]at hi;cases hi
  ·obtain⟨i,e1,e2,hi⟩:=at_ p hp
   by_cases hqi:q<=i
   ·have:=(b i).mpr ⟨hqi,by omega⟩
    rw[e1]at this
    exact .inl (cY this).symm
   ·have:=(b (i+st)).mpr ⟨by omega,by omega⟩
    rw[e2]at this
    exact .inr (cY this).symm
noncomputable def cO(ks:List Int)(f:Int->Nat):List Int:=ks.flatMap fun k=>fj (f k) k
theorem Ca(k:Int)(ks:List Int)(f:Int->Nat):cO (k::ks) f=fj (f k) k++cO ks f:=rfl
theorem LP(xs ys:List Int)(f:Int->Nat):cO (xs++ys) f=cO xs f++cO ys f:=by unfold cO;exact List.flatMap_append
theorem Ai{ks:List Int}{f:Int->Nat}{x:Int}(h:x∈cO ks f):x∈ks:=by
 unfold cO at h
 obtain⟨k,hk,hx⟩:=List.mem_flatMap.mp h
 rw[NX hx]
 exact hk
theorem LQ(ks:List Int)(k:Int)(f:Int->Nat):cO (ks++[k]) f=cO ks f++fj (f k) k:=by rw[LP];simp[cO]
theorem aiy(f:Int->Nat):∀ks:List Int,(cO ks f).length=(ks.map f).sum
 | []=>rfl
 |k::ks=>by rw[Ca,bW,rH,aiy f ks,dM,zo]
theorem Cb(f:Int->Nat)(x:Int):∀ks:List Int,ks.Nodup->(cO ks f).count x=if x∈ks then f x else 0
 | [],_=>by simp[cO]
 |k::ks,h=>by
  obtain⟨h1,h2⟩:=nO.mp h
  rw[Ca,zj,Cb f x ks h2,List.count_replicate]
  by_cases e:k=x
  ·subst e
   simp[h1]
  ·have e':(k == x)=false:=by simpa using e
   have e2:x∈k::ks↔x∈ks:=by simp[dB e]
   simp[e',e2]
theorem aiB(f:Int->Nat):∀ks:List Int,ks.Pairwise (·<=·)->(cO ks f).Pairwise (·<=·)
 | [],_=>.nil
 |k::ks,h=>by
  obtain⟨h1,h2⟩:=N7.mp h
  rw[Ca]
  refine abY.mpr ⟨?_,aiB f ks h2,fun a ha b hb=>?_⟩
  ·exact List.pairwise_replicate.mpr (.inr (mR _))
  ·rw[NX ha]
   exact h1 b (Ai hb)
theorem aiw{xs ys:List Int}{k:Int}{f:Int->Nat}(h:(xs++k::ys).Nodup):AK (cO (xs++k::ys) f) k (cO xs f).length (f k):=by
 rw[LP,Ca]
 obtain⟨h1,h2,h3⟩:=ID.mp h
 refine ad5 (fun m=>?_) (fun m=>?_)
 ·exact h3 k (Ai m) k (by simp) rfl
 ·exact(nO.mp h2).1 (Ai m)
theorem aiz{ks ns:List Int}(hn:ks.Nodup)(hk:∀x,x∈ks↔x∈ns):(cO ks fun k=>ns.count k).Perm ns:=by
 refine abZ.mpr fun x=>?_
 rw[Cb _ _ _ hn]
 by_cases h:x∈ks
 ·rw[if_pos h]
 ·rw[if_neg h,pW fun m=>h ((hk x).mpr m)]
noncomputable def stepI{α:Type}(xs:List α)(a m:Nat):List α:=(bT ((xs.length-a+m-1)/m)).filterMap fun k=>xs[a+m*k]?
theorem axS{xs:List Int}{m s a:Nat}(hl:xs.length=m*s)(ha:a<m):stepI xs a m=(bT s).map fun j=>xs.getD (a+m*j) 0:=by
 unfold stepI
 have hc:(xs.length-a+m-1)/m=s:=by
  rw[hl]
  by_cases hs:s=0
  ·subst hs
   rw[ab7]
   exact Oc (by omega)
  ·have h1:m<=m*s:=ab4 m (by omega)
   have h2:m*s-a+m-1=(m-1-a)+m*s:=by omega
   rw[h2,Nat.add_mul_div_left _ _ (by omega),Oc (by omega),ab9]
 rw[hc]
 have:∀l:List Nat,(∀k∈l,k<s)->l.filterMap (fun k=>xs[a+m*k]?)=l.map fun j=>xs.getD (a+m*j) 0:=by
  intro l
  induction l with
  |nil=>intro _;rfl
  |cons k l ih=>
   intro h
   have hk:a+m*k<xs.length:=by
    have:=h k (by simp)
    have h2:m*(k+1)<=m*s:=xG m this
    rw[ab6]at h2
    omega
   rw[nK,bZ hk,ih fun j hj=>h j (iS _ hj),dM,eX,bZ hk]
   rfl
 exact this _ fun k hk=>iG.mp hk
theorem agv(F:Nat->List Int)(h:Nat->Int):∀L:List Nat,(L.map fun a=>F a++[h a]).flatten.Perm ((L.map F).flatten++L.map h)
 | []=>by simp
 |a::L=>by
  have ih:=agv F h L
  simp only[dM,jG]
  have e1:(F a++[h a]++(L.map fun a=>F a++[h a]).flatten).Perm (F a++(h a::((L.map F).flatten++L.map h))):=by
   rw[fZ]
   exact(ih.cons (h a)).append_left _
  refine e1.trans ?_
  rw[fZ]
  exact N8.symm.append_left _
theorem ayy{xs:List Int}{m s:Nat}(h:m*s+m<=xs.length):xs.take (m*s+m)=xs.take (m*s)++(bT m).map fun a=>xs.getD (a+m*s) 0:=by
 rw[List.take_add]
 congr 1
 refine List.ext_getElem (by simp;omega) fun i h1 h2=>?_
 simp only[List.getElem_take,List.getElem_drop,List.getElem_map,amH]
 rw[eX,bZ (by simp at h1;omega)]
 simp[Ob]
theorem aky{xs:List Int}{m:Nat}:∀s:Nat,m*s<=xs.length->((bT m).map fun a=>(bT s).map fun j=>xs.getD (a+m*j) 0).flatten.Perm (xs.take (m*s))
 | 0,_=>by
  have:∀L:List Nat,(L.map fun a=>(bT 0).map fun j=>xs.getD (a+m*j) 0).flatten=[]:=fun L=>by induction L with
   |nil=>rfl
   |cons a L ih=>simp
  rw[this]
  simp
 |s+1,h=>by
  rw[oV]at h ⊢
  rw[ayy h]
  have ih:=aky (xs:=xs) (m:=m) s (by omega)
  have e:(fun a=>(bT (s+1)).map fun j=>xs.getD (a+m*j) 0)=fun a=>((bT s).map fun j=>xs.getD (a+m*j) 0)++[xs.getD (a+m*s) 0]:=by
   funext a
   rw[xE,fD]
   rfl
  rw[e]
  exact(agv _ _ _).trans (ih.append_right _)
theorem au0{xs:List Int}{m s:Nat}(hs:xs.Pairwise (·<=·))(hl:xs.length=m*s)(hc:∀k,xs.count k<=m) :
  (∀g∈(bT m).map (fun a=>(bT s).map fun j=>xs.getD (a+m*j) 0),g.length=s/\g.Nodup)/\((bT m).map fun a=>(bT s).map fun j=>xs.getD (a+m*j) 0).flatten.Perm xs:=by
 constructor
 ·intro g hg
  obtain⟨a,ha,rfl⟩:=oO.mp hg
  have zU:=iG.mp ha
  refine⟨by simp,?_⟩
  refine List.nodup_iff_pairwise_ne.mpr ?_
  rw[List.pairwise_map]
  refine abF (R:=(· < ·)) (fun {i j} hi hj je e=>?_) List.pairwise_lt_range
  have hj':=iG.mp hj
  have b2:a+m*j<xs.length:=by
   have h2:m*(j+1)<=m*s:=xG m hj'
   rw[oV]at h2
   omega
  have b1:m*(i+1)<=m*j:=xG m je
  rw[oV]at b1
  have g1:xs[a+m*i]?=some (xs.getD (a+m*i) 0):=by
   rw[eX,bZ (show a+m*i<xs.length by omega)];rfl
  have g2:xs[a+m*j]?=some (xs.getD (a+m*j) 0):=by
   rw[eX,bZ b2];rfl
  rw[<- e]at g2
  obtain⟨p,b⟩:=aaw hs (xs.getD (a+m*i) 0)
  have c1:=(b _).mp g1
  have c2:=(b _).mp g2
  have c3:=hc (xs.getD (a+m*i) 0)
  omega
 ·have:=aky (xs:=xs) (m:=m) s (by omega)
  rwa[zp (by omega)]at this
noncomputable def iU:List Int->List Int->List Int
 |e::es,o::os=>e::o::iU es os
 | [e],[]=>[e]
 |_,_=>[]
noncomputable def HH(es os:List Int):List Int:=((es.zip os).flatMap fun p=>[p.1,p.2])++(if os.length<es.length then [es.getD (es.length-1) 0]else [])
theorem alj:∀(es os:List Int),os.length<=es.length->es.length<=os.length+1->HH es os=iU es os
 | [],[],_,_=>rfl
 | [],_::_,h,_=>by simp at h
 | [e],[],_,_=>rfl
 |_::_::_,[],_,h=>by simp at h
 |e::es,o::os,h1,h2=>by
  have ih:=alj es os (by simpa using h1) (by simpa using h2)
  show e::o::(((es.zip os).flatMap fun p=>[p.1,p.2])++(if os.length+1<es.length+1 then [(e::es).getD (es.length+1-1) 0]else []))=e::o::iU es os
  rw[<- ih]
  unfold HH
  by_cases h:os.length<es.length
  ·rw[if_pos h,if_pos (by omega)]
   have:(e::es).getD (es.length+1-1) 0=es.getD (es.length-1) 0:=by
    cases es with
    |nil=>simp at h
    |cons a es=>simp
   rw[this]
  ·rw[if_neg h,if_neg (by omega)]
theorem DP:∀(i:Nat) (es os:List Int),os.length<=es.length->es.length<=os.length+1->(iU es os)[2*i]?=es[i]?
 |_,[],[],_,_=>by simp[iU]
 |_,[],_::_,h,_=>by simp at h
 | 0,[e],[],_,_=>rfl
 |i+1,[e],[],_,_=>by simp[iU,oV]
 |_,_::_::_,[],_,h=>by simp at h
 | 0,e::es,o::os,_,_=>rfl
 |i+1,e::es,o::os,h1,h2=>by
  have:=DP i es os (by simpa using h1) (by simpa using h2)
  show(e::o::iU es os)[2*i+2]?=_
  simpa using this
theorem IU:∀(i:Nat) (es os:List Int),os.length<=es.length->es.length<=os.length+1->(iU es os)[2*i+1]?=os[i]?
 |_,[],[],_,_=>by simp[iU]
 |_,[],_::_,h,_=>by simp at h
 |i,[e],[],_,_=>by simp[iU]
 |_,_::_::_,[],_,h=>by simp at h
 | 0,e::es,o::os,_,_=>rfl
 |i+1,e::es,o::os,h1,h2=>by
  have:=IU i es os (by simpa using h1) (by simpa using h2)
  show(e::o::iU es os)[2*i+2+1]?=_
  simpa using this
theorem acI:∀(es os:List Int),os.length<=es.length->es.length<=os.length+1->(iU es os).Perm (es++os)
 | [],[],_,_=>by simp[iU]
 | [],_::_,h,_=>by simp at h
 | [e],[],_,_=>by simp[iU]
 |_::_::_,[],_,h=>by simp at h
 |e::es,o::os,h1,h2=>by
  have ih:=acI es os (by simpa using h1) (by simpa using h2)
  show(e::o::iU es os).Perm (e::(es++o::os))
  exact((ih.cons o).trans N8.symm).cons e
structure acf(t:List Int)(M:Nat):Prop where
 blk:∀x,∃p,AK t x p (t.count x)/\(p=0\/t.count x=0\/M<=p)
 up:∀x,t.count x<=M
theorem aqu{ks:List Int}{f:Int->Nat}(hn:ks.Nodup)(h:∀k∈ks,f k<=f (ks.headD 0)):acf (cO ks f) (f (ks.headD 0)) where
 blk:=fun x=>by
  rw[Cb _ _ _ hn]
  by_cases hx:x∈ks
  ·rw[if_pos hx]
   obtain⟨xs,ys,e⟩:=amv hx
   refine⟨(cO xs f).length,by rw[e];exact aiw (by rw[<- e];exact hn),?_⟩
   cases xs with
   |nil=>exact .inl rfl
   |cons a xs=>
    right;right
    rw[e]
    show f a<=_
    rw[Ca,bW,rH]
    omega
  ·rw[if_neg hx]
   refine⟨0,fun i=>⟨fun h=>absurd (Ai (eB h)) hx,fun h=>by omega⟩,.inl rfl⟩
 up:=fun x=>by
  rw[Cb _ _ _ hn]
  by_cases hx:x∈ks
  ·rw[if_pos hx];exact h x hx
  ·rw[if_neg hx];exact fz _
theorem ay1{t:List Int}{M h:Nat}(o:acf t M)(hh:h=(t.length+1)/2) :
  (iU (t.take h) (t.drop h)).Perm t/\(2*M<=t.length+1->∀i x,(iU (t.take h) (t.drop h))[i]?=some x->(iU (t.take h) (t.drop h))[i+1]?=some x->False)/\
  (2*M<=t.length->2<=t.length->∀x,(iU (t.take h) (t.drop h))[0]?=some x->(iU (t.take h) (t.drop h))[t.length-1]?=some x->False):=by
 have l1:(t.take h).length=h:=by rw[jr];omega
 have l2:(t.drop h).length=t.length-h:=jV
 have c1:(t.drop h).length<=(t.take h).length:=by omega
 have c2:(t.take h).length<=(t.drop h).length+1:=by omega
 have gt:∀i x,(t.take h)[i]?=some x->t[i]?=some x/\i<h:=fun i x e=>by
  rw[amG]at e
  by_cases hi:i<h
  ·rw[if_pos hi]at e;exact⟨e,hi⟩
  ·rw[if_neg hi]at e;cases e
 have gd:∀i x,(t.drop h)[i]?=some x->t[h+i]?=some x/\h+i<t.length:=fun i x e=>by
  rw[NZ]at e
  exact⟨e,(iw.mp e).1⟩
 refine⟨(acI _ _ c1 c2).trans (NV (oR h t)),fun hM i x e1 e2=>?_,fun hM h2 x e1 e2=>?_⟩
 ·obtain⟨p,b,hp⟩:=o.blk x
  have hu:=o.up x
  rcases amQ i with hi | hi
  ·have ei:i=2*(i/2):=by omega
   rw[ei,DP _ _ _ c1 c2]at e1
   rw[ei,IU _ _ _ c1 c2]at e2
   obtain⟨a1,a2⟩:=gt _ _ e1
   obtain⟨a3,a4⟩:=gd _ _ e2
   have d1:=(b _).mp a1
   have d2:=(b _).mp a3
   omega
  ·have ei:i=2*(i/2)+1:=by omega
   have ei2:i+1=2*(i/2+1):=by omega
   rw[ei,IU _ _ _ c1 c2]at e1
   rw[ei2,DP _ _ _ c1 c2]at e2
   obtain⟨a1,a2⟩:=gt _ _ e2
   obtain⟨a3,a4⟩:=gd _ _ e1
   have d1:=(b _).mp a1
   have d2:=(b _).mp a3
   omega
 ·obtain⟨p,b,hp⟩:=o.blk x
  have hu:=o.up x
  have o8:=e1
  rw[show(0:Nat)=2*0 from rfl,DP _ _ _ c1 c2]at o8
  obtain⟨a1,a2⟩:=gt _ _ o8
  have d1:=(b _).mp a1
  rcases amQ t.length with hn | hn
  ·have ei:t.length-1=2*(t.length/2-1)+1:=by omega
   rw[ei,IU _ _ _ c1 c2]at e2
   obtain⟨a3,a4⟩:=gd _ _ e2
   have d2:=(b _).mp a3
   omega
  ·have ei:t.length-1=2*(h-1):=by omega
   rw[ei,DP _ _ _ c1 c2]at e2
   obtain⟨a3,a4⟩:=gt _ _ e2
   have d2:=(b _).mp a3
   omega
end Tl
set_option maxHeartbeats 800000
namespace Tl
theorem aaA{n s S k:Nat}(hS:1<=S):k<(n-s+S-1)/S↔s+S*k<n:=by
 rw[Nat.lt_div_iff_mul_lt (by omega)]
 rw[Nat.mul_comm k S]
 omega
theorem akT{t:List Int}{s S:Nat}(hS:1<=S):stepI t s S=(bT ((t.length-s+S-1)/S)).map fun k=>t.getD (s+S*k) 0:=by
 unfold stepI
 have:∀l:List Nat,(∀k∈l,s+S*k<t.length)->l.filterMap (fun k=>t[s+S*k]?)=l.map fun j=>t.getD (s+S*j) 0:=by
  intro l
  induction l with
  |nil=>intro _;rfl
  |cons k l ih=>
   intro h
   have hk:=h k (by simp)
   rw[nK,bZ hk,ih fun j hj=>h j (iS _ hj),dM,eX,bZ hk]
   rfl
 exact this _ fun k hk=>(aaA hS).mp (iG.mp hk)
theorem akS{t:List Int}{s S:Nat}(hS:1<=S):(stepI t s S).length=(t.length-s+S-1)/S:=by rw[akT hS];simp
theorem MZ{t:List Int}{s S q:Nat}(hS:1<=S):(stepI t s S)[q]?=t[s+S*q]?:=by
 rw[akT hS,dG]
 by_cases h:s+S*q<t.length
 ·rw[N1 ((aaA hS).mpr h),bZ h]
  show some (t.getD (s+S*q) 0)=_
  rw[eX,bZ h];rfl
 ·rw[xC (l:=t) (by omega),xC (l:=bT _) (by
   rw[um]
   exact Oe fun z=>h ((aaA hS).mp z))]
  rfl
theorem axT{t:List Int}{s S:Nat}(hS:1<=S)(h:S<=t.length)(hs:s<S):stepI t s S=t.getD s 0::stepI (t.drop S) s S:=by
 refine Iw fun q=>?_
 rw[MZ hS]
 cases q with
 |zero=>
  rw[List.getElem?_cons_zero,ab7,ab3,bZ (show s<t.length by omega),eX,bZ (show s<t.length by omega)]
  rfl
 |succ q=>
  rw[List.getElem?_cons_succ,MZ hS,NZ]
  congr 1
  rw[oV]
  omega
theorem ags(F:Nat->List Int)(h:Nat->Int):∀L:List Nat,(L.map fun a=>h a::F a).flatten.Perm (L.map h++(L.map F).flatten)
 | []=>by simp
 |a::L=>by
  have ih:=ags F h L
  simp only[dM,jG,List.cons_append]
  refine List.Perm.cons _ ((ih.append_left _).trans ?_)
  rw[<- fZ,<- fZ]
  exact lF.append_right _
theorem auV{t:List Int}{S:Nat}(h:S<=t.length):(bT S).map (fun s=>t.getD s 0)=t.take S:=by
 refine List.ext_getElem (by simp;omega) fun i h1 h2=>?_
 simp only[List.getElem_map,amH,List.getElem_take]
 simp at h1
 rw[eX,bZ (by omega)]
 rfl
theorem Tz{S:Nat}(hS:1<=S):∀(m:Nat) (t:List Int),t.length<=m->((bT S).map fun s=>stepI t s S).flatten.Perm t
 |m,t,hm=>by
  by_cases h:S<=t.length
  ·cases m with
   |zero=>omega
   |succ m=>
    have ih:=Tz hS m (t.drop S) (by rw[jV];omega)
    have e:((bT S).map fun s=>stepI t s S)=(bT S).map fun s=>t.getD s 0::stepI (t.drop S) s S:=xD fun s hs=>axT hS h (iG.mp hs)
    rw[e]
    refine(ags _ _ _).trans ?_
    rw[auV h]
    exact(ih.append_left _).trans (NV (oR S t))
  ·have e:∀s,stepI t s S=(t[s]?).toList:=fun s=>by
    refine Iw fun q=>?_
    rw[MZ hS]
    cases q with
    |zero=>rw[ab7,ab3];cases t[s]?<;>rfl
    |succ q=>
     rw[xC (by rw[oV];omega)]
     cases t[s]?<;>rfl
   have go:∀(t:List Int) (S:Nat),t.length<=S->((bT S).map fun s=>(t[s]?).toList).flatten=t:=by
    intro t
    induction t with
    |nil=>
     intro S _
     have:∀L:List Nat,(L.map fun s=>((([]:List Int)[s]?).toList)).flatten=[]:=fun L=>by induction L with
      |nil=>rfl
      |cons a L ih=>simp
     exact this _
    |cons x t ih=>
     intro S hl
     cases S with
     |zero=>simp at hl
     |succ S=>
      rw[List.range_succ_eq_map,dM,lE,jG]
      have:=ih S (by simpa using hl)
      show [x]++((bT S).map fun s=>(t[s]?).toList).flatten=x::t
      rw[this]
      rfl
   have e2:((bT S).map fun s=>stepI t s S)=(bT S).map fun s=>(t[s]?).toList:=xD fun s _=>e s
   rw[e2,go t S (by omega)]
theorem UR:∀ {Ls:List (List Int)} {p:Nat} {x:Int},Ls.flatten[p]?=some x->∃s o l,Ls[s]?=some l/\l[o]?=some x/\p=(Ls.take s).flatten.length+o
 | [],_,_,h=>by simp at h
 |l::Ls,p,x,h=>by
  rw[jG]at h
  by_cases hp:p<l.length
  ·rw[nM hp]at h
   exact⟨0,p,l,rfl,h,by simp⟩
  ·rw[nN (by omega)]at h
   obtain⟨s,o,l',e1,e2,e3⟩:=UR h
   refine⟨s+1,o,l',by simpa using e1,e2,?_⟩
   rw[amP,jG,bW]
   omega
theorem ala{Ls:List (List Int)}{n:Nat}:∀ {s s':Nat},s<=s'->s'<=Ls.length->(∀i l,s<=i->i<s'->Ls[i]?=some l->n<=l.length)->(Ls.take s).flatten.length+n*(s'-s)<=(Ls.take s').flatten.length
 |s,0,h,_,_=>by
  have:s=0:=by omega
  subst this
  simp
 |s,s'+1,h,hl,hn=>by
  by_cases e:s=s'+1
  ·subst e;simp
  ·have ih:=ala (s:=s) (s':=s') (by omega) (by omega) fun i l h1 h2 h3=>hn i l h1 (by omega) h3
   have e2:Ls.take (s'+1)=Ls.take s'++[Ls[s']'(by omega)]:=by rw[jW,bZ (by omega)];rfl
   rw[e2,xB,bW]
   have h3:=hn s' _ (by omega) (by omega) (bZ (show s'<Ls.length by omega))
   have h4:([Ls[s']'(by omega)]:List (List Int)).flatten.length=(Ls[s']'(by omega)).length:=by simp
   rw[h4,show s'+1-s=(s'-s)+1 by omega,oV]
   omega
noncomputable def jl(aI t:List Int)(S n s:Nat):List Int:=aI++stepI t s S++fj (n-(aI++stepI t s S).length) (-1)
noncomputable def kr(aI t:List Int)(S n:Nat):List Int:=((bT S).map (jl aI t S n)).flatten++aI
structure HX(aI t:List Int)(S:Nat):Prop where
 nd:aI.Nodup
 apart:∀x∈aI,x∉t
 pos1:∀x∈aI,x≠-1
 pos2:∀x∈t,x≠-1
 none:S=0->t=[]
 blk:∀x,∃p c,AK t x p c/\c<=S/\(c=S->∃r,p=S*r)
theorem aaC(aI t:List Int)(S n s:Nat):(jl aI t S n s).length=max (aI.length+(stepI t s S).length) n:=by
 unfold jl
 rw[bW,rH,bW]
 omega
theorem axP{aI t:List Int}{S n:Nat}(d:HX aI t S)(hn:1<=n){i j:Nat}{x:Int}(je:i<j)(hx:x≠-1)(h1:(kr aI t S n)[i]?=some x)(h2:(kr aI t S n)[j]?=some x):n<=j-i:=by
 have eL:kr aI t S n=((bT S).map (jl aI t S n)++[aI]).flatten:=by unfold kr;rw[xB];simp
 rw[eL]at h1 h2
 generalize hLs:(bT S).map (jl aI t S n)++[aI]=Ls at h1 h2
 have azu:Ls.length=S+1:=by rw[<- hLs];simp
 have at_:∀s l,Ls[s]?=some l->(s<S/\l=jl aI t S n s)\/(s=S/\l=aI):=fun s l e=>by
  rw[<- hLs]at e
  by_cases hs:s<S
  ·rw[nM (by simpa using hs),dG,N1 hs]at e
   exact .inl ⟨hs,(cY e).symm⟩
  ·rw[nN (by simp;omega)]at e
   simp only[aC,um]at e
   by_cases h0:s-S=0
   ·rw[h0]at e
    exact .inr ⟨by omega,(cY e).symm⟩
   ·rw[xC (by simp;omega)]at e
    cases e
 have aqE:∀s l,s<S->Ls[s]?=some l->n<=l.length:=fun s l hs e=>by
  rcases at_ s l e with⟨_,rfl⟩ | ⟨z,_⟩
  ·rw[aaC];omega
  ·omega
 have Bq:∀s s',s<=s'->s'<=S->(Ls.take s).flatten.length+n*(s'-s)<=(Ls.take s').flatten.length:=fun s s' h h'=>
  ala h (by omega) fun i l h1 h2 h3=>aqE i l (by omega) h3
 have yX:∀s o l,Ls[s]?=some l->l[o]?=some x->s<=S/\((aI[o]?=some x/\x∈aI)\/(s<S/\1<=S/\∃q,o=aI.length+q/\t[s+S*q]?=some x)):=fun s o l e1 e2=>by
  rcases at_ s l e1 with⟨hs,rfl⟩ | ⟨rfl,rfl⟩
  ·refine⟨lG hs,?_⟩
   unfold jl at e2
   by_cases ho:o<(aI++stepI t s S).length
   ·rw[nM ho]at e2
    by_cases ht:o<aI.length
    ·rw[nM ht]at e2
     exact .inl ⟨e2,eB e2⟩
    ·rw[nN (by omega),MZ (by omega)]at e2
     exact .inr ⟨hs,by omega,o-aI.length,by omega,e2⟩
   ·rw[nN (by omega)]at e2
    exact absurd (NX (eB e2)) hx
  ·exact⟨br _,.inl ⟨e2,eB e2⟩⟩
 obtain⟨s,o,l,a1,a2,rfl⟩:=UR h1
 obtain⟨s',o',l',b1,b2,rfl⟩:=UR h2
 obtain⟨hs,c1⟩:=yX s o l a1 a2
 obtain⟨z9,c2⟩:=yX s' o' l' b1 b2
 have UU:∀ {m:Nat},1<=m->n<=n*m:=fun hm=>ab4 n hm
 rcases c1 with⟨t1,m1⟩ | ⟨l1,S1,q,rfl,t1⟩
 ·rcases c2 with⟨t2,_⟩ | ⟨_,_,q',_,t2⟩
  ·have eo:o=o':=by
    obtain⟨g1,g2⟩:=iw.mp t1
    obtain⟨g3,g4⟩:=iw.mp t2
    exact(abM d.nd).mp (g2.trans g4.symm)
   subst eo
   rcases Og s s' with z | z | z
   ·have:=Bq s s' (by omega) z9
    have:=UU (m:=s'-s) (by omega)
    omega
   ·subst z;omega
   ·have:=Bq s' s (by omega) hs
    omega
  ·exact absurd (eB t2) (d.apart x m1)
 ·rcases c2 with⟨t2,m2⟩ | ⟨l2,_,q',rfl,t2⟩
  ·exact absurd (eB t1) (d.apart x m2)
  ·obtain⟨p,c,b,hc,hp⟩:=d.blk x
   have u1:=(b _).mp t1
   have u2:=(b _).mp t2
   rcases Og q q' with z | z | z
   ·-- then s' is ahead
    have hq:S*(q+1)<=S*q':=xG S z
    rw[oV]at hq
    have hss:s'<s:=by omega
    have:=Bq s' s (by omega) hs
    have hq2:q'=q+1:=by
     by_cases z2:q'=q+1
     ·exact z2
     ·have oq:S*(q+2)<=S*q':=xG S (by omega)
      rw[ab6]at oq
      omega
    have:=UU (m:=s-s') (by omega)
    omega
   ·subst z
    rcases Og s s' with y | y | y
    ·have:=Bq s s' (by omega) z9
     have:=UU (m:=s'-s) (by omega)
     omega
    ·subst y;omega
    ·have:=Bq s' s (by omega) hs
     omega
   ·have hq:S*(q'+1)<=S*q:=xG S z
    rw[oV]at hq
    have hss:s<s':=by omega
    have hq2:q=q'+1:=by
     by_cases z2:q=q'+1
     ·exact z2
     ·have oq:S*(q'+2)<=S*q:=xG S (by omega)
      rw[ab6]at oq
      omega
    have hf:=Bq s s' (by omega) z9
    by_cases y:s'=s+1
    ·-- a kind with one thing for every stretch keeps to one Mv
     exfalso
     subst hq2
     rw[oV]at u1
     have hcS:c=S:=by omega
     obtain⟨r,rfl⟩:=hp hcS
     rw[hcS]at u1 u2
     have r1:S*r<S*(q'+1)+0:=by rw[oV];omega
     have r2:r<q'+1:=Nat.lt_of_mul_lt_mul_left (a:=S) (by omega)
     have r3:S*r<=S*q':=xG S (by omega)
     omega
    ·have h2:n*2<=n*(s'-s):=xG n (by omega)
     omega
theorem axR{aI t:List Int}{S n:Nat}(d:HX aI t S):((kr aI t S n).filter fun k=>decide (k≠-1)).Perm ((fj (S+1) aI).flatten++t):=by
 have f1:∀l:List Int,(∀x∈l,x≠-1)->l.filter (fun k=>decide (k≠-1))=l:=fun l h=>amD.mpr fun x hx=>decide_eq_true (h x hx)
 have f2:∀m:Nat,(fj m (-1:Int)).filter (fun k=>decide (k≠-1))=[]:=fun m=>amC.mpr fun x hx=>by rw[NX hx];simp
 have eY:∀s,(jl aI t S n s).filter (fun k=>decide (k≠-1))=aI++stepI t s S:=fun s=>by
  unfold jl
  rw[amB,f2,Iu,f1]
  intro x hx
  rcases lQ.mp hx with z | z
  ·exact d.pos1 x z
  ·unfold stepI at z
   obtain⟨k,_,hk⟩:=abV.mp z
   exact d.pos2 x (eB hk)
 unfold kr
 rw[amB,f1 aI d.pos1,List.filter_flatten,lE]
 have e:((fun l:List Int=>l.filter fun k=>decide (k≠-1)) ∘ jl aI t S n)=fun s=>aI++stepI t s S:=funext eY
 rw[e]
 have go:∀L:List Nat,(L.map fun s=>aI++stepI t s S).flatten.Perm ((fj L.length aI).flatten++(L.map fun s=>stepI t s S).flatten):=by
  intro L
  induction L with
  |nil=>simp
  |cons a L ih=>
   simp only[dM,jG,gF,rJ,fZ]
   refine zh _ ((ih.append_left _).trans ?_)
   rw[<- fZ,<- fZ]
   exact lF.append_right _
 have h1:=go (bT S)
 rw[um]at h1
 have h2:((bT S).map fun s=>stepI t s S).flatten.Perm t:=by
  by_cases hS:S=0
  ·subst hS
   rw[d.none rfl]
   simp
  ·exact Tz (by omega) _ t (br _)
 refine(h1.append_right aI).trans ?_
 rw[rJ,jG]
 refine(lF).trans ?_
 rw[fZ]
 exact(h2.append_left _).append_left _
theorem axQ{aI t:List Int}{S n:Nat}(d:HX aI t S):(kr aI t S n).length=(S+1)*aI.length+t.length\/(kr aI t S n).length=n*S+aI.length:=by
 unfold kr
 rw[bW]
 have axX:∀(F:Nat->List Int) (c:Nat) (L:List Nat),(∀s∈L,(F s).length=c)->(L.map F).flatten.length=c*L.length:=by
  intro F c L
  induction L with
  |nil=>intro _;simp
  |cons a L ih=>
   intro h
   rw[dM,jG,bW,ih fun s hs=>h s (iS _ hs),h a (by simp),gF,oV]
   omega
 by_cases cR:∀s,s<S->aI.length+(stepI t s S).length<=n
 ·right
  rw[axX _ n _ fun s hs=>by rw[aaC];have:=cR s (iG.mp hs);omega,um]
 ·left
  have hS:1<=S:=by
   by_cases h0:S=0
   ·exact absurd (fun s hs=>by omega) cR
   ·omega
  obtain⟨s0,BR⟩:∃s,¬(s<S->aI.length+(stepI t s S).length<=n):=by
   by_cases z:∃s,¬(s<S->aI.length+(stepI t s S).length<=n)
   ·exact z
   ·exact absurd (fun s hs=>by
     by_cases y:aI.length+(stepI t s S).length<=n
     ·exact y
     ·exact absurd ⟨s,fun q=>y (q hs)⟩ z) cR
  have hs1:s0<S:=by
   by_cases z:s0<S
   ·exact z
   ·exact absurd (fun q=>absurd q z) BR
  have BS:n<aI.length+(stepI t s0 S).length:=by
   by_cases z:aI.length+(stepI t s0 S).length<=n
   ·exact absurd (fun _=>z) BR
   ·omega
  -- the numbers of others differ by one at most
  have cnt:∀s,s<S->(stepI t s0 S).length<=(stepI t s S).length+1:=fun s hs=>by
   rw[akS hS,akS hS]
   have h1:t.length-s0+S-1<=(t.length-s+S-1)+S:=by omega
   have h2:=Nat.div_le_div_right (c:=S) h1
   rw[Nat.add_div_right _ (by omega)]at h2
   exact h2
  have aon:∀s∈bT S,jl aI t S n s=aI++stepI t s S:=fun s hs=>by
   unfold jl
   have:=cnt s (iG.mp hs)
   have e:n-(aI++stepI t s S).length=0:=by rw[bW];omega
   rw[e]
   simp
  rw[xD aon]
  have go:∀L:List Nat,(L.map fun s=>aI++stepI t s S).flatten.length=L.length*aI.length+(L.map fun s=>stepI t s S).flatten.length:=by
   intro L
   induction L with
   |nil=>simp
   |cons a L ih=>
    simp only[dM,jG,bW,gF,ih,IK]
    omega
  rw[go,(Tz hS _ t (br _)).length_eq,um,IK]
  omega
theorem aqt{ks:List Int}{f:Int->Nat}{S:Nat}(hn:ks.Nodup)(hd:ks.Pairwise fun a b=>f b<=f a)(hS:∀k∈ks,f k<=S)(x:Int):∃p c,AK (cO ks f) x p c/\c<=S/\(c=S->∃r,p=S*r):=by
 by_cases hx:x∈ks
 ·obtain⟨xs,ys,e⟩:=amv hx
  refine⟨(cO xs f).length,f x,by rw[e];exact aiw (by rw[<- e];exact hn),hS x hx,fun hc=>⟨xs.length,?_⟩⟩
  rw[e]at hd
  have h3:=(abY.mp hd).2.2
  have:∀zs:List Int,(∀z∈zs,f z=S)->(cO zs f).length=S*zs.length:=by
   intro zs
   induction zs with
   |nil=>intro _;rfl
   |cons z zs ih=>
    intro h
    rw[Ca,bW,rH,ih fun y hy=>h y (iS _ hy),h z (by simp),gF,oV]
    omega
  refine this xs fun z hz=>?_
  have h4:=h3 z hz x (by simp)
  have h5:=hS z (by rw[e];exact abU _ hz)
  omega
 ·exact⟨0,0,fun i=>⟨fun h=>absurd (Ai (eB h)) hx,fun h=>by omega⟩,fz _,fun h=>⟨0,rfl⟩⟩
end Tl
set_option maxHeartbeats 1000000
namespace K7
open PySem PySem.Spec PyProof.Rows L2 Tl
noncomputable def aI(i:Nat):Stmt:=PySem.Challenge.pw_apartrow_k07_answers_by_hand.main.body.getD i (.Pass ⟨0,0,0,0⟩)
noncomputable abbrev wz:Stmt:=aI 9
noncomputable abbrev wu:Stmt:=aI 10
noncomputable abbrev tE:Stmt:=aI 11
noncomputable abbrev wj:Stmt:=aI 12
noncomputable abbrev wk:Stmt:=aI 13
noncomputable abbrev wS:Stmt:=aI 14
noncomputable abbrev wH:Stmt:=aI 15
noncomputable abbrev tG:Stmt:=aI 16
noncomputable abbrev pO:Stmt:=aI 17
noncomputable abbrev wE:Stmt:=aI 18
noncomputable abbrev oK:Stmt:=aI 21
noncomputable abbrev sZ:Stmt:=aI 22
noncomputable abbrev wO:Stmt:=aI 23
noncomputable abbrev wL:Stmt:=aI 24
noncomputable abbrev wR:Stmt:=aI 25
noncomputable abbrev wK:Stmt:=aI 26
noncomputable abbrev ww:Stmt:=aI 27
noncomputable abbrev sY:Stmt:=aI 28
noncomputable abbrev tF:Stmt:=aI 29
noncomputable abbrev wm:Stmt:=aI 30
noncomputable abbrev sX:Stmt:=aI 31
noncomputable abbrev wA:Stmt:=aI 32
noncomputable abbrev wF:Stmt:=aI 33
noncomputable abbrev tw:Stmt:=aI 34
noncomputable abbrev wP:Stmt:=aI 43
noncomputable abbrev wQ:Stmt:=aI 44
noncomputable abbrev wM:Stmt:=aI 46
noncomputable abbrev wI:Stmt:=aI 47
noncomputable abbrev wW:Stmt:=aI 48
noncomputable abbrev tD:Stmt:=aI 49
noncomputable abbrev wD:Stmt:=aI 51
noncomputable abbrev wC:Stmt:=aI 52
noncomputable abbrev wB:Stmt:=aI 53
noncomputable abbrev wl:Stmt:=aI 54
noncomputable abbrev wV:Stmt:=aI 55
noncomputable abbrev wU:Stmt:=aI 56
noncomputable abbrev wN:Stmt:=aI 57
noncomputable abbrev vU:Stmt:=aI 59
noncomputable abbrev vV:Stmt:=aI 60
noncomputable abbrev vY:Stmt:=aI 61
noncomputable abbrev vZ:Stmt:=aI 62
noncomputable abbrev sV:Stmt:=aI 63
noncomputable abbrev wg:Stmt:=aI 65
noncomputable abbrev vR:Stmt:=aI 66
noncomputable abbrev sW:Stmt:=aI 67
noncomputable abbrev we:Stmt:=aI 68
noncomputable abbrev qH:Stmt:=aI 69
noncomputable abbrev vX:Stmt:=aI 70
noncomputable abbrev qG:Stmt:=aI 71
noncomputable abbrev wc:Stmt:=aI 72
noncomputable abbrev qE:Stmt:=aI 73
noncomputable abbrev qF:Stmt:=aI 74
noncomputable abbrev vW:Stmt:=aI 75
noncomputable abbrev pP:Stmt:=aI 76
noncomputable abbrev vO:Stmt:=ng (aI 36) 0
noncomputable abbrev vP:Stmt:=ng (aI 36) 1
noncomputable abbrev vM:Stmt:=ng (aI 37) 0
noncomputable abbrev vN:Stmt:=ng (aI 37) 1
noncomputable abbrev vG:Stmt:=ng (aI 38) 0
noncomputable abbrev vJ:Stmt:=ng (aI 38) 1
noncomputable abbrev vI:Stmt:=ng (aI 38) 2
noncomputable abbrev vH:Stmt:=ng (aI 38) 3
noncomputable abbrev vQ:Stmt:=ng (aI 39) 0
noncomputable abbrev sU:Stmt:=ng (aI 39) 1
noncomputable abbrev vK:Stmt:=ng (aI 40) 0
noncomputable abbrev vL:Stmt:=ng (aI 40) 1
noncomputable abbrev vE:Stmt:=ng (aI 41) 0
noncomputable abbrev vF:Stmt:=ng (aI 41) 1
set_option genInjectivity false in
/-- the addresses of yX the aI has made -/
structure Ad where
 Uv:aa
 S4:bE
 Ut:aa
 SY:bE
 Us:aa
 SX:bE
 Ul:aa
 SO:bE
 Um:aa
 SQ:bE
 UN:aa
 Tq:bE
 UC:aa
 Td:bE
 Kz:aa
 Jf:bE
 Kw:aa
 SR:bE
 Uz:aa
 S8:bE
 zO:aa
 zM:bE
 Uj:aa
 SM:bE
 UJ:aa
 Tk:bE
 UF:aa
 Tg:bE
 UM:aa
 Tp:bE
 UE:aa
 Tf:bE
 Uu:aa
 S0:bE
 Ui:aa
 SK:bE
 UG:aa
 Th:bE
 Ur:aa
 SW:bE
 Uh:aa
 SJ:bE
 Ky:aa
 Je:bE
 UB:aa
 Tc:bE
 Uk:aa
 SN:bE
 UK:aa
 Tn:bE
 UL:aa
 To:bE
 UH:aa
 Ti:bE
 UD:aa
 Te:bE
 UQ:aa
 Tu:bE
 Uo:aa
 SS:bE
 Uy:aa
 S7:bE
 Ux:aa
 S6:bE
 Uw:aa
 S5:bE
 Uq:aa
 SV:bE
 UP:aa
 Tt:bE
 UO:aa
 Tr:bE
 UI:aa
 Tj:bE
 TW:aa
 Sk:bE
 TX:aa
 Sl:bE
 T8:aa
 Su:bE
 T9:aa
 Sv:bE
 Ua:aa
 Sw:bE
 Ue:aa
 SD:bE
 TV:aa
 Sj:bE
 Ug:aa
 SH:bE
 Ud:aa
 Sz:bE
 Uf:aa
 SE:bE
 TZ:aa
 So:bE
 Ub:aa
 Sx:bE
 Uc:aa
 Sy:bE
 T6:aa
 Sq:bE
 T7:aa
 Ss:bE
 TY:aa
 Sm:bE
 UA:aa
 S9:bE
 Kr:aa
 Se:bE
 Ks:aa
 Sf:bE
 Ko:aa
 Sc:bE
 Kq:aa
 Sd:bE
 Kf:aa
 R5:bE
 Kl:aa
 R8:bE
 Kh:aa
 R7:bE
 Kg:aa
 R6:bE
 Ku:aa
 Sg:bE
 Kv:aa
 Sh:bE
 Km:aa
 R9:bE
 Kn:aa
 Sa:bE
 Kd:aa
 R3:bE
 Ke:aa
 R4:bE
 xU:aa
 gK:aa
 gJ:aa
 fH:aa
 iz:aa
 gI:aa
 gW:aa
 LK:aa
 qO:aa
 Ep:Tok
 Es:Tok
 Er:Tok
 Eo:Tok
structure Df(K:bG)(mg:Str->Option ao)(x:Str)(st:iT)(ps:List Str)(f:aa)(fd:bE):Prop where
 fn:ud K x x st f fd
 mg:mg x=some (.ref f)
 bd:Binds K fd ps []
structure mO(K:bG)(x q:Str)(st:iT)(ps:List Str)(f:aa)(fd:bE):Prop where
 fn:ud K x q st f fd
 bd:Binds K fd ps []
structure AV(K:bG)(C:aa):Prop where
 ha:dN K (.ref C) "__class__" = some (some (.builtin "object.__class__"))
 hn:acy K (.builtin "object.__class__") "__get__" = some (some (.builtin "getset_descriptor.__get__"))
 htk:acA K (.builtin "object.__class__")=some true
 hm:zA K C (.type "object")=some true
structure Txt(K:bG)(mg:Str->Option ao)(Z:Ad):Prop where
 fU:Df K mg "is_whole" wz ["value"] Z.Uv Z.S4
 Fc:Df K mg "is_kind" wu ["value"] Z.Ut Z.SY
 Fb:Df K mg "is_heap" tE ["value"] Z.Us Z.SX
 kH:Df K mg "check_heap" wj ["value"] Z.Ul Z.SO
 xW:Df K mg "check_number" wk ["value"] Z.Um Z.SQ
 eV:Df K mg "tally" wS ["kinds"] Z.UN Z.Tq
 qp:Df K mg "most_alike" wH ["numbers"] Z.UC Z.Td
 yT:Df K mg "top_kinds" tG ["numbers"] Z.Kz Z.Jf
 xY:Df K mg "commonest_first" pO ["numbers"] Z.Kw Z.SR
 yz:Df K mg "laid_out" wE ["numbers","kinds"] Z.Uz Z.S8
 d7:Df K mg "copied" oK ["value"] Z.zO Z.zM
 gH:Df K mg "are_whole" sZ ["values"] Z.Uj Z.SM
 nC:Df K mg "same_kinds" wO ["kinds","heap"] Z.UJ Z.Tk
 yG:Df K mg "neighbours_unlike" wL ["kinds"] Z.UF Z.Tg
 Hz:Df K mg "stand_apart" wR ["kinds","apart"] Z.UM Z.Tp
 FO:Df K mg "needed_length" wK ["heap","apart"] Z.UE Z.Tf
 Fd:Df K mg "is_pair" ww ["value"] Z.Uu Z.S0
 DS:Df K mg "are_pairs" sY ["values"] Z.Ui Z.SK
 FS:Df K mg "none_left_to_pair" tF ["pairs","left"] Z.UG Z.Th
 E9:Df K mg "is_group" wm ["value","size"] Z.Ur Z.SW
 DR:Df K mg "are_groups" sX ["values","size"] Z.Uh Z.SJ
 joined:Df K mg "joined" wA ["parts"] Z.Ky Z.Je
 FD:Df K mg "lie_in" wF ["kinds","heap"] Z.UB Z.Tc
 xV:Df K mg "can_be_made" tw ["many","size","numbers"] Z.Uk Z.SN
 Hv:Df K mg "shortest_order" wP ["numbers","apart"] Z.UK Z.Tn
 Hw:Df K mg "spaced" wQ ["heap","apart"] Z.UL Z.To
 paired:Df K mg "paired" wM ["heap"] Z.UH Z.Ti
 FL:Df K mg "most_groups" wI ["numbers","size"] Z.UD Z.Te
 HL:Df K mg "usable_things" wW ["numbers","many"] Z.UQ Z.Tu
 grouped:Df K mg "grouped" tD ["heap","size"] Z.Uo Z.SS
 yy:Df K mg "kind_beyond" wD ["numbers","bound"] Z.Uy Z.S7
 Fk:Df K mg "kind_barring_row" wC ["heap","numbers"] Z.Ux Z.S6
 Fj:Df K mg "kind_barring_ring" wB ["heap","numbers"] Z.Uw Z.S5
 E6:Df K mg "in_turn" wl ["evens","odds"] Z.Uq Z.SV
 yV:Df K mg "unlike_order" wV ["numbers"] Z.UP Z.Tt
 unlike:Df K mg "unlike" wU ["heap"] Z.UO Z.Tr
 yQ:Df K mg "ringed" wN ["heap"] Z.UI Z.Tj
 mU:Df K mg "_law_cell_at" vU ["_law_script","_law_k"] Z.TW Z.Sk
 dH:Df K mg "_law_draw" vV ["_law_cell","_law_k","_law_many_here"] Z.TX Z.Sl
 DH:Df K mg "_law_heap" vY ["_law_script"] Z.T8 Z.Su
 mV:Df K mg "_law_many" vZ ["_law_heap_here"] Z.T9 Z.Sv
 DI:Df K mg "_law_most" sV ["_law_heap_here"] Z.Ua Z.Sw
 cZ:Df K mg "_law_says" wg ["_law_told","_law_due"] Z.Ue Z.SD
 kG:Df K mg "_law_bent" vR ["_law_kinds","_law_cell"] Z.TV Z.Sj
 xO:Df K mg "_law_unlike" sW ["_law_kinds"] Z.Ug Z.SH
 DL:Df K mg "_law_rows_right" we ["_law_heap_here","_law_cell"] Z.Ud Z.Sz
 DM:Df K mg "_law_spaced" qH ["_law_heap_here","_law_kinds","_law_apart"] Z.Uf Z.SE
 DE:Df K mg "_law_gaps_right" vX ["_law_heap_here","_law_cell"] Z.TZ Z.So
 DJ:Df K mg "_law_paired" qG ["_law_heap_here","_law_pairs","_law_left"] Z.Ub Z.Sx
 DK:Df K mg "_law_pairs_right" wc ["_law_heap_here","_law_cell"] Z.Uc Z.Sy
 DF:Df K mg "_law_grouped" qE ["_law_heap_here","_law_groups","_law_size"] Z.T6 Z.Sq
 DG:Df K mg "_law_groups_right" qF ["_law_heap_here","_law_cell"] Z.T7 Z.Ss
 DC:Df K mg "_law_few_right" vW [] Z.TY Z.Sm
 law:Df K mg "law" pP ["_law_script"] Z.UA Z.S9
 Ba:mO K "__init__" "Row.__init__" vO ["self","kinds"] Z.Kr Z.Se
 E5:Mk K Z.gK Z.Kr
 Dz:mO K "shows" "Row.shows" vP ["self","heap"] Z.Ks Z.Sf
 KW:pX K Z.gK "shows" Z.Ks
 xM:mO K "__init__" "Ring.__init__" vM ["self","kinds"] Z.Ko Z.Sc
 Ag:Mk K Z.gJ Z.Ko
 zD:mO K "shows" "Ring.shows" vN ["self","heap"] Z.Kq Z.Sd
 Bx:pX K Z.gJ "shows" Z.Kq
 xF:mO K "__init__" "Much.__init__" vG ["self","kind"] Z.Kf Z.R5
 Af:Mk K Z.fH Z.Kf
 IF:mO K "surplus" "Much.surplus" vJ ["self","heap"] Z.Kl Z.R8
 Va:pX K Z.fH "surplus" Z.Kl
 Oa:mO K "shows" "Much.shows" vI ["self","heap"] Z.Kh Z.R7
 agT:pX K Z.fH "shows" Z.Kh
 IE:mO K "bars_ring" "Much.bars_ring" vH ["self","heap"] Z.Kg Z.R6
 U':pX K Z.fH "bars_ring" Z.Kg
 IS:mO K "__init__" "Spaced.__init__" vQ ["self","kinds"] Z.Ku Z.Sg
 Wd:Mk K Z.iz Z.Ku
 Ov:mO K "shows" "Spaced.shows" sU ["self","heap","apart"] Z.Kv Z.Sh
 agV:pX K Z.iz "shows" Z.Kv
 IM:mO K "__init__" "Paired.__init__" vK ["self","pairs","left"] Z.Km Z.R9
 Wc:Mk K Z.gI Z.Km
 Oj:mO K "shows" "Paired.shows" vL ["self","heap"] Z.Kn Z.Sa
 agU:pX K Z.gI "shows" Z.Kn
 C5:mO K "__init__" "Grouped.__init__" vE ["self","groups"] Z.Kd Z.R3
 Lr:Mk K Z.gW Z.Kd
 Ic:mO K "shows" "Grouped.shows" vF ["self","heap","size"] Z.Ke Z.R4
 U9:pX K Z.gW "shows" Z.Ke
 aqG:mg "Answer" = some (.ref Z.xU)
 Cf:mg "Row" = some (.ref Z.gK)
 sG:lB K Z.gK
 HE:AV K Z.gK
 Ck:nQ K Z.gK "kinds"
 yE:mg "Ring" = some (.ref Z.gJ)
 ni:lB K Z.gJ
 HD:AV K Z.gJ
 yF:nQ K Z.gJ "kinds"
 Ak:mg "Much" = some (.ref Z.fH)
 pK:lB K Z.fH
 HC:AV K Z.fH
 Cj:nQ K Z.fH "kind"
 Y4:mg "Spaced" = some (.ref Z.iz)
 sH:lB K Z.iz
 ayw:AV K Z.iz
 vm:nQ K Z.iz "kinds"
 Y3:mg "Paired" = some (.ref Z.gI)
 nh:lB K Z.gI
 ayv:AV K Z.gI
 Ao:nQ K Z.gI "pairs"
 An:nQ K Z.gI "left"
 L3:mg "Grouped" = some (.ref Z.gW)
 vf:lB K Z.gW
 ayu:AV K Z.gW
 Am:nQ K Z.gW "groups"
 GN:bz K (.ref Z.gK) (.ref Z.xU)=some true
 Cy:bz K (.ref Z.gK) (.ref Z.gK)=some true
 GU:bz K (.ref Z.gK) (.ref Z.gJ)=some false
 GP:bz K (.ref Z.gK) (.ref Z.fH)=some false
 GV:bz K (.ref Z.gK) (.ref Z.iz)=some false
 GQ:bz K (.ref Z.gK) (.ref Z.gI)=some false
 GO:bz K (.ref Z.gK) (.ref Z.gW)=some false
 GF:bz K (.ref Z.gJ) (.ref Z.xU)=some true
 GK:bz K (.ref Z.gJ) (.ref Z.gK)=some false
 Cw:bz K (.ref Z.gJ) (.ref Z.gJ)=some true
 GI:bz K (.ref Z.gJ) (.ref Z.fH)=some false
 GL:bz K (.ref Z.gJ) (.ref Z.iz)=some false
 GJ:bz K (.ref Z.gJ) (.ref Z.gI)=some false
 GH:bz K (.ref Z.gJ) (.ref Z.gW)=some false
 Gq:bz K (.ref Z.fH) (.ref Z.xU)=some true
 Cv:bz K (.ref Z.fH) (.ref Z.gK)=some false
 Cu:bz K (.ref Z.fH) (.ref Z.gJ)=some false
 Gs:bz K (.ref Z.fH) (.ref Z.fH)=some true
 Gv:bz K (.ref Z.fH) (.ref Z.iz)=some false
 Gu:bz K (.ref Z.fH) (.ref Z.gI)=some false
 Gr:bz K (.ref Z.fH) (.ref Z.gW)=some false
 GW:bz K (.ref Z.iz) (.ref Z.xU)=some true
 Hf:bz K (.ref Z.iz) (.ref Z.gK)=some false
 G0:bz K (.ref Z.iz) (.ref Z.gJ)=some false
 GY:bz K (.ref Z.iz) (.ref Z.fH)=some false
 Hg:bz K (.ref Z.iz) (.ref Z.iz)=some true
 GZ:bz K (.ref Z.iz) (.ref Z.gI)=some false
 GX:bz K (.ref Z.iz) (.ref Z.gW)=some false
 Gw:bz K (.ref Z.gI) (.ref Z.xU)=some true
 GB:bz K (.ref Z.gI) (.ref Z.gK)=some false
 GA:bz K (.ref Z.gI) (.ref Z.gJ)=some false
 Gy:bz K (.ref Z.gI) (.ref Z.fH)=some false
 GC:bz K (.ref Z.gI) (.ref Z.iz)=some false
 Gz:bz K (.ref Z.gI) (.ref Z.gI)=some true
 Gx:bz K (.ref Z.gI) (.ref Z.gW)=some false
 Gi:bz K (.ref Z.gW) (.ref Z.xU)=some true
 Go:bz K (.ref Z.gW) (.ref Z.gK)=some false
 Gn:bz K (.ref Z.gW) (.ref Z.gJ)=some false
 Gk:bz K (.ref Z.gW) (.ref Z.fH)=some false
 Gp:bz K (.ref Z.gW) (.ref Z.iz)=some false
 Gm:bz K (.ref Z.gW) (.ref Z.gI)=some false
 Gj:bz K (.ref Z.gW) (.ref Z.gW)=some true
 aea:codeOf K Z.Kw=some (.ref Z.LK)
 aee:Bk K Z.LK Z.qO=true
 j3:mg "isinstance" = none
 adY:mg "int" = none
 O6:mg "bool" = none
 gU:mg "list" = none
 DT:mg "tuple" = none
 IY:mg "set" = none
 xR:mg "all" = none
 O5:mg "any" = none
 cW:mg "len" = none
 IW:mg "max" = none
 IX:mg "min" = none
 IZ:mg "sum" = none
 mW:mg "sorted" = none
 xS:mg "range" = none
 adX:mg "enumerate" = none
 O7:mg "zip" = none
 aio:mg "GREATEST_KIND" = some (.int 999 Z.Ep)
 aiq:mg "MOST_THINGS" = some (.int 1000000 Z.Es)
 aip:mg "GREATEST_NUMBER" = some (.int 1000 Z.Er)
 LJ:mg "GAP" = some (.int (-1) Z.Eo)
end K7
namespace K7
open PySem PySem.Spec PyProof.Rows L2 Tl
seal jt PS PE PT PW PA PG rK PI rL PC
section
variable{P:cH}{w:cj}{K:bG}{mg:Str->Option ao}{base:bL}{Z:Ad}
theorem aqn:bz K (.type "int") (.type "int")=some true:=by rfl
theorem aqm:bz K (.type "int") (.type "bool")=some false:=by rfl
theorem aqo:bz K (.type "int") (.type "list")=some false:=by rfl
theorem aqp:bz K (.type "int") (.type "tuple")=some false:=by rfl
theorem Ah:bz K (.type "list") (.type "list")=some true:=by rfl
theorem ait:bz K (.type "tuple") (.type "tuple")=some true:=by rfl
theorem aqq:bz K (.type "tuple") (.type "list")=some false:=by rfl
theorem j7{ns:List Int}{i:Nat}{x:V}(h:(ns.map V.int)[i]?=some x):∃n,ns[i]?=some n/\x=.int n:=by
 rw[dG]at h
 cases e:ns[i]? with
 |none=>rw[e]at h;cases h
 |some n=>rw[e]at h;exact⟨n,rfl,(cY h).symm⟩
theorem yC{n:Nat}(h:n<=1000):n<=sizeLine:=lG (AA h)
noncomputable def axt:Sp:=fun vs H Q _=>∃i:Int,vs=[.int i]/\Q (.bl true) H
theorem avv:bU ["value"] ["value"] (az wz):=⟨rfl,rfl,rfl,by decide +kernel,rfl,by decide +kernel,by decide +kernel⟩
theorem yJ(T:Txt K mg Z):bD P w K mg base bK 1 Z.Uv Z.S4 ["value"] axt:=by
 refine T.fU.fn.ok avv (fun vs H Q E h=>?_) (fun bg A outer s H vs Q E hr h=>?_)
 ·obtain⟨i,rfl,_⟩:=h
  rfl
 ·obtain⟨i,rfl,k⟩:=h
  refine⟨_,(aJ (aY (gO (bB lW rfl T.j3 boot_isinstance (aj (pv 0) (aj (mG rfl T.adY boot_int) aq))) (iZ (ajf (bB lW rfl T.j3 boot_isinstance (aj (pv 0) (aj (mG rfl T.O6 boot_bool) aq)))))))),?_⟩
  refine⟨_,rfl,_,_,_,_,rfl,.int i,aqn,true,rfl,cJ ?_⟩
  refine⟨_,rfl,_,_,_,_,rfl,.int i,aqm,false,rfl,k⟩
noncomputable def axq:Sp:=fun vs H Q _=>∃i:Int,vs=[.int i]/\Q (.bl (decide (0<=i/\i<=999))) H
theorem avt:bU ["value"] ["value"] (az wu):=⟨rfl,rfl,rfl,by decide +kernel,rfl,by decide +kernel,by decide +kernel⟩
theorem atG(T:Txt K mg Z):bD P w K mg base bK 2 Z.Ut Z.SY ["value"] axq:=by
 have lD:=yJ (P:=P) (w:=w) (base:=base) T
 refine T.Fc.fn.ok avt (fun vs H Q E h=>?_) (fun bg A outer s H vs Q E hr h=>?_)
 ·obtain⟨i,rfl,_⟩:=h
  rfl
 ·obtain⟨i,rfl,k⟩:=h
  refine⟨_,(aJ (aY (gO (aP lD (hr.mono (by decide)) rfl T.fU.mg T.fU.fn.kp T.fU.bd .nil aG (aj (pv 0) aq)) (iZ (auk Mr Mr aD (pv 0) (yM (v:=.int 999) rfl T.aio ⟨_,rfl⟩)))))),?_⟩
  refine⟨_,rfl,i,rfl,true,rfl,cJ ?_⟩
  refine⟨_,rfl,_,_,rfl,rfl,_,rfl,?_⟩
  by_cases h0:(0:Int)<=i
  ·rw[decide_eq_true h0]
   refine cJ ⟨_,_,rfl,rfl,?_⟩
   have e:decide (i<=999)=decide (0<=i/\i<=999):=by simp[h0]
   show Q (V.bl (decide (i<=999))) H
   rw[e]
   exact k
  ·rw[decide_eq_false h0]
   refine bH ?_
   have e:decide (0<=i/\i<=999)=false:=decide_eq_false fun h=>h0 h.1
   rw[e]at k
   exact k
noncomputable def axp:Sp:=fun vs H Q _=>∃(a:aa) (ns:List Int),vs=[.ref a]/\H a=some (.lst (ns.map V.int))/\ns.length<=1000000/\(∀n∈ns,0<=n/\n<=999)/\∀H',ak H H'->Q (.bl true) H'
theorem avs:bU ["value"] ["value"] (az tE):=⟨rfl,rfl,rfl,by decide +kernel,rfl,by decide +kernel,by decide +kernel⟩
theorem atF(T:Txt K mg Z):bD P w K mg base bK 3 Z.Us Z.SX ["value"] axp:=by
 have amc:=atG (P:=P) (w:=w) (base:=base) T
 refine T.Fb.fn.ok avs (fun vs H Q E h=>?_) (fun bg A outer s H vs Q E hr h=>?_)
 ·obtain⟨a,ns,rfl,_⟩:=h
  rfl
 ·obtain⟨a,ns,rfl,ha,hl,hb,k⟩:=h
  refine⟨_,(aH (bY (PW.pt (ji (eT (dm (bB lW rfl T.j3 boot_isinstance (aj (pv 0) (aj (mG rfl T.gU iJ) aq))))) (jP (cG mD (bB dI rfl T.cW dh (aj (pv 0) aq)) (yM (v:=.int 1000000) rfl T.aiq ⟨_,rfl⟩) (bI _))))) (aJ (aY cP)) b8)
   (aJ (aY (bB (zJ rfl) rfl T.xR Bh (aj (jz (N:=["kind"]) (cap:=[none]) rfl (iA (XN:=["value"]) (xs:=(az tE).names) rfl rfl (by decide +kernel)) (gf (pv 0)) (fun _ _ _=>(cK (i:=0) (show(["kind"]:List Str).Nodup by decide +kernel) rfl (aT rfl) (eF rfl))) (fun _ _ _=>jO) (fun _ _ _=>(aP amc (hr.mono (by decide)) rfl T.Fc.mg T.Fc.fn.kp T.Fc.bd .nil aG (aj (pv 0) aq)))) aq))))),?_⟩
  refine⟨_,rfl,_,_,_,_,rfl,.lst ha,Ah,true,rfl,bH ?_⟩
  refine⟨_,rfl,a,_,rfl,.inl (.of ha),_,_,rfl,rfl,_,rfl,?_⟩
  have bC:decide ((1000000:Int)<((ns.map V.int).length:Int))=false:=decide_eq_false (by rw[aC];omega)
  rw[bC]
  refine bH ?_
  refine⟨_,rfl,a,rfl,⟨_,.of ha⟩,YT (fun σ=>∃v,σ=[v]) (fun _=>.bl true) (by rw[aC];omega) ⟨none,rfl⟩ (.of ha) ?_ ?_⟩
  ·rintro i x σ' H' k2 r hx ⟨v,rfl⟩ sm hk
   obtain⟨n,hn,rfl⟩:=j7 hx
   refine⟨_,rfl,n,rfl,?_⟩
   have e:decide (0<=n/\n<=999)=true:=decide_eq_true (hb n (eB hn))
   rw[e]
   exact hk _ _ ⟨_,rfl⟩ (ak.refl _)
  ·intro D H' hD sm hA
   refine⟨.ref D,fj ns.length true,rfl,⟨D,rfl,.inl (.of ?_)⟩,?_⟩
   ·rw[hA,N5,List.map_const',aC]
   ·have e:(fj ns.length true).all id=true:=by simp
    rw[e]
    exact k H' sm
noncomputable def axe:Sp:=fun vs H Q _=>∃(a:aa) (ns:List Int),vs=[.ref a]/\H a=some (.lst (ns.map V.int))/\ns.length<=1000000/\(∀n∈ns,0<=n/\n<=999)/\∀H',ak H H'->Q .cF H'
theorem avo:bU ["value"] ["value"] (az wj):=⟨rfl,rfl,rfl,by decide +kernel,rfl,by decide +kernel,by decide +kernel⟩
theorem FZ(T:Txt K mg Z):bD P w K mg base bK 4 Z.Ul Z.SO ["value"] axe:=by
 have amb:=atF (P:=P) (w:=w) (base:=base) T
 refine T.kH.fn.ok avo (fun vs H Q E h=>?_) (fun bg A outer s H vs Q E hr h=>?_)
 ·obtain⟨a,ns,rfl,_⟩:=h
  rfl
 ·obtain⟨a,ns,rfl,ha,hl,hb,k⟩:=h
  refine⟨_,(aJ (bY (eT (dm (aP amb (hr.mono (by decide)) rfl T.Fb.mg T.Fb.fn.kp T.Fb.bd .nil aG (aj (pv 0) aq)))) sR b8)),?_⟩
  exact⟨_,rfl,a,ns,rfl,ha,hl,hb,fun H' s'=>⟨true,rfl,bH (k H' s')⟩⟩
theorem Fy(l:List (Int×Int)):(kvs l).length=l.length:=by simp[kvs]
theorem alv(l:List (Int×Int)):(kvs l).map (·.2)=(l.map (·.2)).map V.int:=by simp[kvs]
theorem XG(l:List (Int×Int)):(kvs l).map (·.1)=(l.map (·.1)).map cN:=by simp[kvs]
noncomputable def akP(K:bG):Sp:=fun vs H Q _=>∃(a:aa) (ns:List Int),vs=[.ref a]/\dO K H a (ns.map V.int)/\ns.length<=1000000/\∀d H',H d=none->ak H H'->H' d=some (.dK (kvs (bh ns)))->Q (.ref d) H'
theorem aam:bU ["kinds","numbers","kind"] ["kinds"] (az wS):=⟨rfl,rfl,rfl,by decide +kernel,rfl,by decide +kernel,by decide +kernel⟩
theorem vp(T:Txt K mg Z):bD P w K mg base bK 1 Z.UN Z.Tq ["kinds"] (akP K):=by
 refine T.eV.fn.ok aam (fun vs H Q E h=>?_) (fun bg A outer s H vs Q E hr h=>?_)
 ·obtain⟨a,ns,rfl,_⟩:=h
  rfl
 ·obtain⟨a,ns,rfl,ha,hl,k⟩:=h
  have hu:=pH hr
  refine⟨_,(aH (bR (i:=1) aam.nd rfl (aT rfl) Mt)
   (aH (iF iy rfl (gf (pv 0)) (cK (i:=2) aam.nd rfl (aT rfl)) (aJ (Gf hu (pv 1) (pv 2) (bM g9 (Ms hu (pv 1) (pv 2) aD ⟨rfl,rfl,rfl,rfl⟩) aD) rfl)))
   (aJ (aY (pv 1))))),?_⟩
  intro d hd
  have s1:ak H (upd H d (.dK [])):=(ak.refl H).upd hd
  refine⟨_,rfl,a,rfl,⟨_,s1.seq ha⟩,nX (K:=K) (a:=a) (xs:=ns.map V.int) (fun i σ H2=>∃v:Option V,σ=[some (.ref a),some (.ref d),v]/\ak H H2/\H2 d=some (.dK (kvs (bh (ns.take i)))))
   ⟨none,rfl,s1,au⟩ (fun i σ H2 _ ⟨_,_,s2,_⟩=>s2.seq ha) ?_ ?_⟩
  ·rintro i x σ H2 hx ⟨v,rfl,s2,h2⟩
   obtain⟨n,hn,rfl⟩:=j7 hx
   have uX:i<ns.length:=(iw.mp hn).1
   have ht:ns.take (i+1)=ns.take i++[n]:=by rw[jW,hn];rfl
   have bC:(kvs (bh (ns.take i))).length<sizeLine:=by
    have h1:=nD (ns.take i)
    have h2:(ns.take i).length<=ns.length:=by rw[jr];omega
    refine pQ ?_
    unfold kvs
    rw[aC]
    omega
   refine⟨_,rfl,d,rfl,.inl ⟨_,.inl h2⟩,_,rfl,_,gm.k (k:=cN n) h2,?_⟩
   have hg:(gj (kvs (bh (ns.take i))) (cN n:Key)).getD (V.int 0)=V.int ((get (bh (ns.take i)) n).getD 0):=by
    rw[oN]
    cases get (bh (ns.take i)) n<;>rfl
   rw[hg]
   refine⟨_,_,rfl,rfl,_,rfl,_,rfl,d,_,rfl,uc.k (k:=cN n) h2 bC,?_⟩
   refine⟨_,rfl,s2.upd hd,?_⟩
   rw[au,Ct,ht,alc]
   rfl
  ·rintro σ H2 ⟨v,rfl,s2,h2⟩
   rw[aC,mS]at h2
   exact⟨_,rfl,k d H2 hd s2 h2⟩
theorem xg{H:Hp}{d:aa}{l:List (Key×V)}(h:H d=some (.dK l)):HJ K "dict" (.ref d) H:=.inr (.inr (.inl ⟨rfl,.inl ⟨_,h⟩⟩))
theorem ir{H:Hp}{l:aa}{xs:List V}(h:H l=some (.lst xs)):HJ K "list" (.ref l) H:=.inl ⟨rfl,_,.of h⟩
noncomputable def oB(ks:List Int)(f:Int->Int):Int:=(ks.map f).foldl max 0
theorem aqX{ks:List Int}{f:Int->Int}{k:Int}(h:k∈ks):f k<=oB ks f:=(foldl_max (ks.map f) 0).2.1 _ (List.mem_map_of_mem h)
theorem aqW{ks:List Int}{f:Int->Int}{M:Int}(h0:∀k∈ks,0<=f k)(hM:M∈ks.map f)(yp:∀a∈ks.map f,a<=M):M=oB ks f:=by
 obtain⟨k,hk,rfl⟩:=oO.mp hM
 have h1:=aqX (f:=f) hk
 have h2:oB ks f<=f k:=by
  rcases(foldl_max (ks.map f) 0).2.2 with e | e
  ·have:=h0 k hk
   unfold oB
   omega
  ·exact yp _ e
 omega
theorem Zm(ns:List Int):oB ((bh ns).map (·.1)) (fun k=>(ns.count k:Int))=most ns:=by
 unfold oB most
 rw[Nb]
noncomputable def axz:Sp:=fun vs H Q _=>∃(d:aa) (ks:List Int) (f:Int->Int),vs=[.ref d]/\H d=some (.dK (kvs (iW ks f)))/\(∀k∈ks,0<=f k)/\∀H',ak H H'->Q (.int (oB ks f)) H'
theorem avy:bU ["numbers"] ["numbers"] (az wH):=⟨rfl,rfl,rfl,by decide +kernel,rfl,by decide +kernel,by decide +kernel⟩
theorem ZK(T:Txt K mg Z):bD P w K mg base bK 1 Z.UC Z.Td ["numbers"] axz:=by
 refine T.qp.fn.ok avy (fun vs H Q E h=>?_) (fun bg A outer s H vs Q E hr h=>?_)
 ·obtain⟨d,ks,f,rfl,_⟩:=h
  rfl
 ·obtain⟨d,ks,f,rfl,hd,hf,k⟩:=h
  refine⟨_,(aJ (aY (auj (anu rfl) rfl T.IW boot_max (aj (kj (ans rfl) rfl T.gU iJ (aj (sJ uB Oo acp Zl (pv 0)) aq)) aq) (auA aD auB)))),?_⟩
  refine⟨_,rfl,xg hd,d,_,rfl,rfl,hd,fun v hv=>?_⟩
  have j9:d≠v:=bf hd hv
  refine⟨v,d,_,rfl,au,by rw[aA j9];exact hd,fun l hl=>?_⟩
  have s1:ak H (upd H v (jY "dict_values" v d)):=(ak.refl H).upd hv
  have s2:=s1.upd (o:=.lst ((kvs (iW ks f)).map (·.2))) (s1.free hl)
  refine⟨.ref l,ks.map f,.int 0,rfl,rfl,⟨l,rfl,.inl (.of (by rw[au,alv,anV]))⟩,fun h0=>?_,fun gM M hM yp=>?_⟩
  ·have e:oB ks f=0:=by unfold oB;rw[h0];rfl
   rw[e]at k
   exact k _ s2
  ·rw[aqW hf hM yp]
   exact k _ s2
noncomputable def axL:Sp:=fun vs H Q _=>∃(d:aa) (ks:List Int) (f:Int->Int),vs=[.ref d]/\H d=some (.dK (kvs (iW ks f)))/\(∀k∈ks,0<=f k)/\ks.length<=63/\
 ∀(l:aa) (ts:List Int) (H':Hp),ts.Perm ks->ts.Pairwise (·<=·)->ak H H'->H l=none->H' l=some (.lst ((ts.filter fun k=>decide (f k=oB ks f)).map V.int))->Q (.ref l) H'
theorem akI:bU ["numbers","most"] ["numbers"] (az tG):=⟨rfl,rfl,rfl,by decide +kernel,rfl,by decide +kernel,by decide +kernel⟩
theorem atZ(T:Txt K mg Z):bD P w K mg base bK 2 Z.Kz Z.Jf ["numbers"] axL:=by
 have C4:=ZK (P:=P) (w:=w) (base:=base) T
 refine T.yT.fn.ok akI (fun vs H Q E h=>?_) (fun bg A outer s H vs Q E hr h=>?_)
 ·obtain⟨d,ks,f,rfl,_⟩:=h
  rfl
 ·obtain⟨d,ks,f,rfl,hd,hf,hl,k⟩:=h
  have hu:=pH hr
  refine⟨_,(aH (bR (i:=1) akI.nd rfl (eF rfl) (aP C4 (hr.mono (by decide)) rfl T.qp.mg T.qp.fn.kp T.qp.bd .nil aG (aj (pv 0) aq)))
   (aJ (aY (jz (N:=["kind","most","numbers"]) (cap:=[none,some 1,some 0]) rfl (iA (XN:=["numbers","most"]) (xs:=(az tG).names) rfl rfl (by decide +kernel)) (gf (bB (ad' rfl) rfl T.mW oY (aj (pv 0) aq))) (fun _ _ _=>(cK (i:=0) (show(["kind","most","numbers"]:List Str).Nodup by decide +kernel) rfl (aT rfl) (eF rfl))) (fun _ _ _=>(Mx (cG gv (At hu (pv 2) (pv 0) (fun _ _=>rfl)) (pv 1) (bI _)))) (fun _ _ _=>(pv 0)))))),?_⟩
  refine⟨_,rfl,d,ks,f,rfl,hd,hf,fun H1 s1=>?_⟩
  refine⟨_,rfl,d,_,ks,rfl,s1 d _ hd,by rw[XG,agl],by omega,fun l ts bS jf pI=>⟨l,rfl,⟨_,.of au⟩,?_⟩⟩
  have BG:H l=none:=s1.free bS
  have s2:ak H (upd H1 l (.lst (ts.map V.int))):=s1.upd BG
  have VG:ts.length<=63:=by rw[jf.length_eq];omega
  refine LS (fun σ=>∃v,σ=[v,some (.int (oB ks f)),some (.ref d)]) (fun x=>match x with | .int k=>if decide (f k=oB ks f)=true then some (.int k)else none | _=>none) (by rw[aC];omega) ⟨none,rfl⟩ (.of au) ?_ ?_
  ·rintro i x σ' H' k2 r hx ⟨v0,rfl⟩ sm hk sy
   obtain⟨n,hn,rfl⟩:=j7 hx
   have ES:n∈ks:=jf.mem_iff.mp (eB hn)
   have g:gm H' d (.int n) (some (.int (f n))):=by
    have:=gm.k (k:=cN n) ((s2.trans sm) d _ hd)
    rw[oN,agQ ES]at this
    exact this
   refine⟨_,rfl,_,rfl,d,_,rfl,g,_,rfl,rfl,_,rfl,?_⟩
   rw[qW]
   refine dj (fun hc=>⟨_,rfl,hk _ _ _ (if_pos hc) ⟨_,rfl⟩ (ak.refl _)⟩) (fun hc=>sy _ _ (if_neg hc) ⟨_,rfl⟩ (ak.refl _))
  ·intro D H' hD sm hA
   refine k D ts H' jf pI (s2.trans sm) (s2.free hD) ?_
   rw[hA]
   congr 2
   clear hA VG BG bS s2 sm jf pI hD
   induction ts with
   |nil=>rfl
   |cons x ts ih=>
    rw[dM,nK,Iz]
    by_cases hx:decide (f x=oB ks f)=true
    ·simp only[hx,if_true]
     rw[dM,ih]
    ·simp only[hx,if_false]
     exact ih
noncomputable def axK:Sp:=fun vs H Q _=>∃(d:aa) (ns:List Int),vs=[.ref d]/\H d=some (.dK (kvs (bh ns)))/\ns.length<=63/\∀(l:aa) (ks:List Int) (H':Hp),ks.Perm ((bh ns).map (·.1))->ks.Pairwise (·<=·)->ak H H'->H l=none->H' l=some (.lst ((ks.filter fun k=>decide ((ns.count k:Int)=most ns)).map V.int))->Q (.ref l) H'
theorem ai7(T:Txt K mg Z):bD P w K mg base bK 2 Z.Kz Z.Jf ["numbers"] axK:=by
 refine(atZ (P:=P) (w:=w) (base:=base) T).imp fun vs H Q E h=>?_
 obtain⟨d,ns,rfl,hd,hl,k⟩:=h
 have m7:=nD ns
 refine⟨d,(bh ns).map (·.1),fun k=>(ns.count k:Int),rfl,by rw[<- CL];exact hd,fun k _=>by show(0:Int)<=(ns.count k:Int);omega,by rw[aC];omega,fun l ts H' h1 h2 s1 h3 h4=>k l ts H' h1 h2 s1 h3 ?_⟩
 rw[Zm]at h4
 exact h4
theorem CB{α:Type}(x:α)(n:Nat):(fj n [x]).flatten=fj n x:=by
 induction n with
 |zero=>rfl
 |succ n ih=>rw[rJ,jG,ih,rJ];rfl
theorem alu{ks:List Int}{f:Int->Int}{H:Hp}{d:aa}{n:Int}(hd:H d=some (.dK (kvs (iW ks f))))(hn:n∈ks):gm H d (.int n) (some (.int (f n))):=by
 have:=gm.k (k:=cN n) hd
 rw[oN,agQ hn]at this
 exact this
theorem aiC(F:Int->Nat)(ts:List Int)(i:Nat):(cO (ts.take i) F).length<=(cO ts F).length:=by
 conv=>rhs;rw[<- oR i ts,LP,bW]
 omega
theorem ak.AC{H H1:Hp}{d:aa}{o:Obj}{l:List (Key×V)}(hd:H d=some (.dK l))(s:ak (upd H d (.cC o (.dK l))) H1):ak H (upd H1 d (.dK l)):=fun b u e=>by
 by_cases z:b=d
 ·rw[z,hd]at e
  cases e
  rw[z]
  exact au
 ·rw[aA z]
  exact s b u (by rw[aA z];exact e)
noncomputable def axx:Sp:=fun vs H Q _=>∃(d a:aa) (ks ts:List Int) (f:Int->Int),vs=[.ref d,.ref a]/\H d=some (.dK (kvs (iW ks f)))/\H a=some (.lst (ts.map V.int))/\(∀k∈ts,k∈ks)/\(∀k∈ts,0<=f k/\f k<=1000)/\(cO ts fun k=>(f k).toNat).length<=1000/\
 ∀(l:aa) (H':Hp),ak H H'->H l=none->H' l=some (.lst ((cO ts fun k=>(f k).toNat).map V.int))->Q (.ref l) H'
theorem aaj:bU ["numbers","kinds","things","kind"] ["numbers","kinds"] (az wE):=⟨rfl,rfl,rfl,by decide +kernel,rfl,by decide +kernel,by decide +kernel⟩
theorem ai5(T:Txt K mg Z):bD P w K mg base bK 1 Z.Uz Z.S8 ["numbers","kinds"] axx:=by
 refine T.yz.fn.ok aaj (fun vs H Q E h=>?_) (fun bg A outer s H vs Q E hr h=>?_)
 ·obtain⟨d,a,ks,ts,f,rfl,_⟩:=h
  rfl
 ·obtain⟨d,a,ks,ts,f,rfl,hd,ha,yl,hb,hl,k⟩:=h
  have hu:=pH hr
  refine⟨_,(aH (bR (i:=2) aaj.nd rfl (aT rfl) (dD aq))
   (aH (iF iy rfl (gf (pv 1)) (cK (i:=3) aaj.nd rfl (aT rfl)) (aJ (fX (ie gT zw PySem.F.type_list_extend Cg (pv 2) (aj (bM ZM (dD (aj (pv 3) aq)) (At hu (pv 0) (pv 3) (fun _ _=>rfl))) aq)))))
   (aJ (aY (pv 2))))),?_⟩
  refine⟨fz _,fun l bS=>?_⟩
  have s1:ak H (upd H l (.lst [])):=(ak.refl H).upd bS
  refine⟨_,rfl,a,rfl,⟨_,.of (s1 a _ ha)⟩,nX (K:=K) (a:=a) (xs:=ts.map V.int) (fun i σ H2=>∃v:Option V,σ=[some (.ref d),some (.ref a),some (.ref l),v]/\ak H H2/\H2 l=some (.lst ((cO (ts.take i) fun k=>(f k).toNat).map V.int)))
   ⟨none,rfl,s1,au⟩ (fun i σ H2 _ ⟨_,_,s2,_⟩=>.of (s2 a _ ha)) ?_ ?_⟩
  ·rintro i x σ H2 hx ⟨v,rfl,s2,h2⟩
   obtain⟨n,hn,rfl⟩:=j7 hx
   have BK:=eB hn
   have mw:ts.take (i+1)=ts.take i++[n]:=by rw[jW,hn];rfl
   have pD:=aiC (fun k=>(f k).toNat) ts (i+1)
   rw[mw,LQ,bW,rH]at pD
   have ag1:(f n).toNat<=1000:=by have:=hb n BK;omega
   refine⟨_,rfl,ir h2,_,rfl,by show 1<=aX;decide,fun m hm=>?_⟩
   have s3:ak H (upd H2 m (.lst [.int n])):=s2.upd (s2.free hm)
   have nlm:l≠m:=bf h2 hm
   refine⟨_,rfl,_,rfl,d,_,rfl,alu (s3 d _ hd) (yl n BK),m,f n,[.int n],rfl,rfl,au,?_,?_,?_,fun p hp=>?_⟩
   ·have:=(hb n BK).1;omega
   ·have:=(hb n BK).2;omega
   ·exact yC (by simp;omega)
   have ki:l≠p:=bf (show(upd H2 m (.lst [.int n])) l=_ by rw[aA nlm];exact h2) hp
   have s4:=s3.upd (o:=.lst (fj (f n).toNat [V.int n]).flatten) (s3.free hp)
   refine⟨l,p,_,_,rfl,rfl,by rw[aA ki,aA nlm];exact h2,au,?_,?_⟩
   ·rw[aC,CB,rH]
    exact yC (by omega)
   ·refine⟨_,rfl,s4.upd bS,?_⟩
    rw[au,mw,LQ,CB,fD,N5]
  ·rintro σ H2 ⟨v,rfl,s2,h2⟩
   rw[aC,mS]at h2
   exact⟨_,rfl,k l H2 s2 bS h2⟩
theorem Jd(xs:List Int)(i:Nat):lX (xs.map V.int) (some (i:Int)) none=(xs.drop i).map V.int:=by
 unfold lX
 rw[HT.MJ,HT.akA,aC,<- List.map_drop,<- abT]
 congr 1
 by_cases h:i<=xs.length
 ·rw[Oh h,zp (by rw[jV];omega)]
 ·rw[Nat.min_eq_right (by omega),amy (br _),amy (by omega)];simp
theorem DZ(xs:List Int)(j:Nat):lX (xs.map V.int) none (some (j:Int))=(xs.take j).map V.int:=by
 unfold lX
 rw[HT.MJ,HT.akA,aC,List.drop_zero,Nat.sub_zero,<- abT]
 congr 1
 by_cases h:j<=xs.length
 ·rw[Oh h]
 ·rw[Nat.min_eq_right (by omega),zp (br _),zp (by omega)]
theorem anI(xs:List Int){i j:Nat}(h:i<=xs.length)(h2:j<=xs.length):lX (xs.map V.int) (some (i:Int)) (some (j:Int))=((xs.drop i).take (j-i)).map V.int:=by
 unfold lX
 rw[HT.MJ,HT.MJ,aC,Oh h,Oh h2,<- List.map_drop,<- abT]
theorem iN{H H1 H':Hp}{x dx C:aa}(s:ak H H1)(hx:H1 x=none)(dW:H1 dx=none)(hk:∀c o,(upd (upd H1 dx (.own x)) x (.ins C dx [])) c=some o->c≠x->H' c=some o):ak H H':=fun c o e=>by
 have e1:=s c o e
 have n1:c≠x:=bf e1 hx
 have n2:c≠dx:=bf e1 dW
 exact hk c o (by rw[aA n1,aA n2];exact e1) n1
theorem iD{H1:Hp}{x dx C c:aa}{o:HO}(hx:H1 x=none)(dW:H1 dx=none)(e1:H1 c=some o):(upd (upd H1 dx (.own x)) x (.ins C dx [])) c=some o:=by
 rw[aA (bf e1 hx),aA (bf e1 dW)];exact e1
theorem nk{H H1:Hp}{x dx C b:aa}(s:ak H H1)(h:(upd (upd H1 dx (.own x)) x (.ins C dx [])) b=none):H b=none:=by
 cases e:H b with
 |none=>rfl
 |some o=>
  exfalso
  have e1:=s b o e
  by_cases z:b=x
  ·rw[z,au]at h;cases h
  ·rw[aA z]at h
   by_cases z2:b=dx
   ·rw[z2,au]at h;cases h
   ·rw[aA z2,e1]at h;cases h
theorem AB{H:Hp}{D:aa}{α:Type}{xs:List α}{f:α->Bool}(hA:H D=some (.lst (xs.map fun x=>V.bl (f x)))):zE K H (.ref D) ((xs.map f).map V.bl):=
 ⟨D,rfl,.inl (.of (by rw[hA,lE];rfl))⟩
theorem DO{α:Type}(xs:List α)(f:α->Bool):(xs.map f).all id=xs.all f:=by rw[List.all_map];rfl
theorem adI{α:Type}(xs:List α)(f:α->Bool):(xs.map f).any id=xs.any f:=by rw[abH];rfl
theorem p6{ns:List Int}{i:Int}(j:Nat)(e:i=(j:Int))(h:j<ns.length):j0 (ns.map V.int) i=some (.int (ns.getD j 0)):=by
 subst e
 refine iV ?_
 rw[dG,bZ h,eX,bZ h]
 rfl
noncomputable def axc:Sp:=fun vs H Q _=>∃(a:aa) (ns:List Int),vs=[.ref a]/\H a=some (.lst (ns.map V.int))/\ns.length<=1000000/\∀H',ak H H'->Q (.bl true) H'
theorem avn:bU ["values"] ["values"] (az sZ):=⟨rfl,rfl,rfl,by decide +kernel,rfl,by decide +kernel,by decide +kernel⟩
theorem Ar(T:Txt K mg Z):bD P w K mg base bK 2 Z.Uj Z.SM ["values"] axc:=by
 have lD:=yJ (P:=P) (w:=w) (base:=base) T
 refine T.gH.fn.ok avn (fun vs H Q E h=>?_) (fun bg A outer s H vs Q E hr h=>?_)
 ·obtain⟨a,ns,rfl,_⟩:=h
  rfl
 ·obtain⟨a,ns,rfl,ha,hl,k⟩:=h
  refine⟨_,(aJ (aY (gO (bB lW rfl T.j3 boot_isinstance (aj (pv 0) (aj (mG rfl T.gU iJ) aq))) (iZ (bB (zJ rfl) rfl T.xR Bh (aj (jz (N:=["value"]) (cap:=[none]) rfl (iA (XN:=["values"]) (xs:=(az sZ).names) rfl rfl (by decide +kernel)) (gf (pv 0)) (fun _ _ _=>(cK (i:=0) (show(["value"]:List Str).Nodup by decide +kernel) rfl (aT rfl) (eF rfl))) (fun _ _ _=>jO) (fun _ _ _=>(aP lD (hr.mono (by decide)) rfl T.fU.mg T.fU.fn.kp T.fU.bd .nil aG (aj (pv 0) aq)))) aq)))))),?_⟩
  refine⟨_,rfl,_,_,_,_,rfl,.lst ha,Ah,true,rfl,cJ ?_⟩
  refine⟨_,rfl,a,rfl,⟨_,.of ha⟩,YT (fun σ=>∃v,σ=[v]) (fun _=>.bl true) (by rw[aC];omega) ⟨none,rfl⟩ (.of ha) ?_ ?_⟩
  ·rintro i x σ' H' k2 r hx ⟨v,rfl⟩ sm hk
   obtain⟨n,hn,rfl⟩:=j7 hx
   exact⟨_,rfl,n,rfl,hk _ _ ⟨_,rfl⟩ (ak.refl _)⟩
  ·intro D H' hD sm hA
   refine⟨.ref D,_,rfl,AB (f:=fun _=>true) hA,?_⟩
   rw[DO]
   have e:(ns.map V.int).all (fun _=>true)=true:=by simp
   rw[e]
   exact k H' sm
noncomputable def axG:Sp:=fun vs H Q _=>∃(a b:aa) (ks ns:List Int),vs=[.ref a,.ref b]/\H a=some (.lst (ks.map V.int))/\H b=some (.lst (ns.map V.int))/\ks.length<=1000000/\ns.length<=1000000/\∀H',ak H H'->Q (.bl (decide (ks.Perm ns))) H'
theorem avz:bU ["kinds","heap"] ["kinds","heap"] (az wO):=⟨rfl,rfl,rfl,by decide +kernel,rfl,by decide +kernel,by decide +kernel⟩
theorem Mn(T:Txt K mg Z):bD P w K mg base bK 3 Z.UJ Z.Tk ["kinds","heap"] axG:=by
 have mQ:=Ar (P:=P) (w:=w) (base:=base) T
 have jF:=vp (P:=P) (w:=w) (base:=base) T
 refine T.nC.fn.ok avz (fun vs H Q E h=>?_) (fun bg A outer s H vs Q E hr h=>?_)
 ·obtain⟨a,b,ks,ns,rfl,_⟩:=h
  rfl
 ·obtain⟨a,b,ks,ns,rfl,ha,hb,h1,h2,k⟩:=h
  have iM:=hr.units
  refine⟨_,(aJ (aY (gO (aP mQ (hr.mono (by decide)) rfl T.gH.mg T.gH.fn.kp T.gH.bd .nil aG (aj (pv 0) aq)) (gO (aP mQ (hr.mono (by decide)) rfl T.gH.mg T.gH.fn.kp T.gH.bd .nil aG (aj (pv 1) aq)) (iZ (fW (aua iM) (aP jF (hr.mono (by decide)) rfl T.eV.mg T.eV.fn.kp T.eV.bd .nil aG (aj (pv 0) aq)) (aP jF (hr.mono (by decide)) rfl T.eV.mg T.eV.fn.kp T.eV.bd .nil aG (aj (pv 1) aq)) (bI _))))))),?_⟩
  refine⟨_,rfl,a,ks,rfl,ha,h1,fun H1 s1=>⟨true,rfl,cJ ?_⟩⟩
  refine⟨_,rfl,b,ns,rfl,s1 b _ hb,h2,fun H2 s2=>⟨true,rfl,cJ ?_⟩⟩
  have dX:=s1.trans s2
  refine⟨_,rfl,a,ks,rfl,.of (dX a _ ha),h1,fun d H3 hd s3 h3=>?_⟩
  refine⟨_,rfl,b,ns,rfl,.of ((dX.trans s3) b _ hb),h2,fun e H4 he s4 h4=>?_⟩
  refine⟨d,e,bh ks,bh ns,rfl,rfl,s4 d _ h3,h4,?_⟩
  show Q (.bl (xZ (bh ks) (bh ns))) H4
  rw[anP]
  exact k H4 (dX.trans (s3.trans s4))
noncomputable def fO(ks:List Int):Bool:=(bT (ks.length-1)).all fun i=>decide (ks.getD i 0≠ks.getD (i+1) 0)
theorem xj{ks:List Int}:fO ks=true↔∀i,i+1<ks.length->ks.getD i 0≠ks.getD (i+1) 0:=by
 unfold fO
 rw[kD]
 constructor
 ·intro h i hi
  exact of_decide_eq_true (h i (iG.mpr (by omega)))
 ·intro h i hi
  exact decide_eq_true (h i (by have:=iG.mp hi;omega))
noncomputable def axC:Sp:=fun vs H Q _=>∃(a:aa) (ks:List Int),vs=[.ref a]/\H a=some (.lst (ks.map V.int))/\ks.length<=1000000/\Q (.bl (fO ks)) H
theorem akG:bU ["kinds","place"] ["kinds"] (az wL):=⟨rfl,rfl,rfl,by decide +kernel,rfl,by decide +kernel,by decide +kernel⟩
theorem ai6(T:Txt K mg Z):bD P w K mg base bK 1 Z.UF Z.Tg ["kinds"] axC:=by
 refine T.yG.fn.ok akG (fun vs H Q E h=>?_) (fun bg A outer s H vs Q E hr h=>?_)
 ·obtain⟨a,ks,rfl,_⟩:=h
  rfl
 ·obtain⟨a,ks,rfl,ha,hl,k⟩:=h
  refine⟨_,(aH (iF iy rfl (auv rfl T.xS (aj aD (aj (bB dI rfl T.cW dh (aj (pv 0) aq)) aq))) (cK (i:=1) akG.nd rfl (aT rfl)) (aJ (bY (cG gv (cX eZ (pv 0) (bM mF (pv 1) aD) (fun _ _=>rfl)) (cX eZ (pv 0) (pv 1) (fun _ _=>rfl)) (bI _)) (aJ (aY cP)) b8)))
   (aJ (aY cP))),?_⟩
  refine⟨_,rfl,a,_,rfl,.inl (.of ha),1,_,rfl,⟨by decide,by decide,by rw[aC];omega,by rw[aC];omega⟩,?_⟩
  have en:(((ks.map V.int).length:Int)-1).toNat=ks.length-1:=by rw[aC];omega
  rw[en]
  refine En (lo:=1) (n:=ks.length-1) (fun i σ H2=>∃v:Option V,σ=[some (.ref a),v]/\H2=H/\∀j,j<i->ks.getD j 0≠ks.getD (j+1) 0) ⟨none,rfl,rfl,fun j hj=>absurd hj (ab8 _)⟩ (fun i σ H2 hi hP=>?_) (fun σ H2 hP=>?_)
  ·obtain⟨v,rfl,rfl,hj⟩:=hP
   refine⟨_,rfl,_,rfl,_,_,rfl,rfl,a,_,_,_,rfl,rfl,.of ha,p6 i (by omega) (by omega),_,rfl,_,rfl,a,_,_,_,rfl,rfl,.of ha,p6 (i+1) (by omega) (by omega),rfl,_,rfl,dj (fun hc=>?_) (fun hc=>?_)⟩
   ·have e:fO ks=false:=by
     cases hu:fO ks with
     |false=>rfl
     |true=>
      have q:=of_decide_eq_true hc
      injection q with q
      exact absurd q (xj.mp hu i (by omega))
    rw[e]at k
    exact k
   ·refine⟨_,rfl,rfl,fun j hj'=>?_⟩
    rcases IG j i with z | z
    ·exact hj j z
    ·have:j=i:=by omega
     subst this
     exact fun q=>hc (decide_eq_true (by rw[q]))
  ·obtain⟨v,rfl,rfl,hj⟩:=hP
   have e:fO ks=true:=xj.mpr fun i hi=>hj i (by omega)
   rw[e]at k
   exact k
noncomputable def axh:Sp:=fun vs H Q _=>∃i:Int,vs=[.int i]/\Q (.int i) H
theorem Hq:bU ["value"] ["value"] (az oK):=⟨rfl,rfl,rfl,by decide +kernel,rfl,by decide +kernel,by decide +kernel⟩
theorem ZJ(T:Txt K mg Z):bD P w K mg base bK 1 Z.zO Z.zM ["value"] axh:=by
 refine T.d7.fn.ok Hq (fun vs H Q E h=>?_) (fun bg A outer s H vs Q E hr h=>?_)
 ·obtain⟨i,rfl,_⟩:=h
  rfl
 ·obtain⟨i,rfl,k⟩:=h
  refine⟨_,aH (bY (dm (bB lW rfl T.j3 boot_isinstance (aj (pv 0) (aj (mG rfl T.gU iJ) aq)))) sR b8)
   (aH (bY (dm (bB lW rfl T.j3 boot_isinstance (aj (pv 0) (aj (mG rfl T.DT Pd) aq)))) sR b8)
   (aJ (aY (pv 0)))),?_⟩
  refine⟨_,rfl,_,_,_,_,rfl,.int i,aqo,false,rfl,bH ?_⟩
  refine⟨_,rfl,_,_,_,_,rfl,.int i,aqp,false,rfl,bH ?_⟩
  exact⟨_,rfl,k⟩
noncomputable def axi:Sp:=fun vs H Q _=>∃(a:aa) (ns:List Int),vs=[.ref a]/\H a=some (.lst (ns.map V.int))/\ns.length<=1000000/\∀l H',ak H H'->H l=none->H' l=some (.lst (ns.map V.int))->Q (.ref l) H'
theorem F0(T:Txt K mg Z):bD P w K mg base bK 2 Z.zO Z.zM ["value"] axi:=by
 refine T.d7.fn.ok Hq (fun vs H Q E h=>?_) (fun bg A outer s H vs Q E hr h=>?_)
 ·obtain⟨a,ns,rfl,_⟩:=h
  rfl
 ·obtain⟨a,ns,rfl,ha,hl,k⟩:=h
  have G:=ZJ (P:=P) (w:=w) (base:=base) T
  refine⟨_,aH (bY (dm (bB lW rfl T.j3 boot_isinstance (aj (pv 0) (aj (mG rfl T.gU iJ) aq))))
    (aJ (aY (jz (N:=["part"]) (cap:=[none]) rfl (iA (XN:=["value"]) (xs:=(az oK).names) rfl rfl (by decide +kernel)) (gf (pv 0)) (fun _ _ _=>(cK (i:=0) (show(["part"]:List Str).Nodup by decide +kernel) rfl (aT rfl) (eF rfl))) (fun _ _ _=>jO)
     (fun _ _ _=>(aP G (hr.mono (by decide)) rfl T.d7.mg T.d7.fn.kp T.d7.bd .nil aG (aj (pv 0) aq)))))) b8) sR,?_⟩
  refine⟨_,rfl,_,_,_,_,rfl,.lst ha,Ah,true,rfl,cJ ?_⟩
  refine⟨_,rfl,a,rfl,⟨_,.of ha⟩,YT (fun σ=>∃v,σ=[v]) (fun x=>x) (by rw[aC];omega) ⟨none,rfl⟩ (.of ha) ?_ ?_⟩
  ·rintro i x σ' H' k2 r hx ⟨v,rfl⟩ sm hk
   obtain⟨n,hn,rfl⟩:=j7 hx
   exact⟨_,rfl,n,rfl,hk _ _ ⟨_,rfl⟩ (ak.refl _)⟩
  ·intro D H' hD sm hA
   refine k D H' sm hD ?_
   rw[hA,abS]
noncomputable def axl:Sp:=fun vs H Q _=>∃(a:aa) (ns:List Int),vs=[.ref a]/\H a=some (.tup (ns.map V.int))/\ns.length<=1000000/\∀l H',ak H H'->H l=none->H' l=some (.tup (ns.map V.int))->Q (.ref l) H'
theorem atB(T:Txt K mg Z):bD P w K mg base bK 2 Z.zO Z.zM ["value"] axl:=by
 refine T.d7.fn.ok Hq (fun vs H Q E h=>?_) (fun bg A outer s H vs Q E hr h=>?_)
 ·obtain⟨a,ns,rfl,_⟩:=h
  rfl
 ·obtain⟨a,ns,rfl,ha,hl,k⟩:=h
  have G:=ZJ (P:=P) (w:=w) (base:=base) T
  refine⟨_,aH (bY (dm (bB lW rfl T.j3 boot_isinstance (aj (pv 0) (aj (mG rfl T.gU iJ) aq)))) sR b8)
   (aH (bY (dm (bB lW rfl T.j3 boot_isinstance (aj (pv 0) (aj (mG rfl T.DT Pd) aq))))
    (aJ (aY (kj anx rfl T.DT Pd (aj (jz (N:=["part"]) (cap:=[none]) rfl (iA (XN:=["value"]) (xs:=(az oK).names) rfl rfl (by decide +kernel)) (ZU (pv 0)) (fun _ _ _=>(cK (i:=0) (show(["part"]:List Str).Nodup by decide +kernel) rfl (aT rfl) (eF rfl))) (fun _ _ _=>jO)
     (fun _ _ _=>(aP G (hr.mono (by decide)) rfl T.d7.mg T.d7.fn.kp T.d7.bd .nil aG (aj (pv 0) aq)))) aq)))) b8) sR),?_⟩
  refine⟨_,rfl,_,_,_,_,rfl,.tup ha,aqq,false,rfl,bH ?_⟩
  refine⟨_,rfl,_,_,_,_,rfl,.tup ha,ait,true,rfl,cJ ?_⟩
  refine⟨_,rfl,a,rfl,⟨_,.of ha⟩,aqy (fun σ=>∃v,σ=[v]) (fun x=>x) (by rw[aC];omega) ⟨none,rfl⟩ (.of ha) ?_ ?_⟩
  ·rintro i x σ' H' k2 r hx ⟨v,rfl⟩ sm hk
   obtain⟨n,hn,rfl⟩:=j7 hx
   exact⟨_,rfl,n,rfl,hk _ _ ⟨_,rfl⟩ (ak.refl _)⟩
  ·intro D H' hD sm hA
   rw[abS]at hA
   refine⟨D,_,rfl,.inl ⟨.of hA,fun l hl=>k l _ (sm.upd (sm.free hl)) (sm.free hl) au⟩⟩
noncomputable def jH(H:Hp)(a:aa)(ts:List aa)(ps:List (Int×Int)):Prop:=H a=some (.lst (ts.map V.ref))/\ts.length=ps.length/\∀(j:Nat) (t:aa) (p:Int×Int),ts[j]?=some t->ps[j]?=some p->H t=some (.tup [.int p.1,.int p.2])
theorem jH.same{H H':Hp}{a:aa}{ts:List aa}{ps:List (Int×Int)}(h:jH H a ts ps)(s:ak H H'):jH H' a ts ps:=⟨s _ _ h.1,h.2.1,fun j t p h1 h2=>s _ _ (h.2.2 j t p h1 h2)⟩
theorem oJ{ts:List aa}{i:Nat}{x:V}(h:(ts.map V.ref)[i]?=some x):∃t,ts[i]?=some t/\x=.ref t:=by
 rw[dG]at h
 cases e:ts[i]? with
 |none=>rw[e]at h;cases h
 |some n=>rw[e]at h;exact⟨n,rfl,(cY h).symm⟩
theorem nY{α β:Type}{ts:List α}{ps:List β}(h:ts.length=ps.length){i:Nat}{t:α}(ht:ts[i]?=some t):∃p,ps[i]?=some p:=by
 have:=(iw.mp ht).1
 exact⟨ps[i],bZ (by omega)⟩
noncomputable def axk:Sp:=fun vs H Q _=>∃(a:aa) (ts:List aa) (ps:List (Int×Int)),vs=[.ref a]/\jH H a ts ps/\ps.length<=1000000/\∀l us H',ak H H'->H l=none->jH H' l us ps->Q (.ref l) H'
theorem atA(T:Txt K mg Z):bD P w K mg base bK 3 Z.zO Z.zM ["value"] axk:=by
 refine T.d7.fn.ok Hq (fun vs H Q E h=>?_) (fun bg A outer s H vs Q E hr h=>?_)
 ·obtain⟨a,ts,ps,rfl,_⟩:=h
  rfl
 ·obtain⟨a,ts,ps,rfl,ha,hl,k⟩:=h
  have G:=atB (P:=P) (w:=w) (base:=base) T
  refine⟨_,aH (bY (dm (bB lW rfl T.j3 boot_isinstance (aj (pv 0) (aj (mG rfl T.gU iJ) aq))))
    (aJ (aY (jz (N:=["part"]) (cap:=[none]) rfl (iA (XN:=["value"]) (xs:=(az oK).names) rfl rfl (by decide +kernel)) (gf (pv 0)) (fun _ _ _=>(cK (i:=0) (show(["part"]:List Str).Nodup by decide +kernel) rfl (aT rfl) (eF rfl))) (fun _ _ _=>jO)
     (fun _ _ _=>(aP G (hr.mono (by decide)) rfl T.d7.mg T.d7.fn.kp T.d7.bd .nil aG (aj (pv 0) aq)))))) b8) sR,?_⟩
  refine⟨_,rfl,_,_,_,_,rfl,.lst ha.1,Ah,true,rfl,cJ ?_⟩
  have bC:=ha.2.1
  refine⟨_,rfl,a,rfl,⟨_,.of ha.1⟩,YU (fun σ=>∃v,σ=[v]) (fun i aE D H'=>∃us:List aa,aE=us.map V.ref/\us.length=i/\∀(j:Nat) (t:aa) (p:Int×Int),us[j]?=some t->ps[j]?=some p->H' t=some (.tup [.int p.1,.int p.2])/\t≠D)
   (by rw[aC];omega) ⟨none,rfl⟩ (.of ha.1) (fun D hD=>⟨[],rfl,rfl,fun j t p h=>by simp at h⟩) ?_ ?_ ?_ ?_⟩
  ·rintro i aE D H' ⟨us,rfl,e,_⟩
   rw[aC];omega
  ·rintro i aE D H' Ie ⟨us,rfl,e,f⟩ kp
   exact⟨us,rfl,e,fun j t p h1 h2=>⟨kp t _ (f j t p h1 h2).2 (f j t p h1 h2).1,(f j t p h1 h2).2⟩⟩
  ·rintro i x aE D σ' H' k2 r hx ⟨v,rfl⟩ sm hD hA ⟨us,rfl,e,f⟩ hk
   obtain⟨t,ht,rfl⟩:=oJ hx
   obtain⟨p,hp⟩:=nY bC ht
   refine⟨_,rfl,t,[p.1,p.2],rfl,sm t _ (ha.2.2 i t p ht hp),(by show 2<=1000000;decide),fun u H2 s2 hu h2=>hk _ _ _ ⟨_,rfl⟩ s2 ⟨us++[u],by rw[fD];rfl,by rw[bW,e];rfl,fun j t' p' h1 h3=>?_⟩⟩
   have nu:u≠D:=fun z=>by rw[z,hA]at hu;cases hu
   by_cases hj:j<us.length
   ·rw[nM hj]at h1
    exact⟨s2 _ _ (f j t' p' h1 h3).1,(f j t' p' h1 h3).2⟩
   ·have n6:j=us.length:=by
     have:=(iw.mp h1).1
     rw[bW]at this
     simp at this
     omega
    subst n6
    rw[nN (br _)]at h1
    simp at h1
    subst h1
    rw[e,hp]at h3
    cases h3
    exact⟨h2,nu⟩
  ·rintro aE D σ' H' hD sm hA ⟨us,rfl,e,f⟩
   rw[aC]at e
   exact k D us H' sm hD ⟨hA,by omega,fun j t p h1 h2=>(f j t p h1 h2).1⟩
noncomputable def zc(H:Hp)(a:aa)(ts:List aa)(gs:List (List Int)):Prop:=H a=some (.lst (ts.map V.ref))/\ts.length=gs.length/\ts.Nodup/\a∉ts/\∀(j:Nat) (t:aa) (g:List Int),ts[j]?=some t->gs[j]?=some g->H t=some (.lst (g.map V.int))
theorem zc.same{H H':Hp}{a:aa}{ts:List aa}{gs:List (List Int)}(h:zc H a ts gs)(s:ak H H'):zc H' a ts gs:=⟨s _ _ h.1,h.2.1,h.2.2.1,h.2.2.2.1,fun j t p h1 h2=>s _ _ (h.2.2.2.2 j t p h1 h2)⟩
noncomputable def axj:Sp:=fun vs H Q _=>∃(a:aa) (ts:List aa) (gs:List (List Int)),vs=[.ref a]/\H a=some (.lst (ts.map V.ref))/\ts.length=gs.length/\(∀(j:Nat) (t:aa) (g:List Int),ts[j]?=some t->gs[j]?=some g->H t=some (.lst (g.map V.int)))/\gs.length<=1000000/\(∀g∈gs,g.length<=1000000)/\
 ∀l us H',ak H H'->H l=none->(∀u∈us,H u=none)->zc H' l us gs->Q (.ref l) H'
theorem atz(T:Txt K mg Z):bD P w K mg base bK 3 Z.zO Z.zM ["value"] axj:=by
 refine T.d7.fn.ok Hq (fun vs H Q E h=>?_) (fun bg A outer s H vs Q E hr h=>?_)
 ·obtain⟨a,ts,ps,rfl,_⟩:=h
  rfl
 ·obtain⟨a,ts,gs,rfl,ha,bC,eG,hl,hg,k⟩:=h
  have G:=F0 (P:=P) (w:=w) (base:=base) T
  refine⟨_,aH (bY (dm (bB lW rfl T.j3 boot_isinstance (aj (pv 0) (aj (mG rfl T.gU iJ) aq))))
    (aJ (aY (jz (N:=["part"]) (cap:=[none]) rfl (iA (XN:=["value"]) (xs:=(az oK).names) rfl rfl (by decide +kernel)) (gf (pv 0)) (fun _ _ _=>(cK (i:=0) (show(["part"]:List Str).Nodup by decide +kernel) rfl (aT rfl) (eF rfl))) (fun _ _ _=>jO)
     (fun _ _ _=>(aP G (hr.mono (by decide)) rfl T.d7.mg T.d7.fn.kp T.d7.bd .nil aG (aj (pv 0) aq)))))) b8) sR,?_⟩
  refine⟨_,rfl,_,_,_,_,rfl,.lst ha,Ah,true,rfl,cJ ?_⟩
  refine⟨_,rfl,a,rfl,⟨_,.of ha⟩,YU (fun σ=>∃v,σ=[v]) (fun i aE D H'=>∃us:List aa,aE=us.map V.ref/\us.length=i/\us.Nodup/\(∀u∈us,H u=none/\u≠D/\H' u≠none)/\∀(j:Nat) (t:aa) (g:List Int),us[j]?=some t->gs[j]?=some g->H' t=some (.lst (g.map V.int)))
   (by rw[aC];omega) ⟨none,rfl⟩ (.of ha) (fun D hD=>⟨[],rfl,rfl,Dm,fun u h=>by simp at h,fun j t p h=>by simp at h⟩) ?_ ?_ ?_ ?_⟩
  ·rintro i aE D H' ⟨us,rfl,e,_⟩
   rw[aC];omega
  ·rintro i aE D H' Ie ⟨us,rfl,e,nd,fu,f⟩ kp
   refine⟨us,rfl,e,nd,fun u hu=>⟨(fu u hu).1,(fu u hu).2.1,?_⟩,fun j t p h1 h2=>kp t _ (fu t (eB h1)).2.1 (f j t p h1 h2)⟩
   obtain⟨_,n1,n2⟩:=fu u hu
   cases hq:H' u with
   |none=>exact absurd hq n2
   |some o=>rw[kp u o n1 hq];exact fun z=>nomatch z
  ·rintro i x aE D σ' H' k2 r hx ⟨v,rfl⟩ sm hD hA ⟨us,rfl,e,nd,fu,f⟩ hk
   obtain⟨t,ht,rfl⟩:=oJ hx
   obtain⟨g,n5⟩:=nY bC ht
   refine⟨_,rfl,t,g,rfl,sm t _ (eG i t g ht n5),hg g (eB n5),fun u H2 s2 hu h2=>hk _ _ _ ⟨_,rfl⟩ s2 ⟨us++[u],by rw[fD];rfl,by rw[bW,e];rfl,?_,?_,fun j t' p' h1 h3=>?_⟩⟩
   ·rw[ID]
    refine⟨nd,by simp,fun y hy z hz=>?_⟩
    rw[gb.mp hz]
    intro q
    exact(fu y hy).2.2 (q▸hu)
   ·intro y hy
    rcases lQ.mp hy with q | q
    ·obtain⟨n0,n1,n2⟩:=fu y q
     refine⟨n0,n1,?_⟩
     cases hq:H' y with
     |none=>exact absurd hq n2
     |some o=>rw[s2 y o hq];exact fun z=>nomatch z
    ·rw[gb.mp q]
     exact⟨sm.free hu,(fun z=>by rw[z,hA]at hu;cases hu),by rw[h2];exact(fun z=>nomatch z)⟩
   ·by_cases hj:j<us.length
    ·rw[nM hj]at h1
     exact s2 _ _ (f j t' p' h1 h3)
    ·have n6:j=us.length:=by
      have:=(iw.mp h1).1
      rw[bW]at this
      simp at this
      omega
     subst n6
     rw[nN (br _)]at h1
     simp at h1
     subst h1
     rw[e,n5]at h3
     cases h3
     exact h2
  ·rintro aE D σ' H' hD sm hA ⟨us,rfl,e,nd,fu,f⟩
   rw[aC]at e
   exact k D us H' sm hD (fun u hu=>(fu u hu).1) ⟨hA,by omega,nd,fun z=>(fu D z).2.1 rfl,f⟩
noncomputable def axr:Sp:=fun vs H Q _=>∃(t:aa) (x y:Int),vs=[.ref t]/\H t=some (.tup [.int x,.int y])/\Q (.bl (decide (x≠y))) H
theorem avu:bU ["value"] ["value"] (az ww):=⟨rfl,rfl,rfl,by decide +kernel,rfl,by decide +kernel,by decide +kernel⟩
theorem atH(T:Txt K mg Z):bD P w K mg base bK 2 Z.Uu Z.S0 ["value"] axr:=by
 have lD:=yJ (P:=P) (w:=w) (base:=base) T
 refine T.Fd.fn.ok avu (fun vs H Q E h=>?_) (fun bg A outer s H vs Q E hr h=>?_)
 ·obtain⟨t,x,y,rfl,_⟩:=h
  rfl
 ·obtain⟨t,x,y,rfl,ht,k⟩:=h
  refine⟨_,(aH (bY (PW.pt (ji (eT (dm (bB lW rfl T.j3 boot_isinstance (aj (pv 0) (aj (mG rfl T.DT Pd) aq))))) (jP (cG pL (bB dI rfl T.cW dh (aj (pv 0) aq)) aD (bI _))))) (aJ (aY cP)) b8)
   (aJ (aY (gO (aP lD (hr.mono (by decide)) rfl T.fU.mg T.fU.fn.kp T.fU.bd .nil aG (aj (cX ou (pv 0) aD (fun _ _=>rfl)) aq)) (gO (aP lD (hr.mono (by decide)) rfl T.fU.mg T.fU.fn.kp T.fU.bd .nil aG (aj (cX ou (pv 0) aD (fun _ _=>rfl)) aq)) (iZ (fW pL (cX ou (pv 0) aD (fun _ _=>rfl)) (cX ou (pv 0) aD (fun _ _=>rfl)) (bI _)))))))),?_⟩
  refine⟨_,rfl,_,_,_,_,rfl,.tup ht,ait,true,rfl,bH ?_⟩
  refine⟨_,rfl,t,_,rfl,.inr (.of ht),rfl,_,rfl,aqb rfl ?_⟩
  refine⟨_,rfl,t,_,_,_,rfl,rfl,.of ht,rfl,x,rfl,true,rfl,cJ ?_⟩
  refine⟨_,rfl,t,_,_,_,rfl,rfl,.of ht,rfl,y,rfl,true,rfl,cJ ?_⟩
  refine⟨_,rfl,t,_,_,_,rfl,rfl,.of ht,rfl,_,rfl,t,_,_,_,rfl,rfl,.of ht,rfl,rfl,?_⟩
  show Q (.bl (!decide (V.int x=V.int y))) H
  rw[CP]
  exact k
noncomputable def xh(p:Int×Int):Bool:=decide (p.1≠p.2)
noncomputable def axb:Sp:=fun vs H Q _=>∃(a:aa) (ts:List aa) (ps:List (Int×Int)),vs=[.ref a]/\jH H a ts ps/\ps.length<=1000/\∀H',ak H H'->Q (.bl (ps.all xh)) H'
theorem getD_at{α:Type}{ps:List α}{i:Nat}{p d:α}(h:ps[i]?=some p):ps.getD i d=p:=by
 rw[eX,h];rfl
theorem avm:bU ["values"] ["values"] (az sY):=⟨rfl,rfl,rfl,by decide +kernel,rfl,by decide +kernel,by decide +kernel⟩
theorem aty(T:Txt K mg Z):bD P w K mg base bK 3 Z.Ui Z.SK ["values"] axb:=by
 have amd:=atH (P:=P) (w:=w) (base:=base) T
 refine T.DS.fn.ok avm (fun vs H Q E h=>?_) (fun bg A outer s H vs Q E hr h=>?_)
 ·obtain⟨a,ts,ps,rfl,_⟩:=h
  rfl
 ·obtain⟨a,ts,ps,rfl,ha,hl,k⟩:=h
  have bC:=ha.2.1
  refine⟨_,(aJ (aY (gO (bB lW rfl T.j3 boot_isinstance (aj (pv 0) (aj (mG rfl T.gU iJ) aq))) (iZ (bB (zJ rfl) rfl T.xR Bh (aj (jz (N:=["value"]) (cap:=[none]) rfl (iA (XN:=["values"]) (xs:=(az sY).names) rfl rfl (by decide +kernel)) (gf (pv 0)) (fun _ _ _=>(cK (i:=0) (show(["value"]:List Str).Nodup by decide +kernel) rfl (aT rfl) (eF rfl))) (fun _ _ _=>jO) (fun _ _ _=>(aP amd (hr.mono (by decide)) rfl T.Fd.mg T.Fd.fn.kp T.Fd.bd .nil aG (aj (pv 0) aq)))) aq)))))),?_⟩
  refine⟨_,rfl,_,_,_,_,rfl,.lst ha.1,Ah,true,rfl,cJ ?_⟩
  refine⟨_,rfl,a,rfl,⟨_,.of ha.1⟩,Fv (fun σ=>∃v,σ=[v]) (fun i=>.bl (xh (ps.getD i (0,0)))) (by rw[aC];omega) ⟨none,rfl⟩ (.of ha.1) ?_ ?_⟩
  ·rintro i x σ' H' k2 r hx ⟨v,rfl⟩ sm hk
   obtain⟨t,ht,rfl⟩:=oJ hx
   obtain⟨p,hp⟩:=nY bC ht
   rw[getD_at hp]at hk
   exact⟨_,rfl,t,p.1,p.2,rfl,sm t _ (ha.2.2 i t p ht hp),hk _ _ ⟨_,rfl⟩ (ak.refl _)⟩
  ·intro D H' hD sm hA
   refine⟨.ref D,_,rfl,AB hA,?_⟩
   rw[DO,aC,bC,range_all]
   exact k H' sm
noncomputable def EA(k:Int)(p:Int×Int):Bool:=decide (k∈[p.1,p.2])
noncomputable def ki(ps:List (Int×Int))(ls:List Int):Bool:=if ls.length<2 then true else decide (ls.count (ls.getD 0 0)=ls.length)&&ps.all (EA (ls.getD 0 0))
noncomputable def axD:Sp:=fun vs H Q _=>∃(a l:aa) (ts:List aa) (ps:List (Int×Int)) (ls:List Int),vs=[.ref a,.ref l]/\jH H a ts ps/\ps.length<=1000/\H l=some (.lst (ls.map V.int))/\ls.length<=1000/\∀H',ak H H'->Q (.bl (ki ps ls)) H'
theorem akH:bU ["pairs","left","kind"] ["pairs","left"] (az tF):=⟨rfl,rfl,rfl,by decide +kernel,rfl,by decide +kernel,by decide +kernel⟩
theorem atR(T:Txt K mg Z):bD P w K mg base bK 1 Z.UG Z.Th ["pairs","left"] axD:=by
 refine T.FS.fn.ok akH (fun vs H Q E h=>?_) (fun bg A outer s H vs Q E hr h=>?_)
 ·obtain⟨a,l,ts,ps,ls,rfl,_⟩:=h
  rfl
 ·obtain⟨a,l,ts,ps,ls,rfl,ha,hl,BH,z7,k⟩:=h
  have bC:=ha.2.1
  refine⟨_,(aH (bY (cG oG (bB dI rfl T.cW dh (aj (pv 1) aq)) aD (bI _)) (aJ (aY cP)) b8)
   (aH (bR (i:=2) akH.nd rfl (eF rfl) (cX eZ (pv 1) aD (fun _ _=>rfl)))
   (aJ (aY (gO (fW gv (ie gT acn acq Zk (pv 1) (aj (pv 2) aq)) (bB dI rfl T.cW dh (aj (pv 1) aq)) (bI _)) (iZ (bB (zJ rfl) rfl T.xR Bh (aj (jz (N:=["pair","kind"]) (cap:=[none,some 2]) rfl (iA (XN:=["pairs","left","kind"]) (xs:=(az tF).names) rfl rfl (by decide +kernel)) (gf (pv 0)) (fun _ _ _=>(cK (i:=0) (show(["pair","kind"]:List Str).Nodup by decide +kernel) rfl (aT rfl) (eF rfl))) (fun _ _ _=>jO) (fun _ _ _=>(fW (aja (K:=K) rfl) (pv 1) (pv 0) rfl))) aq)))))))),?_⟩
  refine⟨_,rfl,l,_,rfl,.inl (.of BH),_,_,rfl,rfl,_,rfl,dj (fun hc=>?_) (fun hc=>?_)⟩
  ·have d8:ls.length<2:=by
    have:=of_decide_eq_true hc
    rw[aC]at this
    omega
   unfold ki at k
   rw[if_pos d8]at k
   exact k H (ak.refl _)
  ·have d8:¬ls.length<2:=fun q=>hc (decide_eq_true (by rw[aC];omega))
   unfold ki at k
   rw[if_neg d8]at k
   refine⟨_,rfl,l,_,_,_,rfl,rfl,.of BH,p6 0 rfl (by omega),?_⟩
   refine⟨_,rfl,ir BH,_,rfl,l,ls,_,rfl,rfl,.of BH,_,rfl,l,_,rfl,.inl (.of BH),rfl,_,rfl,?_⟩
   have e:decide (V.int (ls.count (ls.getD 0 0):Int)=V.int ((ls.map V.int).length:Int))=decide (ls.count (ls.getD 0 0)=ls.length):=by
    rw[qW,aC]
    by_cases q:ls.count (ls.getD 0 0)=ls.length
    ·rw[q];simp
    ·rw[decide_eq_false q,decide_eq_false (by omega)]
   rw[e]
   cases hq:decide (ls.count (ls.getD 0 0)=ls.length) with
   |false=>
    rw[hq,iQ]at k
    exact bH (k H (ak.refl _))
   |true=>
    rw[hq,iu]at k
    refine cJ ?_
    refine⟨_,rfl,a,rfl,⟨_,.of ha.1⟩,Fv (fun σ=>∃v,σ=[v,some (.int (ls.getD 0 0))]) (fun i=>.bl (EA (ls.getD 0 0) (ps.getD i (0,0)))) (by rw[aC];omega) ⟨none,rfl⟩ (.of ha.1) ?_ ?_⟩
    ·rintro i x σ' H' k2 r hx ⟨v,rfl⟩ sm hk
     obtain⟨t,ht,rfl⟩:=oJ hx
     obtain⟨p,hp⟩:=nY bC ht
     rw[getD_at hp]at hk
     have fM:=hk [some (.ref t),some (.int (ls.getD 0 0))] H' ⟨_,rfl⟩ (ak.refl _)
     unfold EA at fM
     rw[<- Ws]at fM
     exact⟨_,rfl,_,rfl,t,_,rfl,.inr (.of (sm t _ (ha.2.2 i t p ht hp))),rfl,rfl,fM⟩
    ·intro D H' hD sm hA
     refine⟨.ref D,_,rfl,AB hA,?_⟩
     rw[DO,aC,bC,range_all]
     exact k H' sm
noncomputable def jv(ps:List (Int×Int)):List Int:=ps.flatMap fun p=>[p.1,p.2]
theorem Em(ps:List (Int×Int)):(jv ps).length=2*ps.length:=by
 unfold jv
 induction ps with
 |nil=>rfl
 |cons p ps ih=>rw[List.flatMap_cons,bW,ih];simp;omega
theorem agq(ps:List (Int×Int))(p:Int×Int):jv (ps++[p])=jv ps++[p.1,p.2]:=by unfold jv;simp
noncomputable def axv:Sp:=fun vs H Q _=>∃(a:aa) (ts:List aa) (ps:List (Int×Int)),vs=[.ref a]/\jH H a ts ps/\ps.length<=400/\∀l H',ak H H'->H l=none->H' l=some (.lst ((jv ps).map V.int))->Q (.ref l) H'
theorem CF:bU ["parts","kinds","part"] ["parts"] (az wA):=⟨rfl,rfl,rfl,by decide +kernel,rfl,by decide +kernel,by decide +kernel⟩
theorem atK(T:Txt K mg Z):bD P w K mg base bK 1 Z.Ky Z.Je ["parts"] axv:=by
 refine T.joined.fn.ok CF (fun vs H Q E h=>?_) (fun bg A outer s H vs Q E hr h=>?_)
 ·obtain⟨a,ts,ps,rfl,_⟩:=h
  rfl
 ·obtain⟨a,ts,ps,rfl,ha,hl,k⟩:=h
  have bC:=ha.2.1
  refine⟨_,(aH (bR (i:=1) CF.nd rfl (aT rfl) (dD aq))
   (aH (iF iy rfl (gf (pv 0)) (cK (i:=2) CF.nd rfl (aT rfl)) (aJ (fX (ie gT zw PySem.F.type_list_extend aiO (pv 1) (aj (pv 2) aq)))))
   (aJ (aY (pv 1))))),?_⟩
  refine⟨fz _,fun l bS=>?_⟩
  have s1:ak H (upd H l (.lst [])):=(ak.refl H).upd bS
  refine⟨_,rfl,a,rfl,⟨_,.of (s1 a _ ha.1)⟩,nX (K:=K) (a:=a) (xs:=ts.map V.ref) (fun i σ H2=>∃v:Option V,σ=[some (.ref a),some (.ref l),v]/\ak H H2/\H2 l=some (.lst ((jv (ps.take i)).map V.int)))
   ⟨none,rfl,s1,au⟩ (fun i σ H2 _ ⟨_,_,s2,_⟩=>.of (s2 a _ ha.1)) ?_ ?_⟩
  ·rintro i x σ H2 hx ⟨v,rfl,s2,h2⟩
   obtain⟨t,ht,rfl⟩:=oJ hx
   obtain⟨p,hp⟩:=nY bC ht
   have mw:ps.take (i+1)=ps.take i++[p]:=by rw[jW,hp];rfl
   refine⟨_,rfl,ir h2,_,rfl,l,t,_,_,rfl,rfl,h2,.of (s2 t _ (ha.2.2 i t p ht hp)),?_,?_⟩
   ·rw[aC,Em,jr]
    exact yC (by simp;omega)
   ·refine⟨_,rfl,s2.upd bS,?_⟩
    rw[au,mw,agq,fD]
    rfl
  ·rintro σ H2 ⟨v,rfl,s2,h2⟩
   rw[aC,bC,mS]at h2
   exact⟨_,rfl,k l H2 s2 bS h2⟩
theorem akX:¬(("pairs" : Str) = "left"):=by decide +kernel
theorem My(u v:V):gP "left" v (gP "pairs" u [])=([("pairs",u),("left",v)]:List (Str×V)):=by
 show(if("pairs" : Str) = "left" then [(("pairs" : Str),v)] else(("pairs" : Str),u)::gP "left" v [])=_
 rw[if_neg akX]
 rfl
theorem FH(u v:V):([("pairs",u),("left",v)]:List (Str×V)).lookup ("pairs" : Str)=some u:=by rw[<- My,ow,if_neg akX,ow,if_pos rfl]
theorem FG(u v:V):([("pairs",u),("left",v)]:List (Str×V)).lookup ("left" : Str)=some v:=by rw[<- My,ow,if_pos rfl]
theorem aqC(u v:V){m:Str}(h1:¬m = "left") (h2:¬m = "pairs"):([("pairs",u),("left",v)]:List (Str×V)).lookup m=none:=by
 rw[<- My,ow,if_neg h1,ow,if_neg h2]
 rfl
structure uy(C:aa)(H:Hp)(p b m:aa)(us:List aa)(ps:List (Int×Int))(ls:List Int):Prop where
 ob:∃dx,H p=some (.ins C dx [("pairs",.ref b),("left",.ref m)])
 prs:jH H b us ps
 nj:H m=some (.lst (ls.map V.int))
theorem uy.same{C:aa}{H H':Hp}{p b m:aa}{us:List aa}{ps:List (Int×Int)}{ls:List Int}(h:uy C H p b m us ps ls)(s:ak H H'):uy C H' p b m us ps ls:=
 ⟨h.ob.elim fun dx e=>⟨dx,s _ _ e⟩,h.prs.same s,s _ _ h.nj⟩
noncomputable def awR(C:aa):Sp:=fun vs H Q _=>∃(p dx a l:aa) (ts:List aa) (ps:List (Int×Int)) (ls:List Int),vs=[.ref p,.ref a,.ref l]/\H p=some (.ins C dx [])/\jH H a ts ps/\ps.length<=1000000/\H l=some (.lst (ls.map V.int))/\ls.length<=1000000/\
 ∀(b m:aa) (us:List aa) (H':Hp),(∀c o,H c=some o->c≠p->H' c=some o)->H b=none->H m=none->b≠m->uy C H' p b m us ps ls->Q .cF H'
theorem akh{H:Hp}{a p:aa}{ts:List aa}{ps:List (Int×Int)}{C dx:aa}{fs:List (Str×V)}{o:HO}(h:jH H a ts ps)(hp:H p=some (.ins C dx fs)):jH (upd H p o) a ts ps:=
 ⟨by rw[aA (kh h.1 hp (by intro z;cases z))];exact h.1,h.2.1,fun j t q h1 h2=>by rw[aA (kh (h.2.2 j t q h1 h2) hp (by intro z;cases z))];exact h.2.2 j t q h1 h2⟩
theorem avb:bU ["self","pairs","left"] ["self","pairs","left"] (az vK):=⟨rfl,rfl,rfl,by decide +kernel,rfl,by decide +kernel,by decide +kernel⟩
theorem aiW(T:Txt K mg Z):bD P w K mg base bK 4 Z.Km Z.R9 ["self","pairs","left"] (awR Z.gI):=by
 have al7:=atA (P:=P) (w:=w) (base:=base) T
 have y9:=F0 (P:=P) (w:=w) (base:=base) T
 refine T.IM.fn.ok avb (fun vs H Q E h=>?_) (fun bg A outer s H vs Q E hr h=>?_)
 ·obtain⟨p,dx,a,l,ts,ps,ls,rfl,_⟩:=h
  rfl
 ·obtain⟨p,dx,a,l,ts,ps,ls,rfl,hp,ha,cT,hl,cE,k⟩:=h
  refine⟨_,(aH (Au (pv 0) (aP al7 (hr.mono (by decide)) rfl T.d7.mg T.d7.fn.kp T.d7.bd .nil aG (aj (pv 1) aq)) rfl)
   (aJ (Au (pv 0) (aP y9 (hr.mono (by decide)) rfl T.d7.mg T.d7.fn.kp T.d7.bd .nil aG (aj (pv 2) aq)) rfl))),?_⟩
  refine⟨_,rfl,a,ts,ps,rfl,ha,cT,fun b us H1 s1 hb kO=>?_⟩
  have iL:=s1 p _ hp
  refine⟨_,rfl,p,_,dx,[],rfl,iL,T.nh,T.Ao,(by show 0<1000;decide),?_⟩
  have aq4:l≠p:=kh hl hp (by intro z;cases z)
  refine⟨_,rfl,l,ls,rfl,(by rw[aA aq4];exact s1 l _ hl),cE,fun m H3 s3 hm hm3=>?_⟩
  have kP:=s3 p _ au
  refine⟨_,rfl,p,_,dx,_,rfl,kP,T.nh,T.An,(by show 1<1000;decide),?_⟩
  have nbp:b≠p:=kh kO.1 iL (by intro z;cases z)
  have yd:jH (upd H1 p (.ins Z.gI dx (gP "pairs" (.ref b) []))) b us ps:=akh kO iL
  have ag':H1 m=none:=by
   by_cases z:m=p
   ·rw[z,au]at hm;cases hm
   ·rw[aA z]at hm;exact hm
  have hmH:H m=none:=s1.free ag'
  have nmp:m≠p:=fun z=>by rw[z,au]at hm;cases hm
  have L8:b≠m:=bf kO.1 ag'
  refine k b m us _ (fun c o hc pB=>?_) hb hmH L8 ⟨⟨dx,by rw[au,My]⟩,akh (yd.same s3) kP,by rw[aA nmp];exact hm3⟩
  rw[aA pB]
  refine s3 c o ?_
  rw[aA pB]
  exact s1 c o hc
noncomputable def Ht(ps:List (Int×Int))(ls ns:List Int):Bool:=ps.all xh&&(decide ((jv ps++ls).Perm ns)&&ki ps ls)
noncomputable def awS(C:aa):Sp:=fun vs H Q _=>∃(p b m h:aa) (us:List aa) (ps:List (Int×Int)) (ls ns:List Int),vs=[.ref p,.ref h]/\uy C H p b m us ps ls/\ps.length<=400/\ls.length<=200/\H h=some (.lst (ns.map V.int))/\ns.length<=1000000/\∀H',ak H H'->Q (.bl (Ht ps ls ns)) H'
theorem akC:bU ["self","heap","things"] ["self","heap"] (az vL):=⟨rfl,rfl,rfl,by decide +kernel,rfl,by decide +kernel,by decide +kernel⟩
theorem atj(T:Txt K mg Z):bD P w K mg base bK 4 Z.Kn Z.Sa ["self","heap"] (awS Z.gI):=by
 have al4:=aty (P:=P) (w:=w) (base:=base) T
 have mQ:=Ar (P:=P) (w:=w) (base:=base) T
 have amf:=atK (P:=P) (w:=w) (base:=base) T
 have za:=Mn (P:=P) (w:=w) (base:=base) T
 have aml:=atR (P:=P) (w:=w) (base:=base) T
 refine T.Oj.fn.ok akC (fun vs H Q E h=>?_) (fun bg A outer s H vs Q E hr h=>?_)
 ·obtain⟨p,b,m,h,us,ps,ls,ns,rfl,_⟩:=h
  rfl
 ·obtain⟨p,b,m,h,us,ps,ls,ns,rfl,⟨⟨dx,hp⟩,hb,hm⟩,cT,cE,hh,n9,k⟩:=h
  refine⟨_,(aH (bY (PW.pt (ji (eT (dm (aP al4 (hr.mono (by decide)) rfl T.DS.mg T.DS.fn.kp T.DS.bd .nil aG (aj (eK (pv 0) rfl) aq)))) (jP (eT (dm (aP mQ (hr.mono (by decide)) rfl T.gH.mg T.gH.fn.kp T.gH.bd .nil aG (aj (eK (pv 0) rfl) aq))))))) (aJ (aY cP)) b8)
   (aH (bR (i:=2) akC.nd rfl (aT rfl) (bM yK (aP amf (hr.mono (by decide)) rfl T.joined.mg T.joined.fn.kp T.joined.bd .nil aG (aj (eK (pv 0) rfl) aq)) (eK (pv 0) rfl)))
   (aJ (aY (gO (aP za (hr.mono (by decide)) rfl T.nC.mg T.nC.fn.kp T.nC.bd .nil aG (aj (pv 2) (aj (pv 1) aq))) (iZ (aP aml (hr.mono (by decide)) rfl T.FS.mg T.FS.fn.kp T.FS.bd .nil aG (aj (eK (pv 0) rfl) (aj (eK (pv 0) rfl) aq))))))))),?_⟩
  refine⟨_,rfl,p,_,dx,_,_,rfl,hp,T.nh,T.Ao,FH _ _,b,us,ps,rfl,hb,by omega,fun H1 s1=>⟨_,rfl,?_⟩⟩
  cases hu:ps.all xh with
  |false=>
   refine cJ (cJ ?_)
   unfold Ht at k
   rw[hu,iQ]at k
   exact k H1 s1
  |true=>
   refine bH ?_
   refine⟨_,rfl,p,_,dx,_,_,rfl,s1 p _ hp,T.nh,T.An,FG _ _,m,ls,rfl,s1 m _ hm,by omega,fun H2 s2=>⟨_,rfl,bH ?_⟩⟩
   have dX:=s1.trans s2
   refine⟨_,rfl,p,_,dx,_,_,rfl,dX p _ hp,T.nh,T.Ao,FH _ _,b,us,ps,rfl,hb.same dX,cT,fun l H3 s3 bS VJ=>?_⟩
   have dJ:=dX.trans s3
   have pD:=Em ps
   refine⟨_,rfl,p,_,dx,_,_,rfl,dJ p _ hp,T.nh,T.An,FG _ _,l,m,_,_,rfl,rfl,VJ,dJ m _ hm,by rw[aC,aC];exact yC (by omega),fun t ht=>?_⟩
   have eN:ak H (upd H3 t (.lst ((jv ps).map V.int++ls.map V.int))):=dJ.upd (dJ.free ht)
   refine⟨_,rfl,_,rfl,t,h,jv ps++ls,ns,rfl,by rw[au,fD],eN h _ hh,by rw[bW];omega,n9,fun H5 s5=>⟨_,rfl,?_⟩⟩
   have jB:=eN.trans s5
   unfold Ht at k
   rw[hu,iu]at k
   cases hq:decide ((jv ps++ls).Perm ns) with
   |false=>
    rw[hq,iQ]at k
    exact bH (k H5 jB)
   |true=>
    rw[hq,iu]at k
    refine cJ ?_
    refine⟨_,rfl,p,_,dx,_,_,rfl,jB p _ hp,T.nh,T.Ao,FH _ _,_,rfl,p,_,dx,_,_,rfl,jB p _ hp,T.nh,T.An,FG _ _,b,m,us,ps,ls,rfl,hb.same jB,by omega,jB m _ hm,by omega,fun H6 s6=>k H6 (jB.trans s6)⟩
noncomputable def iY(n:Int)(g:List Int):Bool:=decide ((g.length:Int)=n)&&decide g.Nodup
noncomputable def axo:Sp:=fun vs H Q _=>∃(a:aa) (g:List Int) (n:Int),vs=[.ref a,.int n]/\H a=some (.lst (g.map V.int))/\g.length<=1000/\∀H',ak H H'->Q (.bl (iY n g)) H'
theorem avr:bU ["value","size"] ["value","size"] (az wm):=⟨rfl,rfl,rfl,by decide +kernel,rfl,by decide +kernel,by decide +kernel⟩
theorem atE(T:Txt K mg Z):bD P w K mg base bK 3 Z.Ur Z.SW ["value","size"] axo:=by
 have mQ:=Ar (P:=P) (w:=w) (base:=base) T
 refine T.E9.fn.ok avr (fun vs H Q E h=>?_) (fun bg A outer s H vs Q E hr h=>?_)
 ·obtain⟨a,g,n,rfl,_⟩:=h
  rfl
 ·obtain⟨a,g,n,rfl,ha,hl,k⟩:=h
  refine⟨_,(aJ (aY (gO (aP mQ (hr.mono (by decide)) rfl T.gH.mg T.gH.fn.kp T.gH.bd .nil aG (aj (pv 0) aq)) (gO (fW gv (bB dI rfl T.cW dh (aj (pv 0) aq)) (pv 1) (bI _)) (iZ (fW gv (bB QF rfl T.cW dh (aj (kj (QG rfl) rfl T.IY boot_set (aj (pv 0) aq)) aq)) (bB dI rfl T.cW dh (aj (pv 0) aq)) (bI _))))))),?_⟩
  refine⟨_,rfl,a,g,rfl,ha,by omega,fun H1 s1=>⟨true,rfl,cJ ?_⟩⟩
  have h1:=s1 a _ ha
  refine⟨_,rfl,a,_,rfl,.inl (.of h1),_,rfl,rfl,_,rfl,?_⟩
  have e:decide (V.int ((g.map V.int).length:Int)=V.int n)=decide ((g.length:Int)=n):=by rw[qW,aC]
  rw[e]
  unfold iY at k
  cases hq:decide ((g.length:Int)=n) with
  |false=>
   rw[hq,iQ]at k
   exact bH (k H1 s1)
  |true=>
   rw[hq,iu]at k
   refine cJ ?_
   refine⟨_,rfl,a,g,rfl,.of h1,by omega,fun p S hp=>⟨p,S,_,rfl,au,?_⟩⟩
   have s2:ak H (upd H1 p (.set S (dist g))):=s1.upd (s1.free hp)
   refine⟨_,rfl,a,_,rfl,.inl (.of (s2 a _ ha)),rfl,?_⟩
   have e2:decide (V.int ((dist g:Nat):Int)=V.int ((g.map V.int).length:Int))=decide g.Nodup:=by
    rw[qW,aC]
    by_cases z:g.Nodup
    ·rw[decide_eq_true z,decide_eq_true (by rw[(Ji g).mpr z])]
    ·rw[decide_eq_false z,decide_eq_false (fun q=>z ((Ji g).mp (by omega)))]
   have k2:=k _ s2
   rw[<- e2]at k2
   exact k2
noncomputable def axa:Sp:=fun vs H Q _=>∃(a:aa) (ts:List aa) (gs:List (List Int)) (n:Int),vs=[.ref a,.int n]/\zc H a ts gs/\gs.length<=1000/\(∀g∈gs,g.length<=1000)/\∀H',ak H H'->Q (.bl (gs.all (iY n))) H'
theorem avl:bU ["values","size"] ["values","size"] (az sX):=⟨rfl,rfl,rfl,by decide +kernel,rfl,by decide +kernel,by decide +kernel⟩
theorem atx(T:Txt K mg Z):bD P w K mg base bK 4 Z.Uh Z.SJ ["values","size"] axa:=by
 have ama:=atE (P:=P) (w:=w) (base:=base) T
 refine T.DR.fn.ok avl (fun vs H Q E h=>?_) (fun bg A outer s H vs Q E hr h=>?_)
 ·obtain⟨a,ts,gs,n,rfl,_⟩:=h
  rfl
 ·obtain⟨a,ts,gs,n,rfl,ha,hl,hg,k⟩:=h
  have bC:=ha.2.1
  refine⟨_,(aJ (aY (gO (bB lW rfl T.j3 boot_isinstance (aj (pv 0) (aj (mG rfl T.gU iJ) aq))) (iZ (bB (zJ rfl) rfl T.xR Bh (aj (jz (N:=["value","size"]) (cap:=[none,some 1]) rfl (iA (XN:=["values","size"]) (xs:=(az sX).names) rfl rfl (by decide +kernel)) (gf (pv 0)) (fun _ _ _=>(cK (i:=0) (show(["value","size"]:List Str).Nodup by decide +kernel) rfl (aT rfl) (eF rfl))) (fun _ _ _=>jO) (fun _ _ _=>(aP ama (hr.mono (by decide)) rfl T.E9.mg T.E9.fn.kp T.E9.bd .nil aG (aj (pv 0) (aj (pv 1) aq))))) aq)))))),?_⟩
  refine⟨_,rfl,_,_,_,_,rfl,.lst ha.1,Ah,true,rfl,cJ ?_⟩
  refine⟨_,rfl,a,rfl,⟨_,.of ha.1⟩,Fv (fun σ=>∃v,σ=[v,some (.int n)]) (fun i=>.bl (iY n (gs.getD i []))) (by rw[aC];omega) ⟨none,rfl⟩ (.of ha.1) ?_ ?_⟩
  ·rintro i x σ' H' k2 r hx ⟨v,rfl⟩ sm hk
   obtain⟨t,ht,rfl⟩:=oJ hx
   obtain⟨g,n5⟩:=nY bC ht
   rw[getD_at n5]at hk
   exact⟨_,rfl,_,rfl,t,g,n,rfl,sm t _ (ha.2.2.2.2 i t g ht n5),hg g (eB n5),fun H2 s2=>hk _ _ ⟨_,rfl⟩ s2⟩
  ·intro D H' hD sm hA
   refine⟨.ref D,_,rfl,AB hA,?_⟩
   rw[DO,aC,bC,range_all]
   exact k H' sm
noncomputable def axu:Sp:=fun vs H Q _=>∃(a:aa) (ts:List aa) (gs:List (List Int)),vs=[.ref a]/\zc H a ts gs/\gs.flatten.length<=1000/\∀l H',ak H H'->H l=none->H' l=some (.lst (gs.flatten.map V.int))->Q (.ref l) H'
theorem atJ(T:Txt K mg Z):bD P w K mg base bK 1 Z.Ky Z.Je ["parts"] axu:=by
 refine T.joined.fn.ok CF (fun vs H Q E h=>?_) (fun bg A outer s H vs Q E hr h=>?_)
 ·obtain⟨a,ts,gs,rfl,_⟩:=h
  rfl
 ·obtain⟨a,ts,gs,rfl,ha,hl,k⟩:=h
  have bC:=ha.2.1
  refine⟨_,(aH (bR (i:=1) CF.nd rfl (aT rfl) (dD aq))
   (aH (iF iy rfl (gf (pv 0)) (cK (i:=2) CF.nd rfl (aT rfl)) (aJ (fX (ie gT zw PySem.F.type_list_extend Cg (pv 1) (aj (pv 2) aq)))))
   (aJ (aY (pv 1))))),?_⟩
  refine⟨fz _,fun l bS=>?_⟩
  have s1:ak H (upd H l (.lst [])):=(ak.refl H).upd bS
  refine⟨_,rfl,a,rfl,⟨_,.of (s1 a _ ha.1)⟩,nX (K:=K) (a:=a) (xs:=ts.map V.ref) (fun i σ H2=>∃v:Option V,σ=[some (.ref a),some (.ref l),v]/\ak H H2/\H2 l=some (.lst ((gs.take i).flatten.map V.int)))
   ⟨none,rfl,s1,au⟩ (fun i σ H2 _ ⟨_,_,s2,_⟩=>.of (s2 a _ ha.1)) ?_ ?_⟩
  ·rintro i x σ H2 hx ⟨v,rfl,s2,h2⟩
   obtain⟨t,ht,rfl⟩:=oJ hx
   obtain⟨g,n5⟩:=nY bC ht
   have mw:gs.take (i+1)=gs.take i++[g]:=by rw[jW,n5];rfl
   have pD:(gs.take (i+1)).flatten.length<=gs.flatten.length:=by
    conv=>rhs;rw[<- oR (i+1) gs,xB,bW]
    omega
   refine⟨_,rfl,ir h2,_,rfl,l,t,_,_,rfl,rfl,h2,s2 t _ (ha.2.2.2.2 i t g ht n5),?_,?_⟩
   ·rw[aC,aC]
    have e1:[g].flatten=g:=by simp
    rw[mw,xB,bW,e1]at pD
    exact yC (by omega)
   ·refine⟨_,rfl,s2.upd bS,?_⟩
    rw[au,mw,xB,fD]
    simp
  ·rintro σ H2 ⟨v,rfl,s2,h2⟩
   rw[aC,bC,mS]at h2
   exact⟨_,rfl,k l H2 s2 bS h2⟩
noncomputable def mC(ks ns:List Int):Bool:=(bh ks).all fun p=>decide (p.2<=(ns.count p.1:Int))
theorem FA{ks ns:List Int}:mC ks ns=true↔∀k,ks.count k<=ns.count k:=by
 unfold mC
 rw[kD]
 constructor
 ·intro h k
  by_cases hk:k∈ks
  ·obtain⟨p,hp,e⟩:=oO.mp (gZ.mpr hk)
   have:=of_decide_eq_true (h p hp)
   rw[(vj hp).2,e]at this
   omega
  ·rw[pW hk];exact fz _
 ·intro h p hp
  rw[(vj hp).2]
  exact decide_eq_true (by have:=h p.1;omega)
theorem agP(ns:List Int)(k:Int):(get (bh ns) k).getD 0=(ns.count k:Int):=by
 rw[(ok ns).val]
 by_cases h:k∈ns
 ·rw[if_pos h];rfl
 ·rw[if_neg h,pW h];rfl
noncomputable def axy:Sp:=fun vs H Q _=>∃(a b:aa) (ks ns:List Int),vs=[.ref a,.ref b]/\H a=some (.lst (ks.map V.int))/\H b=some (.lst (ns.map V.int))/\ks.length<=1000000/\ns.length<=1000000/\∀H',ak H H'->Q (.bl (mC ks ns)) H'
theorem MO:bU ["kinds","heap","numbers","kind","number"] ["kinds","heap"] (az wF):=⟨rfl,rfl,rfl,by decide +kernel,rfl,by decide +kernel,by decide +kernel⟩
theorem atO(T:Txt K mg Z):bD P w K mg base bK 2 Z.UB Z.Tc ["kinds","heap"] axy:=by
 have jF:=vp (P:=P) (w:=w) (base:=base) T
 refine T.FD.fn.ok MO (fun vs H Q E h=>?_) (fun bg A outer s H vs Q E hr h=>?_)
 ·obtain⟨a,b,ks,ns,rfl,_⟩:=h
  rfl
 ·obtain⟨a,b,ks,ns,rfl,ha,hb,cT,cE,k⟩:=h
  have hu:=pH hr
  refine⟨_,(aH (bR (i:=2) MO.nd rfl (aT rfl) (aP jF (hr.mono (by decide)) rfl T.eV.mg T.eV.fn.kp T.eV.bd .nil aG (aj (pv 1) aq)))
   (aH (iF iy rfl (Cq (sJ uB A9 Dy Ci (aP jF (hr.mono (by decide)) rfl T.eV.mg T.eV.fn.kp T.eV.bd .nil aG (aj (pv 0) aq)))) (yN (n:=2) rfl (i8 (cK (i:=3) MO.nd rfl (aT rfl)) (i8 (cK (i:=4) MO.nd rfl (aT rfl)) qy))) (aJ (bY (cG mD (pv 4) (Ms hu (pv 2) (pv 3) aD ⟨rfl,rfl,rfl,rfl⟩) (bI _)) (aJ (aY cP)) b8)))
   (aJ (aY cP)))),?_⟩
  refine⟨_,rfl,b,ns,rfl,.of hb,cE,fun e H1 he s1 h1=>?_⟩
  refine⟨_,rfl,a,ks,rfl,.of (s1 a _ ha),cT,fun d H2 hd s2 h2=>⟨xg h2,d,_,rfl,rfl,h2,fun v hv=>?_⟩⟩
  have j9:d≠v:=bf h2 hv
  refine⟨v,d,_,rfl,au,by rw[aA j9];exact h2,fun o=>?_⟩
  have mK:ak H1 (upd (upd H2 v (jY "dict_items" v d)) d (.cC o (.dK (kvs (bh ks))))):=(s2.upd (s2.free hv)).upd hd
  refine agz (d:=d) (o:=o) (kvs:=kvs (bh ks)) (fun i σ H3=>(∃v3 v4:Option V,σ=[some (.ref a),some (.ref b),some (.ref e),v3,v4])/\ak H1 H3/\H3 d=some (.cC o (.dK (kvs (bh ks))))/\∀p∈(bh ks).take i,p.2<=(ns.count p.1:Int))
   ⟨⟨none,none,rfl⟩,mK,au,fun p hp=>by simp at hp⟩ (fun i σ H3 _ p=>p.2.2.1) (fun i q σ H3 t hq hP ht=>?_) (fun σ H3 hP=>?_)
  ·obtain⟨⟨v3,v4,rfl⟩,s3,h3,cR⟩:=hP
   unfold kvs at hq
   rw[dG]at hq
   cases hq2:(bh ks)[i]? with
   |none=>rw[hq2]at hq;cases hq
   |some q2=>
    rw[hq2]at hq
    cases(cY hq:(cN q2.1,V.int q2.2)=q)
    have s4:ak H1 (upd H3 t (.tup [.int q2.1,.int q2.2])):=s3.upd (s3.free ht)
    have pe:=s4 e _ h1
    refine⟨t,_,rfl,.of au,rfl,_,_,rfl,_,_,rfl,rfl,?_⟩
    refine⟨_,rfl,_,rfl,e,rfl,.inl ⟨_,.inl pe⟩,_,rfl,_,gm.k (k:=cN q2.1) pe,?_⟩
    have hg:(gj (kvs (bh ns)) (cN q2.1:Key)).getD (V.int 0)=V.int (ns.count q2.1:Int):=by
     rw[oN,<- agP]
     cases get (bh ns) q2.1<;>rfl
    rw[hg]
    refine⟨_,_,rfl,rfl,_,rfl,dj (fun hc=>?_) (fun hc=>?_)⟩
    ·have d8:(ns.count q2.1:Int)<q2.2:=of_decide_eq_true hc
     have ef:mC ks ns=false:=by
      cases yd:mC ks ns with
      |false=>rfl
      |true=>
       unfold mC at yd
       have:=of_decide_eq_true (kD.mp yd q2 (eB hq2))
       omega
     rw[ef]at k
     exact k _ (s1.trans s4)
    ·refine⟨⟨_,_,rfl⟩,s4,by rw[aA (bf h3 ht)];exact h3,fun p hp=>?_⟩
     rw[jW,hq2]at hp
     rcases lQ.mp hp with z | z
     ·exact cR p z
     ·have:p=q2:=by simpa using z
      rw[this]
      rcases Int.lt_or_le (ns.count q2.1:Int) q2.2 with y | y
      ·exact absurd (decide_eq_true y) hc
      ·exact y
  ·obtain⟨⟨v3,v4,rfl⟩,s3,h3,cR⟩:=hP
   rw[Fy,mS]at cR
   have et:mC ks ns=true:=by
    unfold mC
    exact kD.mpr fun p hp=>decide_eq_true (cR p hp)
   rw[et]at k
   exact k H3 (s1.trans s3)
noncomputable def axd:Sp:=fun vs H Q _=>∃(m n:Int) (d:aa) (ns:List Int),vs=[.int m,.int n,.ref d]/\H d=some (.dK (kvs (bh ns)))/\ns.length<=1000000/\(-(2^64)<m/\m<2^64)/\∀H',ak H H'->Q (.bl (decide (m*n<=jA ns m))) H'
theorem akF:bU ["many","size","numbers","usable"] ["many","size","numbers"] (az tw):=⟨rfl,rfl,rfl,by decide +kernel,rfl,by decide +kernel,by decide +kernel⟩
theorem ai1(T:Txt K mg Z):bD P w K mg base bK 1 Z.Uk Z.SN ["many","size","numbers"] axd:=by
 refine T.xV.fn.ok akF (fun vs H Q E h=>?_) (fun bg A outer s H vs Q E hr h=>?_)
 ·obtain⟨m,n,d,ns,rfl,_⟩:=h
  rfl
 ·obtain⟨m,n,d,ns,rfl,hd,hl,hm,k⟩:=h
  have hu:=pH hr
  refine⟨_,(aH (bR (i:=3) akF.nd rfl (aT rfl) (bB (QH rfl) rfl T.IZ boot_sum (aj (auq (jz (N:=["number","many"]) (cap:=[none,some 0]) rfl (iA (XN:=["many","size","numbers","usable"]) (xs:=(az tw).names) rfl rfl (by decide +kernel)) (auw (sJ uB Oo acp Zl (pv 2))) (fun _ _ _=>(cK (i:=0) (show(["number","many"]:List Str).Nodup by decide +kernel) rfl (aT rfl) (eF rfl))) (fun _ _ _=>jO) (fun _ _ _=>(bB (QE rfl) rfl T.IX boot_min (aj (pv 0) (aj (pv 1) aq)))))) aq)))
   (aJ (aY (fW aub (pv 3) (bM oH (pv 0) (pv 1)) (bI _))))),?_⟩
  refine⟨d,_,hd,_,rfl,xg hd,d,_,rfl,rfl,hd,fun v hv=>?_⟩
  have j9:d≠v:=bf hd hv
  refine⟨v,d,_,rfl,au,by rw[aA j9];exact hd,fun o=>?_⟩
  have sv:ak H (upd H v (jY "dict_values" v d)):=(ak.refl H).upd hv
  have Ac:=nD ns
  refine aqz (fun σ=>∃v,σ=[v,some (.int m)]) (fun v=>.int (mn m v)) (by omega) ⟨none,rfl⟩ au ?_ ?_
  ·rintro i x σ' H' k2 r hx ⟨v0,rfl⟩ sm hk
   exact⟨_,rfl,_,rfl,_,_,rfl,hk _ _ ⟨_,rfl⟩ (ak.refl _)⟩
  ·intro D H' hD sm hA
   have s1:ak H (upd H' d (.dK (kvs (bh ns)))):=fun b u e=>ak.AC (by rw[aA j9];exact hd) sm b u (sv b u e)
   have nDd:D≠d:=fun z=>by rw[z,au]at hD;cases hD
   have U1:H' D=some (.lst ((((bh ns).map (·.2)).map (mn m)).map V.int)):=by rw[hA,lE (f:=mn m)];rfl
   refine⟨o,_,sm d _ au,.ref D,_,rfl,⟨D,rfl,.inl (.of (by rw[aA nDd];exact U1))⟩,?_⟩
   exact⟨_,rfl,_,rfl,_,rfl,_,_,rfl,rfl,.inl hm,_,_,rfl,rfl,k _ s1⟩
theorem FF(u:V):([("groups",u)]:List (Str×V)).lookup ("groups" : Str)=some u:=by
 show(gP "groups" u []).lookup ("groups" : Str)=some u
 rw[ow,if_pos rfl]
theorem aiJ(u:V){m:Str}(h1:¬m = "groups"):([("groups",u)]:List (Str×V)).lookup m=none:=by
 show(gP "groups" u []).lookup m=none
 rw[ow,if_neg h1]
 rfl
structure zb(C:aa)(H:Hp)(p b:aa)(us:List aa)(gs:List (List Int)):Prop where
 ob:∃dx,H p=some (.ins C dx [("groups",.ref b)])
 lZ:zc H b us gs
theorem zb.same{C:aa}{H H':Hp}{p b:aa}{us:List aa}{gs:List (List Int)}(h:zb C H p b us gs)(s:ak H H'):zb C H' p b us gs:=
 ⟨h.ob.elim fun dx e=>⟨dx,s _ _ e⟩,h.lZ.same s⟩
noncomputable def awL(C:aa):Sp:=fun vs H Q _=>∃(p dx a:aa) (ts:List aa) (gs:List (List Int)),vs=[.ref p,.ref a]/\H p=some (.ins C dx [])/\H a=some (.lst (ts.map V.ref))/\ts.length=gs.length/\(∀(j:Nat) (t:aa) (g:List Int),ts[j]?=some t->gs[j]?=some g->H t=some (.lst (g.map V.int)))/\gs.length<=1000000/\(∀g∈gs,g.length<=1000000)/\
 ∀(b:aa) (us:List aa) (H':Hp),(∀c o,H c=some o->c≠p->H' c=some o)->H b=none->(∀u∈us,H u=none)->zb C H' p b us gs->Q .cF H'
theorem au7:bU ["self","groups"] ["self","groups"] (az vE):=⟨rfl,rfl,rfl,by decide +kernel,rfl,by decide +kernel,by decide +kernel⟩
theorem ZD(T:Txt K mg Z):bD P w K mg base bK 4 Z.Kd Z.R3 ["self","groups"] (awL Z.gW):=by
 have al6:=atz (P:=P) (w:=w) (base:=base) T
 refine T.C5.fn.ok au7 (fun vs H Q E h=>?_) (fun bg A outer s H vs Q E hr h=>?_)
 ·obtain⟨p,dx,a,ts,gs,rfl,_⟩:=h
  rfl
 ·obtain⟨p,dx,a,ts,gs,rfl,hp,ha,bC,eG,cT,cE,k⟩:=h
  refine⟨_,(aJ (Au (pv 0) (aP al6 (hr.mono (by decide)) rfl T.d7.mg T.d7.fn.kp T.d7.bd .nil aG (aj (pv 1) aq)) rfl)),?_⟩
  refine⟨_,rfl,a,ts,gs,rfl,ha,bC,eG,cT,cE,fun b us H1 s1 hb hu hg=>?_⟩
  have iL:=s1 p _ hp
  refine⟨_,rfl,p,_,dx,[],rfl,iL,T.vf,T.Am,(by show 0<1000;decide),?_⟩
  have nbp:b≠p:=kh hg.1 iL (by intro z;cases z)
  refine k b us _ (fun c o hc pB=>?_) hb hu ⟨⟨dx,au⟩,⟨by rw[aA nbp];exact hg.1,hg.2.1,hg.2.2.1,hg.2.2.2.1,fun j t g h1 h2=>?_⟩⟩
  ·rw[aA pB]
   exact s1 c o hc
  ·have e:=hg.2.2.2.2 j t g h1 h2
   rw[aA (kh e iL (by intro z;cases z))]
   exact e
noncomputable def Ay(gs:List (List Int))(ns:List Int)(n:Int):Bool:=gs.all (iY n)&&(mC gs.flatten ns&&!decide (((gs.length:Int)+1)*n<=jA ns ((gs.length:Int)+1)))
noncomputable def awM(C:aa):Sp:=fun vs H Q _=>∃(p b h:aa) (us:List aa) (gs:List (List Int)) (ns:List Int) (n:Int),vs=[.ref p,.ref h,.int n]/\zb C H p b us gs/\gs.length<=1000/\(∀g∈gs,g.length<=1000)/\gs.flatten.length<=1000/\H h=some (.lst (ns.map V.int))/\ns.length<=1000000/\∀H',ak H H'->Q (.bl (Ay gs ns n)) H'
theorem au8:bU ["self","heap","size"] ["self","heap","size"] (az vF):=⟨rfl,rfl,rfl,by decide +kernel,rfl,by decide +kernel,by decide +kernel⟩
theorem aiT(T:Txt K mg Z):bD P w K mg base bK 5 Z.Ke Z.R4 ["self","heap","size"] (awM Z.gW):=by
 have lD:=yJ (P:=P) (w:=w) (base:=base) T
 have mQ:=Ar (P:=P) (w:=w) (base:=base) T
 have al3:=atx (P:=P) (w:=w) (base:=base) T
 have ame:=atJ (P:=P) (w:=w) (base:=base) T
 have ami:=atO (P:=P) (w:=w) (base:=base) T
 have jF:=vp (P:=P) (w:=w) (base:=base) T
 have NF:=ai1 (P:=P) (w:=w) (base:=base) T
 refine T.Ic.fn.ok au8 (fun vs H Q E h=>?_) (fun bg A outer s H vs Q E hr h=>?_)
 ·obtain⟨p,b,h,us,gs,ns,n,rfl,_⟩:=h
  rfl
 ·obtain⟨p,b,h,us,gs,ns,n,rfl,⟨⟨dx,hp⟩,hb⟩,cT,cE,pD,hh,n9,k⟩:=h
  refine⟨_,(aH (bY (PW.pt (ji (eT (dm (aP lD (hr.mono (by decide)) rfl T.fU.mg T.fU.fn.kp T.fU.bd .nil aG (aj (pv 2) aq)))) (ji (eT (dm (aP mQ (hr.mono (by decide)) rfl T.gH.mg T.gH.fn.kp T.gH.bd .nil aG (aj (pv 1) aq)))) (jP (eT (dm (aP al3 (hr.mono (by decide)) rfl T.DR.mg T.DR.fn.kp T.DR.bd .nil aG (aj (eK (pv 0) rfl) (aj (pv 2) aq))))))))) (aJ (aY cP)) b8)
   (aH (bY (eT (dm (aP ami (hr.mono (by decide)) rfl T.FD.mg T.FD.fn.kp T.FD.bd .nil aG (aj (aP ame (hr.mono (by decide)) rfl T.joined.mg T.joined.fn.kp T.joined.bd .nil aG (aj (eK (pv 0) rfl) aq)) (aj (pv 1) aq))))) (aJ (aY cP)) b8)
   (aJ (aY (ajf (aP NF (hr.mono (by decide)) rfl T.xV.mg T.xV.fn.kp T.xV.bd .nil aG (aj (bM g9 (bB dI rfl T.cW dh (aj (eK (pv 0) rfl) aq)) aD) (aj (pv 2) (aj (aP jF (hr.mono (by decide)) rfl T.eV.mg T.eV.fn.kp T.eV.bd .nil aG (aj (pv 1) aq)) aq))))))))),?_⟩
  refine⟨_,rfl,n,rfl,true,rfl,bH ?_⟩
  refine⟨_,rfl,h,ns,rfl,hh,n9,fun H1 s1=>⟨true,rfl,bH ?_⟩⟩
  refine⟨_,rfl,p,_,dx,_,_,rfl,s1 p _ hp,T.vf,T.Am,FF _,_,rfl,b,us,gs,n,rfl,hb.same s1,cT,cE,fun H2 s2=>⟨_,rfl,?_⟩⟩
  have dX:=s1.trans s2
  unfold Ay at k
  cases hu:gs.all (iY n) with
  |false=>
   refine cJ ?_
   rw[hu,iQ]at k
   exact k H2 dX
  |true=>
   rw[hu,iu]at k
   refine bH ?_
   refine⟨_,rfl,p,_,dx,_,_,rfl,dX p _ hp,T.vf,T.Am,FF _,b,us,gs,rfl,hb.same dX,pD,fun l H3 s3 bS VJ=>?_⟩
   have dJ:=dX.trans s3
   refine⟨_,rfl,l,h,gs.flatten,ns,rfl,VJ,dJ h _ hh,by omega,n9,fun H4 s4=>⟨_,rfl,?_⟩⟩
   have eN:=dJ.trans s4
   cases hq:mC gs.flatten ns with
   |false=>
    refine cJ ?_
    rw[hq,iQ]at k
    exact k H4 eN
   |true=>
    rw[hq,iu]at k
    refine bH ?_
    have e1:(((us.map V.ref).length:Nat):Int)=(gs.length:Int):=by rw[aC,hb.2.1]
    refine⟨_,rfl,p,_,dx,_,_,rfl,eN p _ hp,T.vf,T.Am,FF _,b,_,rfl,.inl (.of (eN b _ hb.1)),_,_,rfl,rfl,_,rfl,_,rfl,h,ns,rfl,.of (eN h _ hh),n9,fun d H5 m5 s5 h5=>⟨_,_,d,ns,rfl,h5,n9,⟨by rw[e1];omega,by rw[e1];omega⟩,fun H6 s6=>⟨_,rfl,?_⟩⟩⟩
    rw[e1]
    exact k H6 ((eN.trans s5).trans s6)
noncomputable def sI(ns:List Int)(n:Int):Int:=if ns=[]then 0 else n*(most ns-1)+(tW ns:Int)
noncomputable def axB:Sp:=fun vs H Q _=>∃(a:aa) (ns:List Int) (n:Int),vs=[.ref a,.int n]/\H a=some (.lst (ns.map V.int))/\ns.length<=63/\(-(2^64)<n/\n<2^64)/\∀H',ak H H'->Q (.int (sI ns n)) H'
theorem aak:bU ["heap","apart","numbers","top"] ["heap","apart"] (az wK):=⟨rfl,rfl,rfl,by decide +kernel,rfl,by decide +kernel,by decide +kernel⟩
theorem atQ(T:Txt K mg Z):bD P w K mg base bK 3 Z.UE Z.Tf ["heap","apart"] axB:=by
 have jF:=vp (P:=P) (w:=w) (base:=base) T
 have NL:=ai7 (P:=P) (w:=w) (base:=base) T
 refine T.FO.fn.ok aak (fun vs H Q E h=>?_) (fun bg A outer s H vs Q E hr h=>?_)
 ·obtain⟨a,ns,n,rfl,_⟩:=h
  rfl
 ·obtain⟨a,ns,n,rfl,ha,hl,hn,k⟩:=h
  have hu:=pH hr
  refine⟨_,(aH (bY (cG gv (bB dI rfl T.cW dh (aj (pv 0) aq)) aD (bI _)) (aJ (aY aD)) b8)
   (aH (bR (i:=2) aak.nd rfl (aT rfl) (aP jF (hr.mono (by decide)) rfl T.eV.mg T.eV.fn.kp T.eV.bd .nil aG (aj (pv 0) aq)))
   (aH (bR (i:=3) aak.nd rfl (aT rfl) (aP NL (hr.mono (by decide)) rfl T.yT.mg T.yT.fn.kp T.yT.bd .nil aG (aj (pv 2) aq)))
   (aJ (aY (bM g9 (bM oH (pv 1) (bM mF (At hu (pv 2) (cX eZ (pv 3) aD (fun _ _=>rfl)) (fun _ _=>rfl)) aD)) (bB dI rfl T.cW dh (aj (pv 3) aq)))))))),?_⟩
  refine⟨_,rfl,a,_,rfl,.inl (.of ha),rfl,_,rfl,dj (fun h0=>?_) (fun h0=>?_)⟩
  ·have e0:ns=[]:=by
    have q:V.int ((ns.map V.int).length:Int)=V.int 0:=of_decide_eq_true h0
    injection q with q
    rw[aC]at q
    exact abN.mp (by omega)
   unfold sI at k
   rw[if_pos e0]at k
   exact k H (ak.refl _)
  ·have e0:ns≠[]:=fun z=>h0 (by rw[z];rfl)
   unfold sI at k
   rw[if_neg e0]at k
   refine⟨_,rfl,a,ns,rfl,.of ha,by omega,fun d H1 hd s1 h1=>?_⟩
   refine⟨_,rfl,d,ns,rfl,h1,hl,fun l ks H2 jf pI s2 bS h2=>?_⟩
   have dX:=s1.trans s2
   have jw:=s2 d _ h1
   obtain⟨k0,hk0,ek0⟩:=Al e0
   have aoV:k0∈ks.filter fun k=>decide ((ns.count k:Int)=most ns):=Dl.mpr ⟨jf.mem_iff.mpr (gZ.mpr hk0),decide_eq_true ek0⟩
   have BO:0<(ks.filter fun k=>decide ((ns.count k:Int)=most ns)).length:=abP aoV
   have Ae:(ks.filter fun k=>decide ((ns.count k:Int)=most ns)).getD 0 0∈ks.filter fun k=>decide ((ns.count k:Int)=most ns):=by
    rw[eX,bZ BO]
    exact A5 BO
   obtain⟨t1,t2⟩:=Dl.mp Ae
   have t3:(ns.count ((ks.filter fun k=>decide ((ns.count k:Int)=most ns)).getD 0 0):Int)=most ns:=of_decide_eq_true t2
   have t4:=gZ.mp (jf.mem_iff.mp t1)
   have g:gm H2 d (.int ((ks.filter fun k=>decide ((ns.count k:Int)=most ns)).getD 0 0)) (some (.int (most ns))):=by
    have:=gm.k (k:=cN ((ks.filter fun k=>decide ((ns.count k:Int)=most ns)).getD 0 0)) jw
    rw[oN,(ok ns).val,if_pos t4,t3]at this
    exact this
   refine⟨_,rfl,_,rfl,_,rfl,l,_,_,_,rfl,rfl,.of h2,p6 0 rfl BO,d,_,rfl,g,_,_,rfl,rfl,_,_,rfl,rfl,.inl hn,_,rfl,l,_,rfl,.inl (.of h2),_,_,rfl,rfl,?_⟩
   rw[aC,aaJ jf]
   exact k H2 dX
noncomputable def jQ(ks:List Int)(i:Nat):List (Int×Int):=(bT i).foldl (fun l j=>put l (ks.getD j 0) (j:Int)) []
theorem MR(ks:List Int)(i:Nat):jQ ks (i+1)=put (jQ ks i) (ks.getD i 0) (i:Int):=by
 unfold jQ
 rw[xE,List.foldl_append]
 rfl
theorem aaq(ks:List Int):∀i,(jQ ks i).length<=i
 | 0=>br _
 |i+1=>by
  rw[MR]
  have:=aaq ks i
  unfold put
  split
  ·rw[aC];omega
  ·rw[bW];simp;omega
noncomputable def near(ks:List Int)(n:Int)(j:Nat):Bool:=decide (ks.getD j 0≠-1)&&((get (jQ ks j) (ks.getD j 0)).isSome&&decide ((j:Int)-(get (jQ ks j) (ks.getD j 0)).getD 0<n))
noncomputable def oW(ks:List Int)(n:Int):Bool:=(bT ks.length).all fun j=>!near ks n j
theorem DQ{ks:List Int}{n:Int}:oW ks n=true↔∀j,j<ks.length->near ks n j=false:=by
 unfold oW
 rw[kD]
 constructor
 ·intro h j hj
  simpa using h j (iG.mpr hj)
 ·intro h j hj
  simpa using h j (iG.mp hj)
noncomputable def axJ:Sp:=fun vs H Q _=>∃(a:aa) (ks:List Int) (n:Int),vs=[.ref a,.int n]/\H a=some (.lst (ks.map V.int))/\ks.length<=100000/\∀H',ak H H'->Q (.bl (oW ks n)) H'
theorem MQ:bU ["kinds","apart","last","place","kind"] ["kinds","apart"] (az wR):=⟨rfl,rfl,rfl,by decide +kernel,rfl,by decide +kernel,by decide +kernel⟩
theorem atY(T:Txt K mg Z):bD P w K mg base bK 1 Z.UM Z.Tp ["kinds","apart"] axJ:=by
 refine T.Hz.fn.ok MQ (fun vs H Q E h=>?_) (fun bg A outer s H vs Q E hr h=>?_)
 ·obtain⟨a,ks,n,rfl,_⟩:=h
  rfl
 ·obtain⟨a,ks,n,rfl,ha,hl,k⟩:=h
  have hu:=pH hr
  refine⟨_,(aH (bR (i:=2) MQ.nd rfl (aT rfl) Mt)
   (aH (iF iy rfl (auu rfl T.adX (pv 0)) (yN (n:=2) rfl (i8 (cK (i:=3) MQ.nd rfl (aT rfl)) (i8 (cK (i:=4) MQ.nd rfl (aT rfl)) qy))) (aH (bY (PW.pt (qA (cG pL (pv 4) (yM (v:=.int (-1)) rfl T.LJ ⟨_,rfl⟩) (bI _)) (qA (aki (ajd hu (pv 4) (pv 2))) (vC (cG oG (bM mF (pv 3) (At hu (pv 2) (pv 4) (fun _ _=>rfl))) (pv 1) (bI _)))))) (aJ (aY cP)) b8)
   (aJ (Gf hu (pv 2) (pv 4) (pv 3) rfl))))
   (aJ (aY cP)))),?_⟩
  intro d hd
  have s1:ak H (upd H d (.dK [])):=(ak.refl H).upd hd
  refine⟨_,rfl,a,_,rfl,s1 a _ ha,aol (a:=a) (xs:=ks.map V.int) (fun i σ H2=>(∃v3 v4:Option V,σ=[some (.ref a),some (.int n),some (.ref d),v3,v4])/\ak H H2/\H2 d=some (.dK (kvs (jQ ks i)))/\∀j,j<i->near ks n j=false)
   ⟨⟨none,none,rfl⟩,s1,au,fun j hj=>absurd hj (ab8 _)⟩ (fun i σ H2 _ p=>p.2.1 a _ ha) (fun i x σ H2 t hx hP ht=>?_) (fun σ H2 hP=>?_)⟩
  ·obtain⟨⟨v3,v4,rfl⟩,s2,jw,cR⟩:=hP
   obtain⟨kd,Lc,rfl⟩:=j7 hx
   have uX:i<ks.length:=(iw.mp Lc).1
   have eg:ks.getD i 0=kd:=getD_at Lc
   have s3:ak H (upd H2 t (.tup [.int (i:Int),.int kd])):=s2.upd (s2.free ht)
   have mh:(upd H2 t (.tup [.int (i:Int),.int kd])) d=some (.dK (kvs (jQ ks i))):=by rw[aA (bf jw ht)];exact jw
   refine⟨t,_,rfl,.of au,rfl,_,_,rfl,_,_,rfl,rfl,?_⟩
   refine gR (fun σ' H'=>σ'=[some (.ref a),some (.int n),some (.ref d),some (.int (i:Int)),some (.int kd)]/\H'=upd H2 t (.tup [.int (i:Int),.int kd])/\near ks n i=false) (fun k2 hk=>?_) (fun σ' H' hz=>?_)
   ·have Jl:near ks n i=(decide (kd≠-1)&&((get (jQ ks i) kd).isSome&&decide ((i:Int)-(get (jQ ks i) kd).getD 0<n))):=by unfold near;rw[eg]
    refine⟨_,rfl,rfl,_,rfl,?_⟩
    rw[CP]
    refine dj (fun h1=>?_) (fun h1=>bH (hk _ _ ⟨rfl,rfl,?_⟩))
    ·have hv:gj (kvs (jQ ks i)) (cN kd:Key)=(get (jQ ks i) kd).map V.int:=oN _ _
     refine⟨_,rfl,_,rfl,d,_,rfl,gm.k (k:=cN kd) mh,_,rfl,?_⟩
     rw[hv]
     cases hg:get (jQ ks i) kd with
     |none=>
      refine bH (bH (hk _ _ ⟨rfl,rfl,?_⟩))
      rw[Jl,hg]
      simp
     |some y=>
      have g:gm (upd H2 t (.tup [.int (i:Int),.int kd])) d (.int kd) (some (.int y)):=by
       have:=gm.k (k:=cN kd) mh
       rw[hv,hg]at this
       exact this
      refine cJ ?_
      refine⟨_,rfl,_,rfl,_,rfl,d,_,rfl,g,_,_,rfl,rfl,_,rfl,_,_,rfl,rfl,_,rfl,dj (fun h2=>?_) (fun h2=>hk _ _ ⟨rfl,rfl,?_⟩)⟩
      ·have e:oW ks n=false:=by
        cases hb:oW ks n with
        |false=>rfl
        |true=>
         have:=DQ.mp hb i uX
         rw[Jl,hg,h1]at this
         have pq:decide ((i:Int)-y<n)=true:=h2
         simp only[IL,ux,iu,pq]at this
         cases this
       rw[e]at k
       exact k _ s3
      ·rw[Jl,hg]
       have pq:¬decide ((i:Int)-y<n)=true:=h2
       simp only[IL,ux,iu]
       cases hq:decide ((i:Int)-y<n) with
       |true=>exact absurd hq pq
       |false=>simp
    ·rw[Jl]
     cases hq:decide (kd≠-1) with
     |true=>exact absurd hq h1
     |false=>rfl
   obtain⟨rfl,rfl,gM⟩:=hz
   refine⟨_,rfl,_,rfl,_,rfl,d,_,rfl,uc.k (k:=cN kd) mh (pQ (by rw[Fy];have:=aaq ks i;omega)),⟨_,_,rfl⟩,s3.upd hd,?_,fun j hj=>?_⟩
   ·rw[au,Ct,MR,eg]
   ·rcases IG j i with z | z
    ·exact cR j z
    ·have:j=i:=by omega
     rw[this];exact gM
  ·obtain⟨⟨v3,v4,rfl⟩,s2,jw,cR⟩:=hP
   rw[aC]at cR
   have e:oW ks n=true:=DQ.mpr cR
   rw[e]at k
   exact k H2 s2
structure lO(C:aa)(H:Hp)(p l:aa)(ks:List Int):Prop where
 ob:∃dx,H p=some (.ins C dx [("kinds",.ref l)])
 lst:H l=some (.lst (ks.map V.int))
theorem lO.same{C:aa}{H H':Hp}{p l:aa}{ks:List Int}(h:lO C H p l ks)(s:ak H H'):lO C H' p l ks:=⟨h.ob.elim fun dx e=>⟨dx,s _ _ e⟩,s _ _ h.lst⟩
theorem kR(u:V):([("kinds",u)]:List (Str×V)).lookup ("kinds" : Str)=some u:=by
 show(gP "kinds" u []).lookup ("kinds" : Str)=some u
 rw[ow,if_pos rfl]
theorem vg(u:V){m:Str}(h1:¬m = "kinds"):([("kinds",u)]:List (Str×V)).lookup m=none:=by
 show(gP "kinds" u []).lookup m=none
 rw[ow,if_neg h1]
 rfl
noncomputable def aax(C:aa):Sp:=fun vs H Q _=>∃(p dx a:aa) (ks:List Int),vs=[.ref p,.ref a]/\H p=some (.ins C dx [])/\H a=some (.lst (ks.map V.int))/\ks.length<=1000000/\
 ∀(l:aa) (H':Hp),(∀c o,H c=some o->c≠p->H' c=some o)->H l=none->lO C H' p l ks->Q .cF H'
theorem ave:bU ["self","kinds"] ["self","kinds"] (az vO):=⟨rfl,rfl,rfl,by decide +kernel,rfl,by decide +kernel,by decide +kernel⟩
theorem ZF(T:Txt K mg Z):bD P w K mg base bK 3 Z.Kr Z.Se ["self","kinds"] (aax Z.gK):=by
 have y9:=F0 (P:=P) (w:=w) (base:=base) T
 refine T.Ba.fn.ok ave (fun vs H Q E h=>?_) (fun bg A outer s H vs Q E hr h=>?_)
 ·obtain⟨p,dx,a,ks,rfl,_⟩:=h
  rfl
 ·obtain⟨p,dx,a,ks,rfl,hp,ha,hl,k⟩:=h
  refine⟨_,(aJ (Au (pv 0) (aP y9 (hr.mono (by decide)) rfl T.d7.mg T.d7.fn.kp T.d7.bd .nil aG (aj (pv 1) aq)) rfl)),?_⟩
  refine⟨_,rfl,a,ks,rfl,ha,hl,fun l H1 s1 bS cT=>?_⟩
  have iL:=s1 p _ hp
  refine⟨_,rfl,p,_,dx,[],rfl,iL,T.sG,T.Ck,(by show 0<1000;decide),?_⟩
  have ki:l≠p:=kh cT iL (by intro z;cases z)
  refine k l _ (fun c o hc pB=>?_) bS ⟨⟨dx,au⟩,by rw[aA ki];exact cT⟩
  rw[aA pB]
  exact s1 c o hc
noncomputable def Az(ks ns:List Int):Bool:=decide (ks.Perm ns)&&fO ks
noncomputable def awU(C:aa):Sp:=fun vs H Q _=>∃(p l h:aa) (ks ns:List Int),vs=[.ref p,.ref h]/\lO C H p l ks/\ks.length<=1000000/\H h=some (.lst (ns.map V.int))/\ns.length<=1000000/\∀H',ak H H'->Q (.bl (Az ks ns)) H'
theorem avf:bU ["self","heap"] ["self","heap"] (az vP):=⟨rfl,rfl,rfl,by decide +kernel,rfl,by decide +kernel,by decide +kernel⟩
theorem aiY(T:Txt K mg Z):bD P w K mg base bK 4 Z.Ks Z.Sf ["self","heap"] (awU Z.gK):=by
 have za:=Mn (P:=P) (w:=w) (base:=base) T
 have NK:=ai6 (P:=P) (w:=w) (base:=base) T
 refine T.Dz.fn.ok avf (fun vs H Q E h=>?_) (fun bg A outer s H vs Q E hr h=>?_)
 ·obtain⟨p,l,h,ks,ns,rfl,_⟩:=h
  rfl
 ·obtain⟨p,l,h,ks,ns,rfl,⟨⟨dx,hp⟩,hk⟩,cT,hh,cE,k⟩:=h
  refine⟨_,(aJ (aY (gO (aP za (hr.mono (by decide)) rfl T.nC.mg T.nC.fn.kp T.nC.bd .nil aG (aj (eK (pv 0) rfl) (aj (pv 1) aq))) (iZ (aP NK (hr.mono (by decide)) rfl T.yG.mg T.yG.fn.kp T.yG.bd .nil aG (aj (eK (pv 0) rfl) aq)))))),?_⟩
  refine⟨_,rfl,p,_,dx,_,_,rfl,hp,T.sG,T.Ck,kR _,_,rfl,l,h,ks,ns,rfl,hk,hh,cT,cE,fun H1 s1=>⟨_,rfl,?_⟩⟩
  unfold Az at k
  cases hq:decide (ks.Perm ns) with
  |false=>
   rw[hq,iQ]at k
   exact bH (k H1 s1)
  |true=>
   rw[hq,iu]at k
   refine cJ ?_
   exact⟨_,rfl,p,_,dx,_,_,rfl,s1 p _ hp,T.sG,T.Ck,kR _,l,ks,rfl,s1 l _ hk,cT,k H1 s1⟩
theorem avc:bU ["self","kinds"] ["self","kinds"] (az vM):=⟨rfl,rfl,rfl,by decide +kernel,rfl,by decide +kernel,by decide +kernel⟩
theorem ZE(T:Txt K mg Z):bD P w K mg base bK 3 Z.Ko Z.Sc ["self","kinds"] (aax Z.gJ):=by
 have y9:=F0 (P:=P) (w:=w) (base:=base) T
 refine T.xM.fn.ok avc (fun vs H Q E h=>?_) (fun bg A outer s H vs Q E hr h=>?_)
 ·obtain⟨p,dx,a,ks,rfl,_⟩:=h
  rfl
 ·obtain⟨p,dx,a,ks,rfl,hp,ha,hl,k⟩:=h
  refine⟨_,(aJ (Au (pv 0) (aP y9 (hr.mono (by decide)) rfl T.d7.mg T.d7.fn.kp T.d7.bd .nil aG (aj (pv 1) aq)) rfl)),?_⟩
  refine⟨_,rfl,a,ks,rfl,ha,hl,fun l H1 s1 bS cT=>?_⟩
  have iL:=s1 p _ hp
  refine⟨_,rfl,p,_,dx,[],rfl,iL,T.ni,T.yF,(by show 0<1000;decide),?_⟩
  have ki:l≠p:=kh cT iL (by intro z;cases z)
  refine k l _ (fun c o hc pB=>?_) bS ⟨⟨dx,au⟩,by rw[aA ki];exact cT⟩
  rw[aA pB]
  exact s1 c o hc
noncomputable def tH(ks ns:List Int):Bool:=decide (ks.Perm ns)&&(!decide (ns.length<2)&&(fO ks&&decide (ks.getD (ks.length-1) 0≠ks.getD 0 0)))
theorem adW{ks:List Int}(h:0<ks.length):j0 (ks.map V.int) (-1)=some (.int (ks.getD (ks.length-1) 0)):=by
 unfold j0 qk
 rw[aC,if_neg (by omega),if_pos (by omega)]
 have e:(-1+(ks.length:Int)).toNat=ks.length-1:=by omega
 rw[e]
 show(ks.map V.int)[ks.length-1]?=_
 rw[dG,bZ (by omega),eX,bZ (by omega)]
 rfl
noncomputable def awT(C:aa):Sp:=fun vs H Q _=>∃(p l h:aa) (ks ns:List Int),vs=[.ref p,.ref h]/\lO C H p l ks/\ks.length<=1000000/\H h=some (.lst (ns.map V.int))/\ns.length<=1000000/\∀H',ak H H'->Q (.bl (tH ks ns)) H'
theorem avd:bU ["self","heap"] ["self","heap"] (az vN):=⟨rfl,rfl,rfl,by decide +kernel,rfl,by decide +kernel,by decide +kernel⟩
theorem aiX(T:Txt K mg Z):bD P w K mg base bK 4 Z.Kq Z.Sd ["self","heap"] (awT Z.gJ):=by
 have za:=Mn (P:=P) (w:=w) (base:=base) T
 have NK:=ai6 (P:=P) (w:=w) (base:=base) T
 refine T.zD.fn.ok avd (fun vs H Q E h=>?_) (fun bg A outer s H vs Q E hr h=>?_)
 ·obtain⟨p,l,h,ks,ns,rfl,_⟩:=h
  rfl
 ·obtain⟨p,l,h,ks,ns,rfl,⟨⟨dx,hp⟩,hk⟩,cT,hh,cE,k⟩:=h
  refine⟨_,(aH (bY (PW.pt (ji (eT (dm (aP za (hr.mono (by decide)) rfl T.nC.mg T.nC.fn.kp T.nC.bd .nil aG (aj (eK (pv 0) rfl) (aj (pv 1) aq))))) (jP (cG oG (bB dI rfl T.cW dh (aj (pv 1) aq)) aD (bI _))))) (aJ (aY cP)) b8)
   (aJ (aY (gO (aP NK (hr.mono (by decide)) rfl T.yG.mg T.yG.fn.kp T.yG.bd .nil aG (aj (eK (pv 0) rfl) aq)) (iZ (fW pL (cX eZ (eK (pv 0) rfl) (sO tX aD) (fun _ _=>rfl)) (cX eZ (eK (pv 0) rfl) aD (fun _ _=>rfl)) (bI _))))))),?_⟩
  refine⟨_,rfl,p,_,dx,_,_,rfl,hp,T.ni,T.yF,kR _,_,rfl,l,h,ks,ns,rfl,hk,hh,cT,cE,fun H1 s1=>⟨_,rfl,?_⟩⟩
  unfold tH at k
  cases hq:decide (ks.Perm ns) with
  |false=>
   rw[hq,iQ]at k
   exact cJ (cJ (k H1 s1))
  |true=>
   rw[hq,iu]at k
   have kO:=s1 p _ hp
   have iK:=s1 l _ hk
   refine bH ?_
   refine⟨_,rfl,h,_,rfl,.inl (.of (s1 h _ hh)),_,_,rfl,rfl,_,rfl,dj (fun hc=>?_) (fun hc=>?_)⟩
   ·have d8:ns.length<2:=by
     have:=of_decide_eq_true hc
     rw[aC]at this
     omega
    rw[decide_eq_true d8]at k
    exact k H1 s1
   ·have d8:¬ns.length<2:=fun z=>hc (decide_eq_true (by rw[aC];omega))
    rw[decide_eq_false d8,Bool.not_false,iu]at k
    refine⟨_,rfl,p,_,dx,_,_,rfl,kO,T.ni,T.yF,kR _,l,ks,rfl,iK,cT,_,rfl,?_⟩
    cases hu:fO ks with
    |false=>
     rw[hu,iQ]at k
     exact bH (k H1 s1)
    |true=>
     rw[hu,iu]at k
     refine cJ ?_
     have bC:ks.length=ns.length:=(of_decide_eq_true hq:ks.Perm ns).length_eq
     refine⟨_,rfl,p,_,dx,_,_,rfl,kO,T.ni,T.yF,kR _,_,rfl,l,_,_,_,rfl,rfl,.of iK,adW (by omega),_,rfl,p,_,dx,_,_,rfl,kO,T.ni,T.yF,kR _,l,_,_,_,rfl,rfl,.of iK,p6 0 rfl (by omega),rfl,?_⟩
     show Q (.bl (!decide (V.int (ks.getD (ks.length-1) 0)=V.int (ks.getD 0 0)))) H1
     rw[CP]
     exact k H1 s1
noncomputable def ur(C:aa)(H:Hp)(p:aa)(kd:Int):Prop:=∃dx,H p=some (.ins C dx [("kind",.int kd)])
theorem ur.same{C:aa}{H H':Hp}{p:aa}{kd:Int}(h:ur C H p kd)(s:ak H H'):ur C H' p kd:=h.elim fun dx e=>⟨dx,s _ _ e⟩
theorem LY(u:V):([("kind",u)]:List (Str×V)).lookup ("kind" : Str)=some u:=by
 show(gP "kind" u []).lookup ("kind" : Str)=some u
 rw[ow,if_pos rfl]
theorem FE(u:V){m:Str}(h1:¬m = "kind"):([("kind",u)]:List (Str×V)).lookup m=none:=by
 show(gP "kind" u []).lookup m=none
 rw[ow,if_neg h1]
 rfl
noncomputable def awO(C:aa):Sp:=fun vs H Q _=>∃(p dx:aa) (kd:Int),vs=[.ref p,.int kd]/\H p=some (.ins C dx [])/\∀H',(∀c o,H c=some o->c≠p->H' c=some o)->ur C H' p kd->Q .cF H'
theorem au9:bU ["self","kind"] ["self","kind"] (az vG):=⟨rfl,rfl,rfl,by decide +kernel,rfl,by decide +kernel,by decide +kernel⟩
theorem Mj(T:Txt K mg Z):bD P w K mg base bK 2 Z.Kf Z.R5 ["self","kind"] (awO Z.fH):=by
 have al5:=ZJ (P:=P) (w:=w) (base:=base) T
 refine T.xF.fn.ok au9 (fun vs H Q E h=>?_) (fun bg A outer s H vs Q E hr h=>?_)
 ·obtain⟨p,dx,kd,rfl,_⟩:=h
  rfl
 ·obtain⟨p,dx,kd,rfl,hp,k⟩:=h
  refine⟨_,(aJ (Au (pv 0) (aP al5 (hr.mono (by decide)) rfl T.d7.mg T.d7.fn.kp T.d7.bd .nil aG (aj (pv 1) aq)) rfl)),?_⟩
  refine⟨_,rfl,kd,rfl,_,rfl,p,_,dx,[],rfl,hp,T.pK,T.Cj,(by show 0<1000;decide),?_⟩
  refine k _ (fun c o hc pB=>?_) ⟨dx,au⟩
  rw[aA pB]
  exact hc
noncomputable def w6(kd:Int)(ns:List Int):Int:=(ns.count kd:Int)-((ns.length:Int)-(ns.count kd:Int))
noncomputable def awQ(C:aa):Sp:=fun vs H Q _=>∃(p h:aa) (kd:Int) (ns:List Int),vs=[.ref p,.ref h]/\ur C H p kd/\H h=some (.lst (ns.map V.int))/\Q (.int (w6 kd ns)) H
theorem akB:bU ["self","heap","number"] ["self","heap"] (az vJ):=⟨rfl,rfl,rfl,by decide +kernel,rfl,by decide +kernel,by decide +kernel⟩
theorem aiV(T:Txt K mg Z):bD P w K mg base bK 1 Z.Kl Z.R8 ["self","heap"] (awQ Z.fH):=by
 refine T.IF.fn.ok akB (fun vs H Q E h=>?_) (fun bg A outer s H vs Q E hr h=>?_)
 ·obtain⟨p,h,kd,ns,rfl,_⟩:=h
  rfl
 ·obtain⟨p,h,kd,ns,rfl,⟨dx,hp⟩,hh,k⟩:=h
  refine⟨_,(aH (bR (i:=2) akB.nd rfl (aT rfl) (ie gT acn acq Zk (pv 1) (aj (eK (pv 0) rfl) aq)))
   (aJ (aY (bM mF (pv 2) (bM mF (bB dI rfl T.cW dh (aj (pv 1) aq)) (pv 2)))))),?_⟩
  refine⟨_,rfl,ir hh,_,rfl,p,_,dx,_,_,rfl,hp,T.pK,T.Cj,LY _,h,ns,_,rfl,rfl,.of hh,?_⟩
  refine⟨_,rfl,_,rfl,h,_,rfl,.inl (.of hh),_,rfl,_,_,rfl,rfl,_,_,rfl,rfl,?_⟩
  rw[aC]
  exact k
noncomputable def awP(C:aa):Sp:=fun vs H Q _=>∃(p h:aa) (kd:Int) (ns:List Int),vs=[.ref p,.ref h]/\ur C H p kd/\H h=some (.lst (ns.map V.int))/\ns.length<=1000000/\∀H',ak H H'->Q (.bl (decide (1<w6 kd ns))) H'
theorem ava:bU ["self","heap"] ["self","heap"] (az vI):=⟨rfl,rfl,rfl,by decide +kernel,rfl,by decide +kernel,by decide +kernel⟩
theorem ati(T:Txt K mg Z):bD P w K mg base bK 3 Z.Kh Z.R7 ["self","heap"] (awP Z.fH):=by
 have lD:=yJ (P:=P) (w:=w) (base:=base) T
 have mQ:=Ar (P:=P) (w:=w) (base:=base) T
 have NB:=aiV (P:=P) (w:=w) (base:=base) T
 refine T.Oa.fn.ok ava (fun vs H Q E h=>?_) (fun bg A outer s H vs Q E hr h=>?_)
 ·obtain⟨p,h,kd,ns,rfl,_⟩:=h
  rfl
 ·obtain⟨p,h,kd,ns,rfl,⟨dx,hp⟩,hh,hl,k⟩:=h
  refine⟨_,(aJ (aY (gO (aP lD (hr.mono (by decide)) rfl T.fU.mg T.fU.fn.kp T.fU.bd .nil aG (aj (eK (pv 0) rfl) aq)) (gO (aP mQ (hr.mono (by decide)) rfl T.gH.mg T.gH.fn.kp T.gH.bd .nil aG (aj (pv 1) aq)) (iZ (fW mD (kT (pv 0) T.pK T.Va NB (hr.mono (by decide)) T.IF.bd .nil aG (aj (pv 1) aq)) aD (bI _))))))),?_⟩
  refine⟨_,rfl,p,_,dx,_,_,rfl,hp,T.pK,T.Cj,LY _,kd,rfl,true,rfl,cJ ?_⟩
  refine⟨_,rfl,h,ns,rfl,hh,hl,fun H1 s1=>⟨true,rfl,cJ ?_⟩⟩
  exact⟨_,rfl,p,dx,_,rfl,s1 p _ hp,FE _ (by decide +kernel),_,rfl,p,h,kd,ns,rfl,⟨dx,s1 p _ hp⟩,s1 h _ hh,_,_,rfl,rfl,k H1 s1⟩
noncomputable def awN(C:aa):Sp:=fun vs H Q _=>∃(p h:aa) (kd:Int) (ns:List Int),vs=[.ref p,.ref h]/\ur C H p kd/\H h=some (.lst (ns.map V.int))/\ns.length<=1000000/\∀H',ak H H'->Q (.bl (!decide (ns.length<2)&&decide (0<w6 kd ns))) H'
theorem au':bU ["self","heap"] ["self","heap"] (az vH):=⟨rfl,rfl,rfl,by decide +kernel,rfl,by decide +kernel,by decide +kernel⟩
theorem aiU(T:Txt K mg Z):bD P w K mg base bK 3 Z.Kg Z.R6 ["self","heap"] (awN Z.fH):=by
 have lD:=yJ (P:=P) (w:=w) (base:=base) T
 have mQ:=Ar (P:=P) (w:=w) (base:=base) T
 have NB:=aiV (P:=P) (w:=w) (base:=base) T
 refine T.IE.fn.ok au' (fun vs H Q E h=>?_) (fun bg A outer s H vs Q E hr h=>?_)
 ·obtain⟨p,h,kd,ns,rfl,_⟩:=h
  rfl
 ·obtain⟨p,h,kd,ns,rfl,⟨dx,hp⟩,hh,hl,k⟩:=h
  refine⟨_,(aH (bY (PW.pt (ji (eT (dm (aP lD (hr.mono (by decide)) rfl T.fU.mg T.fU.fn.kp T.fU.bd .nil aG (aj (eK (pv 0) rfl) aq)))) (ji (eT (dm (aP mQ (hr.mono (by decide)) rfl T.gH.mg T.gH.fn.kp T.gH.bd .nil aG (aj (pv 1) aq)))) (jP (cG oG (bB dI rfl T.cW dh (aj (pv 1) aq)) aD (bI _)))))) (aJ (aY cP)) b8)
   (aJ (aY (fW mD (kT (pv 0) T.pK T.Va NB (hr.mono (by decide)) T.IF.bd .nil aG (aj (pv 1) aq)) aD (bI _))))),?_⟩
  refine⟨_,rfl,p,_,dx,_,_,rfl,hp,T.pK,T.Cj,LY _,kd,rfl,true,rfl,bH ?_⟩
  refine⟨_,rfl,h,ns,rfl,hh,hl,fun H1 s1=>⟨true,rfl,bH ?_⟩⟩
  refine⟨_,rfl,h,_,rfl,.inl (.of (s1 h _ hh)),_,_,rfl,rfl,_,rfl,dj (fun hc=>?_) (fun hc=>?_)⟩
  ·have d8:ns.length<2:=by
    have:=of_decide_eq_true hc
    rw[aC]at this
    omega
   rw[decide_eq_true d8]at k
   exact k H1 s1
  ·have d8:¬ns.length<2:=fun z=>hc (decide_eq_true (by rw[aC];omega))
   rw[decide_eq_false d8,Bool.not_false,iu]at k
   exact⟨_,rfl,p,dx,_,rfl,s1 p _ hp,FE _ (by decide +kernel),_,rfl,p,h,kd,ns,rfl,⟨dx,s1 p _ hp⟩,s1 h _ hh,_,_,rfl,rfl,k H1 s1⟩
theorem avg:bU ["self","kinds"] ["self","kinds"] (az vQ):=⟨rfl,rfl,rfl,by decide +kernel,rfl,by decide +kernel,by decide +kernel⟩
theorem aiZ(T:Txt K mg Z):bD P w K mg base bK 3 Z.Ku Z.Sg ["self","kinds"] (aax Z.iz):=by
 have y9:=F0 (P:=P) (w:=w) (base:=base) T
 refine T.IS.fn.ok avg (fun vs H Q E h=>?_) (fun bg A outer s H vs Q E hr h=>?_)
 ·obtain⟨p,dx,a,ks,rfl,_⟩:=h
  rfl
 ·obtain⟨p,dx,a,ks,rfl,hp,ha,hl,k⟩:=h
  refine⟨_,(aJ (Au (pv 0) (aP y9 (hr.mono (by decide)) rfl T.d7.mg T.d7.fn.kp T.d7.bd .nil aG (aj (pv 1) aq)) rfl)),?_⟩
  refine⟨_,rfl,a,ks,rfl,ha,hl,fun l H1 s1 bS cT=>?_⟩
  have iL:=s1 p _ hp
  refine⟨_,rfl,p,_,dx,[],rfl,iL,T.sH,T.vm,(by show 0<1000;decide),?_⟩
  have ki:l≠p:=kh cT iL (by intro z;cases z)
  refine k l _ (fun c o hc pB=>?_) bS ⟨⟨dx,au⟩,by rw[aA ki];exact cT⟩
  rw[aA pB]
  exact s1 c o hc
noncomputable def jR(ks:List Int):List Int:=ks.filter fun k=>decide (k≠-1)
noncomputable def MT(ks ns:List Int)(n:Int):Bool:=decide ((jR ks).Perm ns)&&(oW ks n&&(decide ((jR ks).length=ks.length)||decide ((ks.length:Int)=sI ns n)))
noncomputable def awV(C:aa):Sp:=fun vs H Q _=>∃(p l h:aa) (ks ns:List Int) (n:Int),vs=[.ref p,.ref h,.int n]/\lO C H p l ks/\ks.length<=100000/\H h=some (.lst (ns.map V.int))/\ns.length<=63/\(-(2^64)<n/\n<2^64)/\∀H',ak H H'->Q (.bl (MT ks ns n)) H'
noncomputable def Fg:V->Option V
 | .int k=>if decide (k≠-1)=true then some (V.int k)else none
 |_=>none
theorem alb(ks:List Int):(ks.map V.int).filterMap Fg=(jR ks).map V.int:=by
 unfold jR
 induction ks with
 |nil=>rfl
 |cons x ks ih=>
  rw[dM,nK,Iz]
  by_cases hx:decide (x≠-1)=true
  ·simp only[Fg,hx,if_true]
   rw[dM,ih]
  ·simp only[Fg,hx,if_false]
   exact ih
theorem akD:bU ["self","heap","apart","things"] ["self","heap","apart"] (az sU):=⟨rfl,rfl,rfl,by decide +kernel,rfl,by decide +kernel,by decide +kernel⟩
theorem atk(T:Txt K mg Z):bD P w K mg base bK 4 Z.Kv Z.Sh ["self","heap","apart"] (awV Z.iz):=by
 have mQ:=Ar (P:=P) (w:=w) (base:=base) T
 have lD:=yJ (P:=P) (w:=w) (base:=base) T
 have za:=Mn (P:=P) (w:=w) (base:=base) T
 have amq:=atY (P:=P) (w:=w) (base:=base) T
 have amk:=atQ (P:=P) (w:=w) (base:=base) T
 refine T.Ov.fn.ok akD (fun vs H Q E h=>?_) (fun bg A outer s H vs Q E hr h=>?_)
 ·obtain⟨p,l,h,ks,ns,n,rfl,_⟩:=h
  rfl
 ·obtain⟨p,l,h,ks,ns,n,rfl,⟨⟨dx,hp⟩,hk⟩,cT,hh,cE,hn,k⟩:=h
  refine⟨_,(aH (bY (PW.pt (ji (eT (dm (aP mQ (hr.mono (by decide)) rfl T.gH.mg T.gH.fn.kp T.gH.bd .nil aG (aj (eK (pv 0) rfl) aq)))) (jP (eT (dm (aP lD (hr.mono (by decide)) rfl T.fU.mg T.fU.fn.kp T.fU.bd .nil aG (aj (pv 2) aq))))))) (aJ (aY cP)) b8)
   (aH (Z4 (i:=3) (N:=["kind"]) (cap:=[none]) rfl akD.nd rfl (aT rfl) (iA (XN:=["self","heap","apart","things"]) (xs:=(az sU).names) rfl rfl (by decide +kernel)) (gf (eK (pv 0) rfl)) (fun _ _ _=>(cK (i:=0) (show(["kind"]:List Str).Nodup by decide +kernel) rfl (aT rfl) (eF rfl))) (fun _ _ _=>(Mx (cG pL (pv 0) (yM (v:=.int (-1)) rfl T.LJ ⟨_,rfl⟩) (bI _)))) (fun _ _ _=>(pv 0)))
   (aH (bY (PW.pt (ji (eT (dm (aP za (hr.mono (by decide)) rfl T.nC.mg T.nC.fn.kp T.nC.bd .nil aG (aj (pv 3) (aj (pv 1) aq))))) (jP (eT (dm (aP amq (hr.mono (by decide)) rfl T.Hz.mg T.Hz.fn.kp T.Hz.bd .nil aG (aj (eK (pv 0) rfl) (aj (pv 2) aq)))))))) (aJ (aY cP)) b8)
   (aJ (aY (ajg (fW gv (bB dI rfl T.cW dh (aj (pv 3) aq)) (bB dI rfl T.cW dh (aj (eK (pv 0) rfl) aq)) (bI _)) (iZ (fW gv (bB dI rfl T.cW dh (aj (eK (pv 0) rfl) aq)) (aP amk (hr.mono (by decide)) rfl T.FO.mg T.FO.fn.kp T.FO.bd .nil aG (aj (pv 1) (aj (pv 2) aq))) (bI _))))))))),?_⟩
  refine⟨_,rfl,p,_,dx,_,_,rfl,hp,T.sH,T.vm,kR _,l,ks,rfl,hk,by omega,fun H1 s1=>⟨true,rfl,bH ?_⟩⟩
  refine⟨_,rfl,n,rfl,true,rfl,bH ?_⟩
  have iK:=s1 l _ hk
  refine⟨_,rfl,p,_,dx,_,_,rfl,s1 p _ hp,T.sH,T.vm,kR _,l,rfl,⟨_,.of iK⟩,LS (fun σ=>∃v,σ=[v]) Fg (by rw[aC];omega) ⟨none,rfl⟩ (.of iK) ?_ ?_⟩
  ·rintro i x σ' H' k2 r hx ⟨v0,rfl⟩ sm bA sy
   obtain⟨m,hm,rfl⟩:=j7 hx
   refine⟨_,rfl,rfl,_,rfl,?_⟩
   rw[CP]
   refine dj (fun hc=>⟨_,rfl,bA _ _ _ (if_pos hc) ⟨_,rfl⟩ (ak.refl _)⟩) (fun hc=>sy _ _ (if_neg hc) ⟨_,rfl⟩ (ak.refl _))
  intro D H2 hD s2 hA
  rw[alb]at hA
  have dX:=s1.trans s2
  have Ac:(jR ks).length<=ks.length:=IB _ _
  refine⟨_,rfl,_,rfl,D,h,jR ks,ns,rfl,hA,dX h _ hh,by omega,by omega,fun H3 s3=>⟨_,rfl,?_⟩⟩
  have dJ:=dX.trans s3
  unfold MT at k
  cases hq:decide ((jR ks).Perm ns) with
  |false=>
   rw[hq,iQ]at k
   exact cJ (cJ (k H3 dJ))
  |true=>
   rw[hq,iu]at k
   refine bH ?_
   refine⟨_,rfl,p,_,dx,_,_,rfl,dJ p _ hp,T.sH,T.vm,kR _,_,rfl,l,ks,n,rfl,dJ l _ hk,cT,fun H4 s4=>⟨_,rfl,?_⟩⟩
   have eN:=dJ.trans s4
   have hD4:=s4 D _ (s3 D _ hA)
   cases hu:oW ks n with
   |false=>
    rw[hu,iQ]at k
    exact cJ (k H4 eN)
   |true=>
    rw[hu,iu]at k
    refine bH ?_
    have uY:=eN l _ hk
    refine⟨_,rfl,D,_,rfl,.inl (.of hD4),_,rfl,p,_,dx,_,_,rfl,eN p _ hp,T.sH,T.vm,kR _,l,_,rfl,.inl (.of uY),rfl,_,rfl,?_⟩
    have e:decide (V.int (((jR ks).map V.int).length:Int)=V.int ((ks.map V.int).length:Int))=decide ((jR ks).length=ks.length):=by
     rw[qW,aC,aC]
     by_cases z:(jR ks).length=ks.length
     ·rw[z];simp
     ·rw[decide_eq_false z,decide_eq_false (by omega)]
    rw[e]
    cases hv:decide ((jR ks).length=ks.length) with
    |true=>
     rw[hv,Bool.true_or]at k
     exact cJ (k H4 eN)
    |false=>
     rw[hv,Bool.false_or]at k
     refine bH ?_
     refine⟨_,rfl,p,_,dx,_,_,rfl,eN p _ hp,T.sH,T.vm,kR _,l,_,rfl,.inl (.of uY),_,rfl,_,rfl,h,ns,n,rfl,eN h _ hh,cE,hn,fun H5 s5=>⟨rfl,?_⟩⟩
     rw[qW,aC]
     exact k H5 (eN.trans s5)
noncomputable def aiv:Str:=(("commonest_first" : Str)++".<locals>.")++"<lambda>"
noncomputable def nR(TB:aa)(H:Hp):Prop:=H TB=some (.dU aiv (aiu pO))
theorem nR.same{TB:aa}{H H':Hp}(h:nR TB H)(s:ak H H'):nR TB H':=s _ _ h
theorem alp{a b:Int}{r:List Int}(h:fO (a::b::r)=true):a≠b/\fO (b::r)=true/\fO r=true:=by
 have h':=xj.mp h
 refine⟨by simpa using h' 0 (by simp),xj.mpr fun i hi=>?_,xj.mpr fun i hi=>?_⟩
 ·have:=h' (i+1) (by simp at hi ⊢;omega)
  simpa using this
 ·have:=h' (i+2) (by simp at hi ⊢;omega)
  simpa using this
theorem aaP(k:Int):∀(m:Nat) (ks:List Int),ks.length<=m->fO ks=true->2*ks.count k<=ks.length+1
 |_,[],_,_=>by simp
 |_,[a],_,_=>by
  have:=A2 (a:=k) (l:=[a])
  simp at this ⊢
  omega
 | 0,a::b::r,h,_=>by simp at h
 |m+1,a::b::r,h,hu=>by
  obtain⟨h1,_,h3⟩:=alp hu
  have ih:=aaP k m r (by simp at h;omega) h3
  rw[NW,NW]
  simp only[gF]
  by_cases z:a=k
  ·have z2:¬b=k:=fun q=>h1 (z.trans q.symm)
   simp[z,z2]
   omega
  ·by_cases z2:b=k
   ·simp[z,z2];omega
   ·simp[z,z2];omega
noncomputable def am8(CR CM:aa)(ns:List Int)(H H':Hp)(p:aa):Prop:=
 (∃l ks,H l=none/\lO CR H' p l ks/\ks.Perm ns/\fO ks=true)\/∃kd,ur CM H' p kd/\(ns.length:Int)+1<2*(ns.count kd:Int)
noncomputable def axM(CR CM TB:aa):Sp:=fun vs H Q _=>∃(a:aa) (ns:List Int),vs=[.ref a]/\H a=some (.lst (ns.map V.int))/\ns.length<=63/\(∀n∈ns,0<=n/\n<=999)/\nR TB H/\
 ∀(p:aa) (H':Hp),ak H H'->H p=none->am8 CR CM ns H H' p->Q (.ref p) H'
noncomputable def axg(TB:aa):Sp:=fun vs H Q _=>∃(d:aa) (ks:List Int) (f:Int->Int),vs=[.ref d]/\H d=some (.dK (kvs (iW ks f)))/\ks.length<=63/\(∀k∈ks,0<=k/\k<=999)/\nR TB H/\
 ∀(l:aa) (ts:List Int) (H':Hp),ak H H'->H l=none->ts.Perm ks->ts.Pairwise (fun a b=>-f a*1000+a<=-f b*1000+b)->H' l=some (.lst (ts.map V.int))->Q (.ref l) H'
theorem avq:bU ["numbers"] ["numbers"] (az pO):=⟨rfl,rfl,rfl,by decide +kernel,rfl,by decide +kernel,by decide +kernel⟩
theorem Mm(T:Txt K mg Z):bD P w K mg base bK 3 Z.Kw Z.SR ["numbers"] (axg Z.qO):=by
 refine T.xY.fn.okC avq (fun vs H Q E h=>?_) (fun bg A outer s H vs Q E jd hr h=>?_)
 ·obtain⟨d,ks,f,rfl,_⟩:=h
  rfl
 ·obtain⟨d,ks,f,rfl,hd,hl,hb,hP,k⟩:=h
  have hct:bg=.ref Z.LK:=cY (jd.symm.trans T.aea)
  refine⟨_,(aJ (aY (auo (N:=["kind","numbers"]) (cap:=[none,some 0]) rfl rfl T.mW oY (iA (XN:=["numbers"]) (xs:=(az pO).names) rfl rfl (by decide +kernel)) (hr.mono (by decide)) hct T.aee (pv 0) (fun _ _ _ _ _ hu=>(i6 (aj (sO tX (At hu (pv 1) (pv 0) (fun _ _=>rfl))) (aj (pv 0) aq))))))),?_⟩
  refine⟨_,rfl,d,_,ks,fun n=>-f n,rfl,hd,by rw[XG,agl],by omega,hb,hP,fun n hn H' zY=>?_,fun l ts H' s1 bS hp hpw h1=>k l ts H' s1 bS hp hpw h1⟩
  exact⟨_,rfl,_,rfl,d,_,rfl,alu zY hn,_,rfl,_,rfl,by show 2<=aX;decide,fun t ht=>⟨t,ht,rfl,rfl⟩⟩
theorem anj{ks:List Int}(h:0<ks.length):j0 (ks.map V.int) (-1)=some (.int (ks.getD (ks.length-1) 0)):=by
 unfold j0 qk
 rw[aC,if_neg (by omega),if_pos (by omega)]
 have e:(-1+(ks.length:Int)).toNat=ks.length-1:=by omega
 rw[e]
 show(ks.map V.int)[ks.length-1]?=_
 rw[dG,bZ (by omega),eX,bZ (by omega)]
 rfl
noncomputable def p8(es os:List Int)(i:Nat):List Int:=((es.zip os).take i).flatMap fun p=>[p.1,p.2]
theorem agr(es os:List Int)(i:Nat):(p8 es os i).length<=2*i:=by
 unfold p8
 have:∀l:List (Int×Int),(l.flatMap fun p=>[p.1,p.2]).length=2*l.length:=fun l=>by
  induction l with
  |nil=>rfl
  |cons p l ih=>rw[List.flatMap_cons,bW,ih,gF];simp;omega
 rw[this,jr]
 omega
theorem aoj{es os:List Int}{i:Nat}{x y:Int}(h1:es[i]?=some x)(h2:os[i]?=some y):p8 es os (i+1)=p8 es os i++[x,y]:=by
 unfold p8
 have e:(es.zip os)[i]?=some (x,y):=N2.mpr ⟨h1,h2⟩
 rw[jW,e]
 simp
noncomputable def axn:Sp:=fun vs H Q _=>∃(a b:aa) (es os:List Int),vs=[.ref a,.ref b]/\H a=some (.lst (es.map V.int))/\H b=some (.lst (os.map V.int))/\es.length<=400/\os.length<=400/\
 ∀(l:aa) (H':Hp),ak H H'->H l=none->H' l=some (.lst ((HH es os).map V.int))->Q (.ref l) H'
theorem MM:bU ["evens","odds","row","even","odd"] ["evens","odds"] (az wl):=⟨rfl,rfl,rfl,by decide +kernel,rfl,by decide +kernel,by decide +kernel⟩
theorem atD(T:Txt K mg Z):bD P w K mg base bK 1 Z.Uq Z.SV ["evens","odds"] axn:=by
 refine T.E6.fn.ok MM (fun vs H Q E h=>?_) (fun bg A outer s H vs Q E hr h=>?_)
 ·obtain⟨a,b,es,os,rfl,_⟩:=h
  rfl
 ·obtain⟨a,b,es,os,rfl,ha,hb,cT,cE,k⟩:=h
  refine⟨_,(aH (bR (i:=2) MM.nd rfl (aT rfl) (dD aq))
   (aH (iF iy rfl (auy rfl T.O7 (aj (pv 0) (aj (pv 1) aq))) (yN (n:=2) rfl (i8 (cK (i:=3) MM.nd rfl (aT rfl)) (i8 (cK (i:=4) MM.nd rfl (aT rfl)) qy))) (aH (fX (ie gT pZ PySem.F.type_list_append oA (pv 2) (aj (pv 3) aq)))
   (aJ (fX (ie gT pZ PySem.F.type_list_append oA (pv 2) (aj (pv 4) aq))))))
   (aH (bY (cG mD (bB dI rfl T.cW dh (aj (pv 0) aq)) (bB dI rfl T.cW dh (aj (pv 1) aq)) (bI _)) (aJ (fX (ie gT pZ PySem.F.type_list_append oA (pv 2) (aj (cX eZ (pv 0) (sO tX aD) (fun _ _=>rfl)) aq)))) b8)
   (aJ (aY (pv 2)))))),?_⟩
  refine⟨fz _,fun l bS=>?_⟩
  have s1:ak H (upd H l (.lst [])):=(ak.refl H).upd bS
  refine⟨_,rfl,_,rfl,a,b,_,_,rfl,s1 a _ ha,s1 b _ hb,aom (a:=a) (b:=b) (xs:=es.map V.int) (ys:=os.map V.int) (fun i σ H2=>(∃v w:Option V,σ=[some (.ref a),some (.ref b),some (.ref l),v,w])/\i<=400/\ak H H2/\H2 l=some (.lst ((p8 es os i).map V.int)))
   ⟨⟨none,none,rfl⟩,by omega,s1,au⟩ (fun i σ H2 _ p=>⟨p.2.2.1 a _ ha,p.2.2.1 b _ hb⟩) (fun i x y σ H2 t hx hy hP ht=>?_) (fun σ H2 hP=>?_)⟩
  ·obtain⟨⟨v,w',rfl⟩,hi,s2,h2⟩:=hP
   obtain⟨m,hm,rfl⟩:=j7 hx
   obtain⟨n,hn,rfl⟩:=j7 hy
   have him:i<es.length:=(iw.mp hm).1
   have hz:=agr es os i
   have nlt:l≠t:=bf h2 ht
   have s3:=s2.upd (o:=.tup [.int m,.int n]) (s2.free ht)
   have h3:(upd H2 t (.tup [.int m,.int n])) l=some (.lst ((p8 es os i).map V.int)):=by rw[aA nlt];exact h2
   refine⟨t,_,rfl,.of au,rfl,_,_,rfl,_,_,rfl,rfl,?_⟩
   generalize upd H2 t (.tup [.int m,.int n])=H3 at s3 h3
   refine⟨_,rfl,ir h3,_,rfl,l,_,_,rfl,rfl,h3,AA (by rw[aC];omega),?_⟩
   have h4:(upd H3 l (.lst ((p8 es os i).map V.int++[.int m]))) l=some (.lst ((p8 es os i).map V.int++[.int m])):=au
   refine⟨_,rfl,ir h4,_,rfl,l,_,_,rfl,rfl,h4,AA (by rw[bW,aC];simp;omega),?_⟩
   refine⟨⟨_,_,rfl⟩,by omega,(s3.upd bS).upd bS,?_⟩
   rw[au,aoj hm hn]
   simp
  ·obtain⟨⟨v,w',rfl⟩,hi,s2,h2⟩:=hP
   have e0:p8 es os (min (es.map V.int).length (os.map V.int).length)=(es.zip os).flatMap fun p=>[p.1,p.2]:=by
    unfold p8
    rw[zp (by rw[abR,aC,aC];omega)]
   have hz:=agr es os (min (es.map V.int).length (os.map V.int).length)
   rw[e0]at h2 hz
   simp only[aC]at hz
   refine⟨_,rfl,a,_,rfl,.inl (.of (s2 a _ ha)),_,rfl,b,_,rfl,.inl (.of (s2 b _ hb)),_,_,rfl,rfl,_,rfl,?_⟩
   refine dj (fun hc=>?_) (fun hc=>?_)
   ·have d8:os.length<es.length:=by
     have:=of_decide_eq_true hc
     rw[aC,aC]at this
     omega
    refine⟨_,rfl,ir h2,_,rfl,1,rfl,a,_,_,_,rfl,rfl,.of (s2 a _ ha),anj (by omega),l,_,_,rfl,rfl,h2,AA (by rw[aC];omega),?_⟩
    refine⟨_,rfl,k l _ (s2.upd bS) bS ?_⟩
    rw[au]
    unfold HH
    rw[if_pos d8,fD]
    rfl
   ·have d8:¬os.length<es.length:=fun z=>hc (decide_eq_true (by rw[aC,aC];omega))
    refine⟨_,rfl,k l _ s2 bS ?_⟩
    rw[h2]
    unfold HH
    rw[if_neg d8,Iu]
noncomputable def axw:Sp:=fun vs H Q _=>∃(d:aa) (ks:List Int) (f:Int->Int) (B:Int),vs=[.ref d,.int B]/\H d=some (.dK (kvs (iW ks f)))/\ks.length<=63/\
 (∀H',ak H H'->(∀k∈ks,2*f k<=B)->Q .cF H')/\(∀H' k,ak H H'->k∈ks->B<2*f k->Q (.int k) H')
theorem aai:bU ["numbers","bound","kind","number"] ["numbers","bound"] (az wD):=⟨rfl,rfl,rfl,by decide +kernel,rfl,by decide +kernel,by decide +kernel⟩
theorem ai4(T:Txt K mg Z):bD P w K mg base bK 1 Z.Uy Z.S7 ["numbers","bound"] axw:=by
 refine T.yy.fn.ok aai (fun vs H Q E h=>?_) (fun bg A outer s H vs Q E hr h=>?_)
 ·obtain⟨d,ks,f,B,rfl,_⟩:=h
  rfl
 ·obtain⟨d,ks,f,B,rfl,hd,hl,k1,k2⟩:=h
  refine⟨_,(aH (auF (iF iy rfl (Cq (sJ uB A9 Dy Ci (pv 0))) (yN (n:=2) rfl (i8 (cK (i:=2) aai.nd rfl (aT rfl)) (i8 (cK (i:=3) aai.nd rfl (aT rfl)) qy))) (aJ (bY (cG mD (bM oH aD (pv 3)) (pv 1) (bI _)) (aJ (aY (pv 2))) b8))))
   (aJ (aY ZN))),?_⟩
  refine⟨d,_,hd,_,rfl,xg hd,d,_,rfl,rfl,hd,fun v hv=>?_⟩
  have j9:d≠v:=bf hd hv
  refine⟨v,d,_,rfl,au,by rw[aA j9];exact hd,fun o=>?_⟩
  have sv:ak H (upd H v (jY "dict_items" v d)):=(ak.refl H).upd hv
  refine agz (d:=d) (o:=o) (kvs:=kvs (iW ks f)) (fun i σ H3=>(∃v3 v4:Option V,σ=[some (.ref d),some (.int B),v3,v4])/\ak (upd (upd H v (jY "dict_items" v d)) d (.cC o (.dK (kvs (iW ks f))))) H3/\∀x∈ks.take i,2*f x<=B)
   ⟨⟨none,none,rfl⟩,ak.refl _,fun p hp=>by simp at hp⟩ (fun i σ H3 _ p=>p.2.1 d _ au) (fun i q σ H3 t hq hP ht=>?_) (fun σ H3 hP=>?_)
  ·obtain⟨⟨v3,v4,rfl⟩,s3,cR⟩:=hP
   unfold kvs iW at hq
   rw[dG,dG]at hq
   cases hq2:ks[i]? with
   |none=>rw[hq2]at hq;cases hq
   |some x=>
    rw[hq2]at hq
    cases(cY hq:(cN x,V.int (f x))=q)
    have s4:=s3.upd (o:=.tup [.int x,.int (f x)]) (s3.free ht)
    refine⟨t,_,rfl,.of au,rfl,_,_,rfl,_,_,rfl,rfl,?_⟩
    refine⟨_,rfl,_,_,rfl,rfl,.inl ⟨by decide,by decide⟩,_,rfl,_,_,rfl,rfl,_,rfl,?_⟩
    refine dj (fun hc=>?_) (fun hc=>?_)
    ·have d8:B<2*f x:=of_decide_eq_true hc
     refine⟨_,rfl,o,_,s4 d _ au,?_⟩
     exact k2 _ x (fun b u e=>ak.AC (by rw[aA j9];exact hd) s4 b u (sv b u e)) (eB hq2) d8
    ·refine⟨⟨_,_,rfl⟩,s4,fun y hy=>?_⟩
     rw[jW,hq2]at hy
     rcases lQ.mp hy with z | z
     ·exact cR y z
     ·have:y=x:=by simpa using z
      rw[this]
      rcases Int.lt_or_le B (2*f x)with w' | w'
      ·exact absurd (decide_eq_true w') hc
      ·exact w'
  ·obtain⟨⟨v3,v4,rfl⟩,s3,cR⟩:=hP
   rw[Fy,anU,mS]at cR
   exact⟨o,_,s3 d _ au,k1 _ (fun b u e=>ak.AC (by rw[aA j9];exact hd) s3 b u (sv b u e)) cR⟩
noncomputable def akO(B:List Int->Int):Sp:=fun vs H Q _=>∃(a d:aa) (ns:List Int),vs=[.ref a,.ref d]/\H a=some (.lst (ns.map V.int))/\H d=some (.dK (kvs (bh ns)))/\ns.length<=63/\
 (∀H',ak H H'->(∀k,2*(ns.count k:Int)<=B ns)->Q .cF H')/\(∀H' k,ak H H'->k∈ns->B ns<2*(ns.count k:Int)->Q (.int k) H')
theorem adZ{ns:List Int}{B:Int}(h0:0<=B)(h:∀k∈(bh ns).map (·.1),2*(ns.count k:Int)<=B)(k:Int):2*(ns.count k:Int)<=B:=by
 by_cases hk:k∈ns
 ·exact h k (gZ.mpr hk)
 ·rw[pW hk]
  omega
noncomputable def anq(ns:List Int):Int:=(ns.length:Int)+1
noncomputable def anp(ns:List Int):Int:=(ns.length:Int)
theorem avx:bU ["heap","numbers"] ["heap","numbers"] (az wC):=⟨rfl,rfl,rfl,by decide +kernel,rfl,by decide +kernel,by decide +kernel⟩
theorem atM(T:Txt K mg Z):bD P w K mg base bK 2 Z.Ux Z.S6 ["heap","numbers"] (akO anq):=by
 have NI:=ai4 (P:=P) (w:=w) (base:=base) T
 refine T.Fk.fn.ok avx (fun vs H Q E h=>?_) (fun bg A outer s H vs Q E hr h=>?_)
 ·obtain⟨a,d,ns,rfl,_⟩:=h
  rfl
 ·obtain⟨a,d,ns,rfl,ha,hd,hl,k1,k2⟩:=h
  have m7:=nD ns
  refine⟨_,(aJ (aY (aP NI (hr.mono (by decide)) rfl T.yy.mg T.yy.fn.kp T.yy.bd .nil aG (aj (pv 1) (aj (bM g9 (bB dI rfl T.cW dh (aj (pv 0) aq)) aD) aq))))),?_⟩
  refine⟨_,rfl,_,rfl,a,_,rfl,.inl (.of ha),_,_,rfl,rfl,d,(bh ns).map (·.1),fun k=>(ns.count k:Int),_,rfl,by rw[<- CL];exact hd,by rw[aC];omega,fun H' s1 cR=>?_,fun H' x s1 hx uU=>?_⟩
  ·rw[aC]at cR
   exact k1 H' s1 fun x=>adZ (by omega) cR x
  ·rw[aC]at uU
   exact k2 H' x s1 (gZ.mp hx) uU
theorem avw:bU ["heap","numbers"] ["heap","numbers"] (az wB):=⟨rfl,rfl,rfl,by decide +kernel,rfl,by decide +kernel,by decide +kernel⟩
theorem atL(T:Txt K mg Z):bD P w K mg base bK 2 Z.Uw Z.S5 ["heap","numbers"] (akO anp):=by
 have NI:=ai4 (P:=P) (w:=w) (base:=base) T
 refine T.Fj.fn.ok avw (fun vs H Q E h=>?_) (fun bg A outer s H vs Q E hr h=>?_)
 ·obtain⟨a,d,ns,rfl,_⟩:=h
  rfl
 ·obtain⟨a,d,ns,rfl,ha,hd,hl,k1,k2⟩:=h
  have m7:=nD ns
  refine⟨_,(aJ (aY (aP NI (hr.mono (by decide)) rfl T.yy.mg T.yy.fn.kp T.yy.bd .nil aG (aj (pv 1) (aj (bB dI rfl T.cW dh (aj (pv 0) aq)) aq))))),?_⟩
  refine⟨_,rfl,_,rfl,a,_,rfl,.inl (.of ha),d,(bh ns).map (·.1),fun k=>(ns.count k:Int),_,rfl,by rw[<- CL];exact hd,by rw[aC];omega,fun H' s1 cR=>?_,fun H' x s1 hx uU=>?_⟩
  ·rw[aC]at cR
   exact k1 H' s1 fun x=>adZ (by omega) cR x
  ·rw[aC]at uU
   exact k2 H' x s1 (gZ.mp hx) uU
structure abB(ns ks:List Int):Prop where
 pm:ks.Perm ns
 row:(∀k,2*(ns.count k:Int)<=(ns.length:Int)+1)->fO ks=true
 ring:(∀k,2*(ns.count k:Int)<=(ns.length:Int))->2<=ns.length->fO ks=true/\ks.getD (ks.length-1) 0≠ks.getD 0 0
theorem aln{ks:List Int}(h:∀i x,ks[i]?=some x->ks[i+1]?=some x->False):fO ks=true:=by
 refine xj.mpr fun i hi e=>?_
 have h1:=getD_some (l:=ks) (i:=i) (d:=0) (by omega)
 have h2:=getD_some (l:=ks) (i:=i+1) (d:=0) hi
 rw[<- e]at h2
 exact h i _ h1 h2
theorem auc{ns ts:List Int}(hp:ts.Perm ((bh ns).map (·.1)))(hs:ts.Pairwise (fun a b=>-(ns.count a:Int)*1000+a<=-(ns.count b:Int)*1000+b))(hb:∀n∈ns,0<=n/\n<=999) :
  (cO ts fun k=>ns.count k).Perm ns/\abB ns (iU ((cO ts fun k=>ns.count k).take (((cO ts fun k=>ns.count k).length+1)/2)) ((cO ts fun k=>ns.count k).drop (((cO ts fun k=>ns.count k).length+1)/2))):=by
 have BJ:ts.Nodup:=hp.nodup_iff.mpr (ok ns).nd
 have VQ:∀x,x∈ts↔x∈ns:=fun x=>by rw[hp.mem_iff];exact gZ
 have qd:=aiz BJ VQ
 have yp:∀k∈ts,ns.count k<=ns.count (ts.headD 0):=fun k hk=>by
  cases ts with
  |nil=>cases hk
  |cons t ts=>
   rcases dY.mp hk with z | z
   ·rw[z];exact br _
   ·have h1:=(N7.mp hs).1 k z
    have h2:=hb k ((VQ k).mp hk)
    have h3:=hb t ((VQ t).mp (by simp))
    show ns.count k<=ns.count t
    omega
 have O:=aqu BJ yp
 have sq:(cO ts fun k=>ns.count k).length=ns.length:=qd.length_eq
 obtain⟨g1,g2,g3⟩:=ay1 O rfl
 have hM:∀B:Int,(∀k,2*(ns.count k:Int)<=B)->2*((ns.count (ts.headD 0):Nat):Int)<=B:=fun B h=>h _
 refine⟨qd,⟨g1.trans qd,fun h=>aln (g2 (by have:=hM _ h;omega)),fun h h2=>⟨aln (g2 (by have:=hM _ h;omega)),fun e=>?_⟩⟩⟩
 have g3':=g3 (by have:=hM _ h;omega) (by omega)
 have hl:=g1.length_eq
 generalize iU ((cO ts fun k=>ns.count k).take (((cO ts fun k=>ns.count k).length+1)/2)) ((cO ts fun k=>ns.count k).drop (((cO ts fun k=>ns.count k).length+1)/2))=ks at *
 have h3:=getD_some (l:=ks) (i:=0) (d:=0) (by omega)
 have h4:=getD_some (l:=ks) (i:=ks.length-1) (d:=0) (by omega)
 rw[e]at h4
 rw[<- hl]at g3'
 exact g3' _ h3 h4
noncomputable def axN(TB:aa):Sp:=fun vs H Q _=>∃(d:aa) (ns:List Int),vs=[.ref d]/\H d=some (.dK (kvs (bh ns)))/\ns.length<=63/\(∀n∈ns,0<=n/\n<=999)/\nR TB H/\
 ∀(l:aa) (ks:List Int) (H':Hp),ak H H'->H l=none->abB ns ks->H' l=some (.lst (ks.map V.int))->Q (.ref l) H'
theorem aao:bU ["numbers","things","half"] ["numbers"] (az wV):=⟨rfl,rfl,rfl,by decide +kernel,rfl,by decide +kernel,by decide +kernel⟩
theorem ai8(T:Txt K mg Z):bD P w K mg base bK 4 Z.UP Z.Tt ["numbers"] (axN Z.qO):=by
 have NH:=Mm (P:=P) (w:=w) (base:=base) T
 have NJ:=ai5 (P:=P) (w:=w) (base:=base) T
 have al9:=atD (P:=P) (w:=w) (base:=base) T
 refine T.yV.fn.ok aao (fun vs H Q E h=>?_) (fun bg A outer s H vs Q E hr h=>?_)
 ·obtain⟨d,ns,rfl,_⟩:=h
  rfl
 ·obtain⟨d,ns,rfl,hd,hl,hb,hP,k⟩:=h
  have m7:=nD ns
  have pC:H d=some (.dK (kvs (iW ((bh ns).map (·.1)) fun k=>(ns.count k:Int)))):=by rw[<- CL];exact hd
  refine⟨_,(aH (bR (i:=1) aao.nd rfl (aT rfl) (aP NJ (hr.mono (by decide)) rfl T.yz.mg T.yz.fn.kp T.yz.bd .nil aG (aj (pv 0) (aj (aP NH (hr.mono (by decide)) rfl T.xY.mg T.xY.fn.kp T.xY.bd .nil aG (aj (pv 0) aq)) aq))))
   (aH (bR (i:=2) aao.nd rfl (aT rfl) (bM Cp (bM g9 (bB dI rfl T.cW dh (aj (pv 1) aq)) aD) aD))
   (aJ (aY (aP al9 (hr.mono (by decide)) rfl T.E6.mg T.E6.fn.kp T.E6.bd .nil aG (aj (sN tL (pv 1) vA (qz (pv 2))) (aj (sN tL (pv 1) (qz (pv 2)) vA) aq))))))),?_⟩
  refine⟨_,rfl,_,rfl,d,_,_,rfl,pC,by rw[aC];omega,fun x hx=>hb x (gZ.mp hx),hP,fun l ts H1 s1 bS hp hs h1=>?_⟩
  obtain⟨qd,GR⟩:=auc hp hs hb
  have z7:(cO ts fun k=>((ns.count k:Int)).toNat)=cO ts fun k=>ns.count k:=by
   unfold cO
   simp
  have bC:=qd.length_eq
  have Vl:∀x∈ts,(0:Int)<=(ns.count x:Int)/\(ns.count x:Int)<=1000:=fun x _=>by
   have:=A2 (a:=x) (l:=ns)
   omega
  refine⟨d,l,_,ts,_,rfl,s1 d _ pC,h1,fun x hx=>hp.mem_iff.mp hx,Vl,by rw[z7];omega,fun t H2 s2 pG h2=>?_⟩
  rw[z7]at h2
  refine⟨_,rfl,t,_,rfl,.inl (.of h2),_,_,rfl,rfl,_,_,rfl,rfl,⟨by decide,by decide⟩,?_⟩
  have eh:((((cO ts fun k=>ns.count k).map V.int).length:Int)+1)/2=((((cO ts fun k=>ns.count k).length+1)/2:Nat):Int):=by rw[aC];omega
  show Bs 2 (V.int (((((cO ts fun k=>ns.count k).map V.int).length:Int)+1)/2)) _ H2 _
  rw[eh]
  generalize cO ts (fun k=>ns.count k)=TH at *
  have dX:=s1.trans s2
  refine⟨_,rfl,_,rfl,_,rfl,t,_,rfl,.of h2,fun p kO=>?_⟩
  rw[DZ]
  have s3:=dX.upd (o:=.lst ((TH.take ((TH.length+1)/2)).map V.int)) (dX.free kO)
  have Co:t≠p:=bf h2 kO
  have h3:(upd H2 p (.lst ((TH.take ((TH.length+1)/2)).map V.int))) t=some (.lst (TH.map V.int)):=by rw[aA Co];exact h2
  have UZ:(upd H2 p (.lst ((TH.take ((TH.length+1)/2)).map V.int))) p=some (.lst ((TH.take ((TH.length+1)/2)).map V.int)):=au
  generalize upd H2 p (.lst ((TH.take ((TH.length+1)/2)).map V.int))=H3 at s3 h3 UZ
  refine⟨_,rfl,_,rfl,_,rfl,t,_,rfl,.of h3,fun q m9=>?_⟩
  rw[Jd]
  have s4:=s3.upd (o:=.lst ((TH.drop ((TH.length+1)/2)).map V.int)) (s3.free m9)
  have npq:p≠q:=bf UZ m9
  have c1:(TH.drop ((TH.length+1)/2)).length<=(TH.take ((TH.length+1)/2)).length:=by rw[jV,jr];omega
  have c2:(TH.take ((TH.length+1)/2)).length<=(TH.drop ((TH.length+1)/2)).length+1:=by rw[jV,jr];omega
  refine⟨p,q,_,_,rfl,by rw[aA npq];exact UZ,au,by rw[jr];omega,by rw[jV];omega,fun r H5 s5 su h5=>?_⟩
  rw[alj _ _ c1 c2]at h5
  exact k r _ H5 (s4.trans s5) (s4.free su) GR h5
theorem aan:bU ["heap","numbers","much"] ["heap"] (az wU):=⟨rfl,rfl,rfl,by decide +kernel,rfl,by decide +kernel,by decide +kernel⟩
theorem at6(T:Txt K mg Z):bD P w K mg base bK 5 Z.UO Z.Tr ["heap"] (axM Z.gK Z.fH Z.qO):=by
 have uf:=FZ (P:=P) (w:=w) (base:=base) T
 have jF:=vp (P:=P) (w:=w) (base:=base) T
 have amh:=atM (P:=P) (w:=w) (base:=base) T
 have ue:=Mj (P:=P) (w:=w) (base:=base) T
 have NN:=ai8 (P:=P) (w:=w) (base:=base) T
 have AQ:=ZF (P:=P) (w:=w) (base:=base) T
 refine T.unlike.fn.ok aan (fun vs H Q E h=>?_) (fun bg A outer s H vs Q E hr h=>?_)
 ·obtain⟨a,ns,rfl,_⟩:=h
  rfl
 ·obtain⟨a,ns,rfl,ha,hl,hb,hP,k⟩:=h
  refine⟨_,(aH (fX (aP uf (hr.mono (by decide)) rfl T.kH.mg T.kH.fn.kp T.kH.bd .nil aG (aj (pv 0) aq)))
   (aH (bR (i:=1) aan.nd rfl (aT rfl) (aP jF (hr.mono (by decide)) rfl T.eV.mg T.eV.fn.kp T.eV.bd .nil aG (aj (pv 0) aq)))
   (aH (bR (i:=2) aan.nd rfl (aT rfl) (aP amh (hr.mono (by decide)) rfl T.Fk.mg T.Fk.fn.kp T.Fk.bd .nil aG (aj (pv 0) (aj (pv 1) aq))))
   (aH (bY (cG ajb (pv 2) ZN (bI _)) (aJ (aY (iO T.Af ue (hr.mono (by decide)) rfl T.Ak T.xF.bd .nil aG (aj (pv 2) aq)))) b8)
   (aJ (aY (iO T.E5 AQ (hr.mono (by decide)) rfl T.Cf T.Ba.bd .nil aG (aj (aP NN (hr.mono (by decide)) rfl T.yV.mg T.yV.fn.kp T.yV.bd .nil aG (aj (pv 1) aq)) aq)))))))),?_⟩
  refine⟨_,rfl,a,ns,rfl,ha,by omega,hb,fun H1 s1=>?_⟩
  refine⟨_,rfl,a,ns,rfl,.of (s1 a _ ha),by omega,fun d H2 hd s2 h2=>?_⟩
  have dX:=s1.trans s2
  refine⟨_,rfl,_,rfl,a,d,ns,rfl,dX a _ ha,h2,hl,fun H3 s3 cR=>?_,fun H3 x s3 hx uU=>?_⟩
  ·have dJ:=dX.trans s3
   refine⟨_,rfl,rfl,_,rfl,bH ?_⟩
   refine⟨_,rfl,d,ns,rfl,s3 d _ h2,hl,hb,hP.same dJ,fun l ks H4 s4 bS GR h4=>?_⟩
   have eN:=dJ.trans s4
   intro x dx hx dW yI
   refine⟨x,dx,l,ks,rfl,au,iD hx dW h4,by rw[GR.pm.length_eq];omega,fun l2 H5 hk cE kd=>⟨rfl,?_⟩⟩
   exact k x H5 (iN eN hx dW hk) (eN.free hx) (.inl ⟨l2,ks,nk eN cE,kd,GR.pm,GR.row cR⟩)
  ·have dJ:=dX.trans s3
   refine⟨_,rfl,rfl,_,rfl,cJ ?_⟩
   refine⟨_,rfl,?_⟩
   intro y dx hy dW nyd
   refine⟨y,dx,x,rfl,au,fun H5 hk md=>⟨rfl,?_⟩⟩
   exact k y H5 (iN dJ hy dW hk) (dJ.free hy) (.inr ⟨x,md,uU⟩)
noncomputable def Lw:aZ->Option Int
 | .Constant (.int i) _ _=>some i
 |_=>none
noncomputable def E7:List aZ->Option (List Int)
 | []=>some []
 |e::r=>(Lw e).bind fun i=>(E7 r).map fun l=>i::l
theorem ap5{e:aZ}{i:Int}(h:Lw e=some i):∃j p,e=.Constant (.int i) j p:=by
 cases e
 case Constant c j p=>
  cases c
  case int k=>
   cases(cY h:k=i)
   exact⟨_,_,rfl⟩
  all_goals exact absurd h.symm (amT i)
 all_goals exact absurd h.symm (amT i)
unseal jt PS PE PT PW PA PG rK PI rL PC in
theorem ajc{X:Cx}:∀ {es:List aZ} {ns:List Int},E7 es=some ns->PA X es (fun _ H Q=>Q (ns.map V.int) H)
 | [],ns,h=>by
  cases(cY h:[]=ns)
  exact aq
 |e::r,ns,h=>by
  have h':((Lw e).bind fun i=>(E7 r).map fun l=>i::l)=some ns:=h
  cases q1:Lw e with
  |none=>rw[q1]at h';cases h'
  |some i=>
   rw[q1]at h'
   cases q:E7 r with
   |none=>rw[q]at h';cases h'
   |some l=>
    rw[q]at h'
    cases(cY h':i::l=ns)
    obtain⟨j,p,rfl⟩:=ap5 q1
    exact aj aD (ajc q)
noncomputable def ayc(es:List aZ):TA:=fun _ H Q=>∃ns:List Int,E7 es=some ns/\Q (ns.map V.int) H
unseal jt PS PE PT PW PA PG rK PI rL PC in
theorem aue{X:Cx}{es:List aZ}:PA X es (ayc es):=fun pos ah s σ H Q I h=>by
 obtain⟨ns,e,q⟩:=h
 exact ajc e pos ah s σ H Q I q
noncomputable def awX(K:bG):Sp:=fun vs H Q _=>∃(a:aa) (ns:List Int) (k:Int),vs=[.ref a,.int k]/\dO K H a (ns.map V.int)/\0<=k/\∀r:Int,Q (.int r) H
theorem avh:bU ["_law_script","_law_k"] ["_law_script","_law_k"] (az vU):=⟨rfl,rfl,rfl,by decide +kernel,rfl,by decide +kernel,by decide +kernel⟩
theorem ai0(T:Txt K mg Z):bD P w K mg base bK 1 Z.TW Z.Sk ["_law_script","_law_k"] (awX K):=by
 refine T.mU.fn.ok avh (fun vs H Q E h=>?_) (fun bg A outer s H vs Q E hr h=>?_)
 ·obtain⟨a,ns,k,rfl,_⟩:=h
  rfl
 ·obtain⟨a,ns,k,rfl,ha,h0,q⟩:=h
  refine⟨_,(aH (bY (cG oG (pv 1) (bB dI rfl T.cW dh (aj (pv 0) aq)) (bI _)) (aJ (aY (cX eZ (pv 0) (pv 1) (fun _ _=>rfl)))) b8)
   (aJ (aY aD))),?_⟩
  refine⟨_,rfl,_,rfl,a,_,rfl,.inl ha,_,_,rfl,rfl,_,rfl,?_⟩
  refine dj (fun h1=>?_) (fun h1=>?_)
  ·have pe:k<((ns.map V.int).length:Int):=of_decide_eq_true h1
   rw[aC]at pe
   have hk:k.toNat<ns.length:=by omega
   have e:((k.toNat:Nat):Int)=k:=C9 h0
   refine⟨_,rfl,_,rfl,a,_,k,.int ns[k.toNat],rfl,rfl,ha,?_,q _⟩
   have q1:(ns.map V.int)[k.toNat]?=some (.int ns[k.toNat]):=by rw[dG,bZ hk];rfl
   have q2:=iV q1
   rw[e]at q2
   exact q2
  ·exact q 0
noncomputable def awY:Sp:=fun vs H Q _=>∃c k m:Int,vs=[.int c,.int k,.int m]/\0<m/\∀r H',0<=r->r<m->ak H H'->Q (.int r) H'
theorem ank{xs:List V}{n:Nat}(hl:xs.length=n)(hp:∀x∈xs,∃p:Int,x=.int p/\0<p){i:Int}(h0:0<=i)(h1:i<n):∃p:Int,j0 xs i=some (.int p)/\0<p:=by
 have hj:i.toNat<xs.length:=by omega
 have e:((i.toNat:Nat):Int)=i:=C9 h0
 obtain⟨p,hx,h2⟩:=hp _ (A5 hj)
 refine⟨p,?_,h2⟩
 rw[<- e,<- hx]
 exact iV (bZ hj)
theorem akE:bU ["_law_cell","_law_k","_law_many_here","_law_primes"] ["_law_cell","_law_k","_law_many_here"] (az vV):=⟨rfl,rfl,rfl,by decide +kernel,rfl,by decide +kernel,by decide +kernel⟩
theorem FW(T:Txt K mg Z):bD P w K mg base bK 1 Z.TX Z.Sl ["_law_cell","_law_k","_law_many_here"] awY:=by
 refine T.dH.fn.ok akE (fun vs H Q E h=>?_) (fun bg A outer s H vs Q E hr h=>?_)
 ·obtain⟨c,k,m,rfl,_⟩:=h
  rfl
 ·obtain⟨c,k,m,rfl,hm,q⟩:=h
  refine⟨_,(aH (bR (i:=3) akE.nd rfl (aT rfl) (i6 aue))
   (aJ (aY (bM qw (bM qw (bM g9 (bM oH (pv 0) aD) (bM oH (pv 1) aD)) (cX ou (pv 3) (bM qw (pv 1) aD) (fun _ _=>rfl))) (pv 2))))),?_⟩
  refine⟨[1000003,1000033,1000037,1000039,1000081,1000099,1000117,1000121,1000133,1000151,1000159,1000171,1000183,1000187,1000193,1000199],by decide +kernel,by show 16<=aX;decide,fun t ht=>?_⟩
  obtain⟨p,hp,p0⟩:=ank (xs:=([1000003,1000033,1000037,1000039,1000081,1000099,1000117,1000121,1000133,1000151,1000159,1000171,1000183,1000187,1000193,1000199]:List Int).map V.int) (n:=16) rfl
   (by
    intro x hx
    obtain⟨p,hp,rfl⟩:=oO.mp hx
    refine⟨p,rfl,?_⟩
    have all:∀p∈([1000003,1000033,1000037,1000039,1000081,1000099,1000117,1000121,1000133,1000151,1000159,1000171,1000183,1000187,1000193,1000199]:List Int),0<p:=by decide
    exact all p hp)
   (Io k (by decide:(16:Int)≠0)) (Im k (by decide:(0:Int)<16))
  refine⟨_,rfl,_,_,rfl,rfl,.inr ⟨by decide,by decide⟩,_,rfl,_,_,rfl,rfl,.inr ⟨by decide,by decide⟩,_,_,rfl,rfl,?_⟩
  refine⟨_,rfl,_,rfl,_,_,rfl,rfl,(by show(0:Int)<16;decide),t,_,_,_,rfl,rfl,.of au,hp,_,_,rfl,rfl,p0,_,rfl,_,_,rfl,rfl,hm,?_⟩
  exact q _ _ (Io _ (by omega)) (Im _ hm) ((ak.refl H).upd ht)
noncomputable def aw3(K:bG):Sp:=fun vs H Q _=>∃(a:aa) (ns:List Int),vs=[.ref a]/\dO K H a (ns.map V.int)/\ns.length<=63/\
 ∀(l:aa) (ms:List Int) (H':Hp),ms.length=ns.length->(∀n∈ms,0<=n/\n<=999)->ak H H'->H l=none->H' l=some (.lst (ms.map V.int))->Q (.ref l) H'
theorem wY:bU ["_law_script","_law_few","_law_lean","_law_heap_here","_law_k","_law_kind"] ["_law_script"] (az vY):=⟨rfl,rfl,rfl,by decide +kernel,rfl,by decide +kernel,by decide +kernel⟩
theorem atp(T:Txt K mg Z):bD P w K mg base bK 2 Z.T8 Z.Su ["_law_script"] (aw3 K):=by
 have C3:=ai0 (P:=P) (w:=w) (base:=base) T
 have jU:=FW (P:=P) (w:=w) (base:=base) T
 refine T.DH.fn.ok wY (fun vs H Q E h=>?_) (fun bg A outer s H vs Q E hr h=>?_)
 ·obtain⟨a,ns,rfl,_⟩:=h
  rfl
 ·obtain⟨a,ns,rfl,ha,hl,k⟩:=h
  refine⟨_,(aH (bR (i:=1) wY.nd rfl (aT rfl) (cX ou (i6 (aj aD (aj aD (aj aD (aj aD aq))))) (aP jU (hr.mono (by decide)) rfl T.dH.mg T.dH.fn.kp T.dH.bd .nil aG (aj (aP C3 (hr.mono (by decide)) rfl T.mU.mg T.mU.fn.kp T.mU.bd .nil aG (aj (pv 0) (aj aD aq))) (aj aD (aj aD aq)))) (fun _ _=>rfl)))
   (aH (bR (i:=2) wY.nd rfl (aT rfl) (aP jU (hr.mono (by decide)) rfl T.dH.mg T.dH.fn.kp T.dH.bd .nil aG (aj (aP C3 (hr.mono (by decide)) rfl T.mU.mg T.mU.fn.kp T.mU.bd .nil aG (aj (pv 0) (aj aD aq))) (aj aD (aj aD aq)))))
   (aH (bR (i:=3) wY.nd rfl (aT rfl) (dD aq))
   (aH (iF iy rfl (Cr rfl T.xS (aj (bB dI rfl T.cW dh (aj (pv 0) aq)) aq)) (cK (i:=4) wY.nd rfl (aT rfl)) (aH (bR (i:=5) wY.nd rfl (aT rfl) (bM g9 (bM qw (bM oH (aP jU (hr.mono (by decide)) rfl T.dH.mg T.dH.fn.kp T.dH.bd .nil aG (aj (cX eZ (pv 0) (pv 4) (fun _ _=>rfl)) (aj (bM g9 (bM qw (pv 4) aD) aD) (aj (pv 1) aq)))) aD) aD) (cX ou (i6 (aj aD (aj aD aq))) (bM qw (pv 4) aD) (fun _ _=>rfl))))
   (aH (bY (PW.pt (qA (cG oG (pv 2) aD (bI _)) (vC (cG oG (aP jU (hr.mono (by decide)) rfl T.dH.mg T.dH.fn.kp T.dH.bd .nil aG (aj (cX eZ (pv 0) (pv 4) (fun _ _=>rfl)) (aj (bM g9 (bM qw (pv 4) aD) aD) (aj aD aq)))) (bM mF (bM oH aD (pv 2)) aD) (bI _))))) (aJ (bR (i:=5) wY.nd rfl (aT rfl) aD)) b8)
   (aH (bY (PW.pt (qA (cG Mq (pv 2) (i6 (aj aD (aj aD aq))) rfl) (vC (cG mD (aP jU (hr.mono (by decide)) rfl T.dH.mg T.dH.fn.kp T.dH.bd .nil aG (aj (cX eZ (pv 0) (pv 4) (fun _ _=>rfl)) (aj (bM g9 (bM qw (pv 4) aD) aD) (aj aD aq)))) aD (bI _))))) (aJ (bR (i:=5) wY.nd rfl (aT rfl) (bM mF aD (bM qw (bM qw (pv 4) (bM g9 (pv 1) aD)) aD)))) b8)
   (aH (bY (PW.pt (qA (cG mD (pv 2) aD (bI _)) (vC (cG gv (bM qw (pv 4) aD) aD (bI _))))) (aJ (bR (i:=5) wY.nd rfl (aT rfl) aD)) b8)
   (aJ (fX (ie gT pZ PySem.F.type_list_append oA (pv 3) (aj (pv 5) aq)))))))))
   (aJ (aY (pv 3))))))),?_⟩
  refine⟨by show 4<=aX;decide,fun t ht=>?_⟩
  have s1:ak H (upd H t (.tup [.int 2,.int 3,.int 7,.int 60])):=(ak.refl H).upd ht
  refine⟨_,rfl,a,ns,0,rfl,s1.seq ha,mR _,fun c0=>⟨c0,6,4,rfl,by decide,fun r H2 r0 r1 s2=>?_⟩⟩
  obtain⟨few,Vz,eG⟩:=O4 (xs:=[2,3,7,60]) r0 r1
  have f0:0<few:=by
   simp only[dY,zm,or_false]at Vz
   omega
  refine⟨t,[.int 2,.int 3,.int 7,.int 60],r,.int few,rfl,rfl,.of (s2 t _ au),eG,?_⟩
  have dX:ak H H2:=s1.trans s2
  refine⟨_,rfl,a,ns,1,rfl,dX.seq ha,by decide,fun c1=>⟨c1,7,9,rfl,by decide,fun Fw H3 l0 l1 s3=>?_⟩⟩
  have dJ:ak H H3:=dX.trans s3
  refine⟨fz _,fun l bS=>?_⟩
  have BG:H l=none:=dJ.free bS
  have eN:ak H (upd H3 l (.lst [])):=dJ.upd BG
  have anX:(((ns.map V.int).length:Int)).toNat=ns.length:=by rw[aC];omega
  refine⟨_,rfl,a,_,rfl,.inl (eN.seq ha),_,rfl,by rw[aC];omega,by rw[aC];omega,?_⟩
  rw[anX]
  refine En (lo:=0) (n:=ns.length) (fun i σ H4=>∃(v4 v5:Option V) (ms:List Int),σ=[some (.ref a),some (.int few),some (.int Fw),some (.ref l),v4,v5]/\ms.length=i/\(∀n∈ms,0<=n/\n<=999)/\ak H H4/\H4 l=some (.lst (ms.map V.int)))
   ⟨none,none,[],rfl,rfl,(fun _ h=>nomatch h),eN,au⟩ (fun i σ H4 hi hP=>?_) (fun σ H4 hP=>?_)
  ·obtain⟨v4,v5,ms,rfl,VR,VP,s4,h4⟩:=hP
   have K9:(0:Int)<=0+(i:Int):=by omega
   have Vg:j0 (ns.map V.int) (0+(i:Int))=some (.int ns[i]):=by
    have q1:(ns.map V.int)[i]?=some (.int ns[i]):=by rw[dG,bZ hi];rfl
    have q2:=iV q1
    rw[Int.zero_add]
    exact q2
   have m2:=Io (0+(i:Int)) (by decide:(2:Int)≠0)
   have m2':=Im (0+(i:Int)) (by decide:(0:Int)<2)
   refine gR (fun σ' H'=>∃z:Int,σ'=[some (.ref a),some (.int few),some (.int Fw),some (.ref l),some (.int (0+(i:Int))),some (.int z)]/\0<=z/\z<=999/\ak H H'/\H' l=some (.lst (ms.map V.int))) (fun k hk=>?_) (fun σ' H' hz=>?_)
   ·refine⟨_,rfl,_,rfl,a,_,_,_,rfl,rfl,s4.seq ha,Vg,_,rfl,_,_,rfl,rfl,(by show(0:Int)<5;decide),_,_,rfl,rfl,_,rfl,_,_,few,rfl,f0,fun r H5 r0 r1 s5=>?_⟩
    refine⟨_,_,rfl,rfl,.inr ⟨by decide,by decide⟩,_,_,rfl,rfl,(by show(0:Int)<99;decide),?_⟩
    refine⟨by show 2<=aX;decide,fun t ht=>?_⟩
    obtain⟨p,hp,eG⟩:=O4 (xs:=[900,3]) m2 m2'
    refine⟨_,rfl,_,_,rfl,rfl,(by show(0:Int)<2;decide),t,[.int 900,.int 3],_,.int p,rfl,rfl,.of au,eG,_,_,rfl,rfl,hk _ _ ⟨_,rfl,?_,?_,?_,?_⟩⟩
    ·have:=Io (r*7) (by decide:(99:Int)≠0)
     simp only[dY,zm,or_false]at hp
     omega
    ·have:=Im (r*7) (by decide:(0:Int)<99)
     simp only[dY,zm,or_false]at hp
     omega
    ·exact(s4.trans s5).upd ((s4.trans s5).free ht)
    ·have e5:=s5 l _ h4
     rw[aA (bf e5 ht)]
     exact e5
   obtain⟨z,rfl,z0,z1,s5,h5⟩:=hz
   refine gR (fun σ' H'=>∃z:Int,σ'=[some (.ref a),some (.int few),some (.int Fw),some (.ref l),some (.int (0+(i:Int))),some (.int z)]/\0<=z/\z<=999/\ak H H'/\H' l=some (.lst (ms.map V.int))) (fun k hk=>?_) (fun σ' H' hz=>?_)
   ·refine⟨_,rfl,_,_,rfl,rfl,_,rfl,dj (fun _=>?_) (fun _=>?_)⟩
    ·refine⟨_,rfl,_,rfl,a,_,_,_,rfl,rfl,s5.seq ha,Vg,_,rfl,_,_,rfl,rfl,(by show(0:Int)<7;decide),_,_,rfl,rfl,_,_,8,rfl,by decide,fun r H6 r0 r1 s6=>?_⟩
     refine⟨_,rfl,_,_,rfl,rfl,.inl ⟨by decide,by decide⟩,_,_,rfl,rfl,_,_,rfl,rfl,_,rfl,dj (fun _=>?_) (fun _=>?_)⟩
     ·exact hk _ _ ⟨5,rfl,by decide,by decide,s5.trans s6,s6 l _ h5⟩
     ·exact hk _ _ ⟨z,rfl,z0,z1,s5.trans s6,s6 l _ h5⟩
    ·exact bH (hk _ _ ⟨z,rfl,z0,z1,s5,h5⟩)
   obtain⟨z,rfl,z0,z1,s5,h5⟩:=hz
   refine gR (fun σ' H'=>∃z:Int,σ'=[some (.ref a),some (.int few),some (.int Fw),some (.ref l),some (.int (0+(i:Int))),some (.int z)]/\0<=z/\z<=999/\ak H H'/\H' l=some (.lst (ms.map V.int))) (fun k hk=>?_) (fun σ' H' hz=>?_)
   ·refine⟨_,rfl,by show 2<=aX;decide,fun t ht=>?_⟩
    have pG:=s5.free ht
    have s6:=s5.upd (o:=.tup [.int 5,.int 6]) pG
    have h6:(upd H' t (.tup [.int 5,.int 6])) l=some (.lst (ms.map V.int)):=by rw[aA (bf h5 ht)];exact h5
    refine⟨t,[.int 5,.int 6],rfl,.inr (.of au),rfl,rfl,_,rfl,dj (fun _=>?_) (fun _=>?_)⟩
    ·refine⟨_,rfl,_,rfl,a,_,_,_,rfl,rfl,s6.seq ha,Vg,_,rfl,_,_,rfl,rfl,(by show(0:Int)<7;decide),_,_,rfl,rfl,_,_,9,rfl,by decide,fun r H7 r0 r1 s7=>?_⟩
     refine⟨_,_,rfl,rfl,_,rfl,dj (fun _=>?_) (fun _=>?_)⟩
     ·refine⟨_,rfl,_,rfl,_,_,rfl,rfl,_,_,rfl,rfl,(by show(0:Int)<few+1;omega),_,_,rfl,rfl,(by show(0:Int)<11;decide),_,_,rfl,rfl,hk _ _ ⟨_,rfl,?_,?_,s6.trans s7,s7 l _ h6⟩⟩
      ·have:=Im ((0+(i:Int))%(few+1)) (by decide:(0:Int)<11)
       omega
      ·have:=Io ((0+(i:Int))%(few+1)) (by decide:(11:Int)≠0)
       omega
     ·exact hk _ _ ⟨z,rfl,z0,z1,s6.trans s7,s7 l _ h6⟩
    ·exact bH (hk _ _ ⟨z,rfl,z0,z1,s6,h6⟩)
   obtain⟨z,rfl,z0,z1,s5,h5⟩:=hz
   refine gR (fun σ' H'=>∃z:Int,σ'=[some (.ref a),some (.int few),some (.int Fw),some (.ref l),some (.int (0+(i:Int))),some (.int z)]/\0<=z/\z<=999/\ak H H'/\H' l=some (.lst (ms.map V.int))) (fun k hk=>?_) (fun σ' H' hz=>?_)
   ·refine⟨_,rfl,_,_,rfl,rfl,_,rfl,dj (fun _=>?_) (fun _=>?_)⟩
    ·refine⟨_,rfl,_,_,rfl,rfl,(by show(0:Int)<2;decide),rfl,_,rfl,dj (fun _=>?_) (fun _=>?_)⟩
     ·exact hk _ _ ⟨11,rfl,by decide,by decide,s5,h5⟩
     ·exact hk _ _ ⟨z,rfl,z0,z1,s5,h5⟩
    ·exact bH (hk _ _ ⟨z,rfl,z0,z1,s5,h5⟩)
   obtain⟨z,rfl,z0,z1,s5,h5⟩:=hz
   refine⟨_,rfl,.inl ⟨rfl,_,.of h5⟩,_,rfl,l,_,_,rfl,rfl,h5,by rw[aC];exact AA (by omega),?_⟩
   refine⟨_,_,ms++[z],rfl,by rw[bW,VR];rfl,fun n hn=>?_,s5.upd BG,?_⟩
   ·rcases lQ.mp hn with q | q
    ·exact VP n q
    ·rw[gb.mp q];exact⟨z0,z1⟩
   ·rw[au,fD];rfl
  ·obtain⟨v4,v5,ms,rfl,VR,VP,s4,h4⟩:=hP
   exact⟨_,rfl,k l ms H4 VR VP s4 BG h4⟩
theorem aag:bU ["_law_heap_here","_law_found","_law_kind"] ["_law_heap_here"] (az vZ):=⟨rfl,rfl,rfl,by decide +kernel,rfl,by decide +kernel,by decide +kernel⟩
theorem ZI(T:Txt K mg Z):bD P w K mg base bK 1 Z.T9 Z.Sv ["_law_heap_here"] (akP K):=by
 refine T.mV.fn.ok aag (fun vs H Q E h=>?_) (fun bg A outer s H vs Q E hr h=>?_)
 ·obtain⟨a,ns,rfl,_⟩:=h
  rfl
 ·obtain⟨a,ns,rfl,ha,hl,k⟩:=h
  have hu:=pH hr
  refine⟨_,(aH (bR (i:=1) aag.nd rfl (aT rfl) Mt)
   (aH (iF iy rfl (gf (pv 0)) (cK (i:=2) aag.nd rfl (aT rfl)) (aJ (Gf hu (pv 1) (pv 2) (bM g9 (Ms hu (pv 1) (pv 2) aD ⟨rfl,rfl,rfl,rfl⟩) aD) rfl)))
   (aJ (aY (pv 1))))),?_⟩
  intro d hd
  have s1:ak H (upd H d (.dK [])):=(ak.refl H).upd hd
  refine⟨_,rfl,a,rfl,⟨_,s1.seq ha⟩,nX (K:=K) (a:=a) (xs:=ns.map V.int) (fun i σ H2=>∃v:Option V,σ=[some (.ref a),some (.ref d),v]/\ak H H2/\H2 d=some (.dK (kvs (bh (ns.take i)))))
   ⟨none,rfl,s1,au⟩ (fun i σ H2 _ ⟨_,_,s2,_⟩=>s2.seq ha) ?_ ?_⟩
  ·rintro i x σ H2 hx ⟨v,rfl,s2,h2⟩
   obtain⟨n,hn,rfl⟩:=j7 hx
   have uX:i<ns.length:=(iw.mp hn).1
   have ht:ns.take (i+1)=ns.take i++[n]:=by rw[jW,hn];rfl
   have bC:(kvs (bh (ns.take i))).length<sizeLine:=by
    have h1:=nD (ns.take i)
    have h2:(ns.take i).length<=ns.length:=by rw[jr];omega
    refine pQ ?_
    unfold kvs
    rw[aC]
    omega
   refine⟨_,rfl,d,rfl,.inl ⟨_,.inl h2⟩,_,rfl,_,gm.k (k:=cN n) h2,?_⟩
   have hg:(gj (kvs (bh (ns.take i))) (cN n:Key)).getD (V.int 0)=V.int ((get (bh (ns.take i)) n).getD 0):=by
    rw[oN]
    cases get (bh (ns.take i)) n<;>rfl
   rw[hg]
   refine⟨_,_,rfl,rfl,_,rfl,_,rfl,d,_,rfl,uc.k (k:=cN n) h2 bC,?_⟩
   refine⟨_,rfl,s2.upd hd,?_⟩
   rw[au,Ct,ht,alc]
   rfl
  ·rintro σ H2 ⟨v,rfl,s2,h2⟩
   rw[aC,mS]at h2
   exact⟨_,rfl,k d H2 hd s2 h2⟩
noncomputable def aw4(K:bG):Sp:=fun vs H Q _=>∃(a:aa) (ns:List Int),vs=[.ref a]/\dO K H a (ns.map V.int)/\ns.length<=900/\∀H',ak H H'->Q (.int (most ns)) H'
theorem avi:bU ["_law_heap_here"] ["_law_heap_here"] (az sV):=⟨rfl,rfl,rfl,by decide +kernel,rfl,by decide +kernel,by decide +kernel⟩
theorem atq(T:Txt K mg Z):bD P w K mg base bK 2 Z.Ua Z.Sw ["_law_heap_here"] (aw4 K):=by
 have AR:=ZI (P:=P) (w:=w) (base:=base) T
 refine T.DI.fn.ok avi (fun vs H Q E h=>?_) (fun bg A outer s H vs Q E hr h=>?_)
 ·obtain⟨a,ns,rfl,_⟩:=h
  rfl
 ·obtain⟨a,ns,rfl,ha,hl,k⟩:=h
  refine⟨_,(aJ (aY (bB (anv rfl) rfl T.IW boot_max (aj (bM yK (dD (aj aD aq)) (jz (N:=["_law_kind","_law_many_here"]) (cap:=[none,none]) rfl (iA (XN:=["_law_heap_here"]) (xs:=(az sV).names) rfl rfl (by decide +kernel)) (Cq (sJ uB A9 Dy Ci (aP AR (hr.mono (by decide)) rfl T.mV.mg T.mV.fn.kp T.mV.bd .nil aG (aj (pv 0) aq)))) (fun _ _ _=>(Mu (K:=K) (n:=2) rfl rfl (i8 (cK (i:=0) (show(["_law_kind","_law_many_here"]:List Str).Nodup by decide +kernel) rfl (aT rfl) (eF rfl)) (i8 (cK (i:=1) (show(["_law_kind","_law_many_here"]:List Str).Nodup by decide +kernel) rfl (aT rfl) (eF rfl)) qy)))) (fun _ _ _=>jO) (fun _ _ _=>(pv 1)))) aq)))),?_⟩
  refine⟨by show 1<=aX;decide,fun p hp=>?_⟩
  have s1:ak H (upd H p (.lst [.int 0])):=(ak.refl H).upd hp
  refine⟨_,rfl,a,ns,rfl,s1.seq ha,by omega,fun d H2 hd s2 h2=>⟨xg h2,d,_,rfl,rfl,h2,fun v hv=>?_⟩⟩
  have j9:d≠v:=bf h2 hv
  have mj:H2 p=some (.lst [.int 0]):=s2 p _ au
  have K2:H d=none:=s1.free hd
  refine⟨v,d,_,rfl,au,by rw[aA j9];exact h2,fun o=>?_⟩
  have s3:ak H (upd (upd H2 v (jY "dict_items" v d)) d (.cC o (.dK (kvs (bh ns))))):=((s1.trans s2).upd ((s1.trans s2).free hv)).upd K2
  have kP:(upd (upd H2 v (jY "dict_items" v d)) d (.cC o (.dK (kvs (bh ns))))) p=some (.lst [.int 0]):=by
   rw[aA (kh mj h2 (by intro z;cases z)),aA (bf mj hv)]
   exact mj
  have m7:=nD ns
  refine LR (fun σ=>∃v w,σ=[v,w]) (fun q=>some (.int q.2)) (by omega) ⟨none,none,rfl⟩ au ?_ ?_
  ·rintro i q σ' H' t k2 r hq ⟨v1,v2,rfl⟩ sm ht hk sy
   refine⟨t,_,rfl,.of au,rfl,_,_,rfl,_,_,rfl,rfl,?_⟩
   exact⟨_,rfl,hk _ _ _ rfl ⟨_,_,rfl⟩ ((ak.refl _).upd ht)⟩
  ·intro D H' hD sm hA
   rw[zQ]at hA
   refine⟨p,D,[.int 0],_,rfl,rfl,sm p _ kP,hA,by rw[aC];exact leM (by show 1+_<=1000000;omega),fun r su=>?_⟩
   refine⟨.ref r,0::(bh ns).map (·.2),rfl,⟨r,rfl,.inl (.of ?_)⟩,by simp,fun M hM yp=>?_⟩
   ·rw[au,dM,lE];rfl
   ·have e:M=most ns:=aqS (yp 0 lR) (fun c hc=>yp c (iS _ hc)) (by
     rcases dY.mp hM with z | z
     ·exact .inl z
     ·exact .inr z)
    rw[e]
    exact k _ ((s3.trans sm).upd ((s3.trans sm).free su))
theorem Aq{t u:TS}{D:Ends}{σ:L2.St}{H:Hp}(h:CK t u D σ H):aaH {D with nx:=CK t u D} σ H:=h
theorem d9{t u:TS}{D:Ends}{σ:L2.St}{H:Hp}(h:CK t u D σ H):({D with nx:=CK t u D}:Ends).nx σ H:=h
theorem Me{D:Ends}{σ:L2.St}{H:Hp}(h:D.nx σ H):aaH D σ H:=h
noncomputable def Ou(CR CM:aa)(ns:List Int)(H H':Hp)(p:aa):Prop:=
 (∃l ks,H l=none/\lO CR H' p l ks/\ks.Perm ns/\fO ks=true/\ks.getD (ks.length-1) 0≠ks.getD 0 0)\/∃kd,ur CM H' p kd/\(ns.length:Int)<2*(ns.count kd:Int)
noncomputable def axF(CR CM TB:aa):Sp:=fun vs H Q _=>∃(a:aa) (ns:List Int),vs=[.ref a]/\H a=some (.lst (ns.map V.int))/\ns.length<=63/\(∀n∈ns,0<=n/\n<=999)/\nR TB H/\
 2<=ns.length/\∀(p:aa) (H':Hp),ak H H'->H p=none->Ou CR CM ns H H' p->Q (.ref p) H'
theorem aal:bU ["heap","numbers","much"] ["heap"] (az wN):=⟨rfl,rfl,rfl,by decide +kernel,rfl,by decide +kernel,by decide +kernel⟩
theorem atV(T:Txt K mg Z):bD P w K mg base bK 5 Z.UI Z.Tj ["heap"] (axF Z.gJ Z.fH Z.qO):=by
 have uf:=FZ (P:=P) (w:=w) (base:=base) T
 have jF:=vp (P:=P) (w:=w) (base:=base) T
 have amg:=atL (P:=P) (w:=w) (base:=base) T
 have ue:=Mj (P:=P) (w:=w) (base:=base) T
 have NN:=ai8 (P:=P) (w:=w) (base:=base) T
 have xu:=ZE (P:=P) (w:=w) (base:=base) T
 refine T.yQ.fn.ok aal (fun vs H Q E h=>?_) (fun bg A outer s H vs Q E hr h=>?_)
 ·obtain⟨a,ns,rfl,_⟩:=h
  rfl
 ·obtain⟨a,ns,rfl,ha,hl,hb,hP,Bv,k⟩:=h
  refine⟨_,(aH (fX (aP uf (hr.mono (by decide)) rfl T.kH.mg T.kH.fn.kp T.kH.bd .nil aG (aj (pv 0) aq)))
   (aH (bY (cG oG (bB dI rfl T.cW dh (aj (pv 0) aq)) aD (bI _)) sR b8)
   (aH (bR (i:=1) aal.nd rfl (aT rfl) (aP jF (hr.mono (by decide)) rfl T.eV.mg T.eV.fn.kp T.eV.bd .nil aG (aj (pv 0) aq)))
   (aH (bR (i:=2) aal.nd rfl (aT rfl) (aP amg (hr.mono (by decide)) rfl T.Fj.mg T.Fj.fn.kp T.Fj.bd .nil aG (aj (pv 0) (aj (pv 1) aq))))
   (aH (bY (cG ajb (pv 2) ZN (bI _)) (aJ (aY (iO T.Af ue (hr.mono (by decide)) rfl T.Ak T.xF.bd .nil aG (aj (pv 2) aq)))) b8)
   (aJ (aY (iO T.Ag xu (hr.mono (by decide)) rfl T.yE T.xM.bd .nil aG (aj (aP NN (hr.mono (by decide)) rfl T.yV.mg T.yV.fn.kp T.yV.bd .nil aG (aj (pv 1) aq)) aq))))))))),?_⟩
  refine⟨_,rfl,a,ns,rfl,ha,by omega,hb,fun H1 s1=>?_⟩
  refine⟨_,rfl,a,_,rfl,.inl (.of (s1 a _ ha)),_,_,rfl,rfl,_,rfl,?_⟩
  refine dj (fun hc=>?_) (fun hc=>?_)
  ·have d8:ns.length<2:=by
    have:=of_decide_eq_true hc
    rw[aC]at this
    omega
   exact absurd d8 (by omega)
  refine⟨_,rfl,a,ns,rfl,.of (s1 a _ ha),by omega,fun d H2 hd s2 h2=>?_⟩
  have dX:=s1.trans s2
  refine⟨_,rfl,_,rfl,a,d,ns,rfl,dX a _ ha,h2,hl,fun H3 s3 cR=>?_,fun H3 x s3 hx uU=>?_⟩
  ·have dJ:=dX.trans s3
   refine⟨_,rfl,rfl,_,rfl,bH ?_⟩
   refine⟨_,rfl,d,ns,rfl,s3 d _ h2,hl,hb,hP.same dJ,fun l ks H4 s4 bS GR h4=>?_⟩
   have eN:=dJ.trans s4
   intro x dx hx dW yI
   refine⟨x,dx,l,ks,rfl,au,iD hx dW h4,by rw[GR.pm.length_eq];omega,fun l2 H5 hk cE kd=>⟨rfl,?_⟩⟩
   exact k x H5 (iN eN hx dW hk) (eN.free hx) (.inl ⟨l2,ks,nk eN cE,kd,GR.pm,(GR.ring cR Bv).1,(GR.ring cR Bv).2⟩)
  ·have dJ:=dX.trans s3
   refine⟨_,rfl,rfl,_,rfl,cJ ?_⟩
   refine⟨_,rfl,?_⟩
   intro y dx hy dW nyd
   refine⟨y,dx,x,rfl,au,fun H5 hk md=>⟨rfl,?_⟩⟩
   exact k y H5 (iN dJ hy dW hk) (dJ.free hy) (.inr ⟨x,md,uU⟩)
structure Ia(ns:List Int)(ps:List (Int×Int))(ls:List Int):Prop where
 un:ps.all xh=true
 pm:(jv ps++ls).Perm ns
 nl:ki ps ls=true
theorem Ia.len{ns:List Int}{ps:List (Int×Int)}{ls:List Int}(g:Ia ns ps ls):2*ps.length+ls.length=ns.length:=by
 have:=g.pm.length_eq
 rw[bW,Em]at this
 exact this
theorem aoy{ns ms:List Int}{st:Nat}(hp:ms.Perm ns)(hs:ms.Pairwise (·<=·))(eY:(st:Int)=if((ms.length:Int)+1)/2>most ns then((ms.length:Int)+1)/2 else most ns) :
  st<=ms.length/\ms.length<=2*st/\Ia ns (ms.zip (ms.drop st)) ((ms.drop (ms.length-st)).take (2*st-ms.length)):=by
 have hm:most ns<=ms.length:=by
  by_cases h0:ns=[]
  ·rw[h0,Zd];omega
  ·obtain⟨k,_,e⟩:=Al h0
   have:=A2 (a:=k) (l:=ns)
   have:=hp.length_eq
   omega
 have hc:∀k,ms.count k<=st:=fun k=>by
  have:=L6 (ns:=ns) k
  rw[hp.count_eq]
  split at eY<;>omega
 have h1:st<=ms.length:=by split at eY<;>omega
 have h2:ms.length<=2*st:=by split at eY<;>omega
 obtain⟨g1,g2,g3⟩:=auf hs hc h1 h2 fun h=>by
  have h0:ns≠[]:=fun z=>by
   rw[z]at hp
   have:=hp.length_eq
   simp at this
   rw[this]at h h1
   simp at h h1
   omega
  obtain⟨k,_,e⟩:=Al h0
  refine⟨k,?_⟩
  rw[hp.count_eq]
  split at eY<;>omega
 refine⟨h1,h2,⟨kD.mpr fun p V0=>decide_eq_true (g1 p V0),g2.trans hp,?_⟩⟩
 unfold ki
 by_cases hl:((ms.drop (ms.length-st)).take (2*st-ms.length)).length<2
 ·rw[if_pos hl]
 ·rw[if_neg hl]
  obtain⟨k,iK,bA⟩:=g3 (by omega)
  have e:((ms.drop (ms.length-st)).take (2*st-ms.length)).getD 0 0=k:=by
   generalize (ms.drop (ms.length-st)).take (2*st-ms.length)=ls at hl iK
   cases ls with
   |nil=>simp at hl
   |cons a ls=>exact iK a (by simp)
  rw[e,nI]
  refine⟨decide_eq_true (amw.mpr fun x hx=>(iK x hx).symm),kD.mpr fun p V0=>decide_eq_true ?_⟩
  rcases bA p V0 with z | z
  ·rw[z];simp
  ·rw[z];simp
noncomputable def axE(C:aa):Sp:=fun vs H Q _=>∃(a:aa) (ns:List Int),vs=[.ref a]/\H a=some (.lst (ns.map V.int))/\ns.length<=63/\(∀n∈ns,0<=n/\n<=999)/\
 ∀(p b m:aa) (us:List aa) (ps:List (Int×Int)) (ls:List Int) (H':Hp),ak H H'->H p=none->H b=none->H m=none->b≠m->uy C H' p b m us ps ls->Ia ns ps ls->Q (.ref p) H'
theorem MP:bU ["heap","things","step","pairs"] ["heap"] (az wM):=⟨rfl,rfl,rfl,by decide +kernel,rfl,by decide +kernel,by decide +kernel⟩
theorem atU(T:Txt K mg Z):bD P w K mg base bK 6 Z.UH Z.Ti ["heap"] (axE Z.gI):=by
 have uf:=FZ (P:=P) (w:=w) (base:=base) T
 have jF:=vp (P:=P) (w:=w) (base:=base) T
 have C4:=ZK (P:=P) (w:=w) (base:=base) T
 have NC:=aiW (P:=P) (w:=w) (base:=base) T
 refine T.paired.fn.ok MP (fun vs H Q E h=>?_) (fun bg A outer s H vs Q E hr h=>?_)
 ·obtain⟨a,ns,rfl,_⟩:=h
  rfl
 ·obtain⟨a,ns,rfl,ha,hl,hb,k⟩:=h
  refine⟨_,(aH (fX (aP uf (hr.mono (by decide)) rfl T.kH.mg T.kH.fn.kp T.kH.bd .nil aG (aj (pv 0) aq)))
   (aH (bR (i:=1) MP.nd rfl (aT rfl) (bB ad9 rfl T.mW oY (aj (pv 0) aq)))
   (aH (bR (i:=2) MP.nd rfl (aT rfl) (bB (ant rfl) rfl T.IW boot_max (aj (aP C4 (hr.mono (by decide)) rfl T.qp.mg T.qp.fn.kp T.qp.bd .nil aG (aj (aP jF (hr.mono (by decide)) rfl T.eV.mg T.eV.fn.kp T.eV.bd .nil aG (aj (pv 0) aq)) aq)) (aj (bM Cp (bM g9 (bB dI rfl T.cW dh (aj (pv 1) aq)) aD) aD) aq))))
   (aH (bR (i:=3) MP.nd rfl (aT rfl) (aul rfl rfl T.gU rfl T.O7 (aj (pv 1) (aj (sN tL (pv 1) (qz (pv 2)) vA) aq))))
   (aJ (aY (iO T.Wc NC (hr.mono (by decide)) rfl T.Y3 T.IM.bd .nil aG (aj (pv 3) (aj (sN tL (pv 1) (qz (bB dI rfl T.cW dh (aj (pv 3) aq))) (qz (pv 2))) aq))))))))),?_⟩
  refine⟨_,rfl,a,ns,rfl,ha,by omega,hb,fun H1 s1=>?_⟩
  refine⟨_,rfl,a,ns,rfl,.of (s1 a _ ha),by omega,fun t ms pG jf pI=>?_⟩
  have s2:ak H (upd H1 t (.lst (ms.map V.int))):=s1.upd (s1.free pG)
  have jM:(upd H1 t (.lst (ms.map V.int))) t=some (.lst (ms.map V.int)):=au
  generalize upd H1 t (.lst (ms.map V.int))=H2 at s2 jM
  refine⟨_,rfl,a,ns,rfl,.of (s2 a _ ha),by omega,fun d H3 mh s3 h3=>?_⟩
  refine⟨d,(bh ns).map (·.1),fun k=>(ns.count k:Int),rfl,by rw[<- CL];exact h3,fun k _=>by show(0:Int)<=(ns.count k:Int);omega,fun H4 s4=>?_⟩
  have s24:=s3.trans s4
  have Aa:=s24 t _ jM
  refine⟨_,rfl,t,_,rfl,.inl (.of Aa),_,_,rfl,rfl,_,_,rfl,rfl,⟨by decide,by decide⟩,_,_,rfl,?_⟩
  rw[aC,Zm]
  have hmn:=L7 ns
  obtain⟨st,eY⟩:∃st:Nat,(st:Int)=if((ms.length:Int)+1)/2>most ns then((ms.length:Int)+1)/2 else most ns:=⟨(if((ms.length:Int)+1)/2>most ns then((ms.length:Int)+1)/2 else most ns).toNat,by split<;>omega⟩
  obtain⟨g1,g2,g3⟩:=aoy jf pI eY
  rw[<- eY]
  have eN:=s2.trans s24
  refine⟨_,rfl,_,rfl,_,rfl,st,rfl,t,_,rfl,.of Aa,fun p hp=>?_⟩
  rw[Jd]
  have Co:t≠p:=bf Aa hp
  refine⟨t,p,_,_,rfl,by rw[aA Co];exact Aa,au,fun l ts H5 s5 bS h5 bC mz=>?_⟩
  have jB:ak H H5:=fun c o e=>s5 c o (eN.upd (eN.free hp) c o e)
  have jx:(ts.map V.ref).length=ms.length-st:=by rw[aC,bC,aC,aC,jV];omega
  have BW:H5 t=some (.lst (ms.map V.int)):=s5 t _ (by rw[aA Co];exact Aa)
  refine⟨_,rfl,_,rfl,_,rfl,l,_,rfl,.inl (.of h5),((ts.map V.ref).length:Int),rfl,_,rfl,st,rfl,t,_,rfl,.of BW,fun q hq=>?_⟩
  rw[jx,anI ms (by omega) g1]
  have e2:st-(ms.length-st)=2*st-ms.length:=by omega
  rw[e2]
  have qD:ak H (upd H5 q (.lst (((ms.drop (ms.length-st)).take (2*st-ms.length)).map V.int))):=jB.upd (jB.free hq)
  intro x dx hx dW yI
  have nq:∀ {c:aa} {o:HO},H5 c=some o->c≠q:=fun e=>bf e hq
  have prs:jH (upd H5 q (.lst (((ms.drop (ms.length-st)).take (2*st-ms.length)).map V.int))) l ts (ms.zip (ms.drop st)):=by
   refine⟨by rw[aA (nq h5)];exact h5,?_,fun j u pr h1 h2=>?_⟩
   ·rw[abR,jV]
    rw[aC]at jx
    omega
   ·obtain⟨e3,e4⟩:=N2.mp h2
    have e5:=(mz j u (.int pr.1) (.int pr.2) h1 (by rw[dG,e3];rfl) (by rw[dG,e4];rfl)).2
    rw[aA (nq e5)]
    exact e5
  have z7:(ms.zip (ms.drop st)).length<=63:=by rw[abR];have:=jf.length_eq;omega
  have cE:((ms.drop (ms.length-st)).take (2*st-ms.length)).length<=63:=by rw[jr,jV];have:=jf.length_eq;omega
  refine⟨x,dx,l,q,ts,_,_,rfl,au,⟨iD hx dW prs.1,prs.2.1,fun j u pr h1 h2=>iD hx dW (prs.2.2 j u pr h1 h2)⟩,by omega,iD hx dW au,by omega,fun b m us H' hk EB EN L8 pd=>⟨rfl,?_⟩⟩
  exact k x b m us _ _ H' (iN qD hx dW hk) (qD.free hx) (nk qD EB) (nk qD EN) L8 pd g3
structure abA(ns:List Int)(gs:List (List Int))(n:Int):Prop where
 un:gs.all (iY n)=true
 lie:mC gs.flatten ns=true
 mx:¬((gs.length:Int)+1)*n<=jA ns ((gs.length:Int)+1)
theorem Wt{n:Int}{g:List Int}(h:iY n g=true):(g.length:Int)=n/\g.Nodup:=by
 unfold iY at h
 rw[nI]at h
 exact⟨of_decide_eq_true h.1,of_decide_eq_true h.2⟩
theorem agu{n:Int}:∀gs:List (List Int),gs.all (iY n)=true->(gs.flatten.length:Int)=(gs.length:Int)*n/\∀k,gs.flatten.count k<=gs.length
 | [],_=>by simp
 |g::gs,h=>by
  rw[Ir,nI]at h
  obtain⟨h1,h2⟩:=Wt h.1
  obtain⟨h3,h4⟩:=agu gs h.2
  refine⟨?_,fun k=>?_⟩
  ·rw[jG,bW,gF]
   push_cast
   rw[h3,Int.add_mul]
   omega
  ·rw[jG,zj,gF]
   have:=h4 k
   have:=(amO.mp h2) k
   omega
theorem aok{ns:List Int}{gs:List (List Int)}(h:mC gs.flatten ns=true):gs.flatten.length<=ns.length:=by
 have:=akx (ns:=ns) (xs:=gs.flatten) (m:=ns.length) (FA.mp h) (fun k=>by
  have:=FA.mp h k
  have:=A2 (a:=k) (l:=ns)
  omega)
 have:=MF ns ns.length
 omega
structure Left(ns xs:List Int)(l:List (Int×Int)):Prop where
 nd:(l.map (·.1)).Nodup
 val:∀k,(get l k).getD 0=(ns.count k:Int)-(xs.count k:Int)
 len:l.length<=ns.length+xs.length
theorem Left.start(ns:List Int):Left ns [] (bh ns):=⟨(ok ns).nd,fun k=>by rw[agP];simp,by have:=nD ns;omega⟩
theorem auK{l:List (Int×Int)}{n v:Int}(h:(l.map (·.1)).Nodup):((put l n v).map (·.1)).Nodup:=by
 rw[akj]
 split
 ·exact h
 ·rename_i hs
  exact Zo h fun m=>hs (L4.mp m)
theorem auJ(l:List (Int×Int))(n v:Int):(put l n v).length<=l.length+1:=by
 unfold put
 split
 ·rw[aC];omega
 ·rw[bW];simp
theorem Left.step{ns xs:List Int}{l:List (Int×Int)}(h:Left ns xs l)(n:Int):Left ns (xs++[n]) (put l n ((get l n).getD 0-1)):=by
 refine⟨auK h.nd,fun k=>?_,?_⟩
 ·rw[UX,zj]
  by_cases e:k=n
  ·subst e
   rw[if_pos rfl]
   have:=h.val k
   simp
   omega
  ·rw[if_neg e,h.val k]
   have:List.count k [n]=0:=pW (by simp[e])
   omega
 ·have:=auJ l n ((get l n).getD 0-1)
  have:=h.len
  rw[bW]
  simp
  omega
theorem Left.nn{ns xs:List Int}{l:List (Int×Int)}(h:Left ns xs l)(hl:∀k,xs.count k<=ns.count k){p:Int×Int}(hp:p∈l):0<=p.2:=by
 have e:=h.val p.1
 rw[get_mem h.nd hp]at e
 have:=hl p.1
 simp at e
 omega
theorem aqx{cap:List (Option Nat)}{g:TG}{tt:TT}{te:TE}{σ:L2.St}{H1:Hp}{Q:VK}{lo:Int}{n:Nat}(S:L2.St->Prop)(R:Nat->List V->aa->Hp->Prop)(hn:n<=1000000)(h0:S (fR cap σ))(p0:∀D,H1 D=none->R 0 [] D (upd H1 D (.lst [])))
  (Fx:∀i aE D H,R i aE D H->aE.length<=i)
  (Hx:∀i aE D H H',R i aE D H->(∀b o,b≠D->H b=some o->H' b=some o)->R i aE D H')
  (step:∀(i:Nat) (aE:List V) (D:aa) (σ':L2.St) (H':Hp) (k:V->L2.St->Hp->Prop) (r:L2.St->Hp->Prop),i<n->S σ'->ak H1 H'->H1 D=none->H' D=some (.lst aE)->R i aE D H'->
   (∀v σ3 H5,S σ3->ak H' H5->R (i+1) (aE++[v]) D H5->k v σ3 H5)->
   g (.int (lo+i)) σ' H' fun σ3 H3=>tt σ3 H3 fun b H4=>if b=true then te σ3 H4 (fun v H5=>k v σ3 H5)else r σ3 H4)
  (done:∀(aE:List V) (D:aa) (σ':L2.St) (H':Hp),H1 D=none->ak H1 H'->H' D=some (.lst aE)->R n aE D H'->Q (.ref D) H'):lP cap g tt te σ Q (uh lo n) H1:=by
 refine YV (n:=n) S R (fun i H' hi sm=>hi) (fun H' sm=>br _) hn h0 p0 Fx Hx (fun i aE D σ' H' x H2 k r hi s1 sm hD hA p y hk hr=>?_) done
 obtain⟨e,y⟩:=y
 subst e y
 exact step i aE D σ' H2 k r hi s1 sm hD hA p hk
theorem akU(xs:List Int){a m:Nat}(hm:1<=m):CI (xs.map V.int) (a:Int) (m:Int)=(Tl.stepI xs a m).map V.int:=by
 unfold CI Tl.stepI
 have hp:(m:Int)>0:=by omega
 simp only[jj,ux,hp,if_true,aC]
 unfold aau
 simp only[hp,if_true]
 rw[List.map_filterMap,List.filterMap_map]
 have apo:¬(a:Int)<0:=by omega
 simp only[apo,if_false]
 have go:∀(c1 c2:Nat) (f g:Nat->Option V),c1=c2->(∀k,k<c1->f k=g k)->(bT c1).filterMap f=(bT c2).filterMap g:=by
  intro c1 c2 f g e h
  subst e
  have go2:∀l:List Nat,(∀k∈l,f k=g k)->l.filterMap f=l.filterMap g:=by
   intro l
   induction l with
   |nil=>intro _;rfl
   |cons x l ih=>
    intro hl
    rw[nK,nK,hl x (by simp),ih fun k hk=>hl k (iS _ hk)]
  exact go2 _ fun k hk=>h k (iG.mp hk)
 by_cases ha:a<xs.length
 ·have e1:max (0:Int) (min (a:Int) (xs.length:Int))=a:=by omega
  rw[e1,if_pos (by omega)]
  refine go _ _ _ _ ?_ fun k _=>?_
  ·have e2:((xs.length:Int)-(a:Int)+(m:Int)-1)=((xs.length-a+m-1:Nat):Int):=by omega
   rw[e2]
   norm_cast
  ·show(xs.map V.int)[((a:Int)+(m:Int)*(k:Int)).toNat]?=ace V.int xs[a+m*k]?
   have e3:((a:Int)+(m:Int)*(k:Int)).toNat=a+m*k:=by
    have:((a:Int)+(m:Int)*(k:Int))=((a+m*k:Nat):Int):=by push_cast;rfl
    rw[this,Ip]
   rw[e3,dG]
 ·have e1:max (0:Int) (min (a:Int) (xs.length:Int))=xs.length:=by omega
  rw[e1,if_neg (by omega)]
  refine go _ _ _ _ ?_ fun k hk=>by simp at hk
  have:xs.length-a+m-1=m-1:=by omega
  rw[this,Oc (by omega)]
  rfl
theorem aef{n:Int}(h:1<=n/\n<=1000):decide ((1:Int)<=n)=true/\decide (n<=(1000:Int))=true:=⟨decide_eq_true h.1,decide_eq_true h.2⟩
noncomputable def axf:Sp:=fun vs H Q _=>∃n:Int,vs=[.int n]/\(1<=n/\n<=1000)/\Q .cF H
theorem avp:bU ["value"] ["value"] (az wk):=⟨rfl,rfl,rfl,by decide +kernel,rfl,by decide +kernel,by decide +kernel⟩
theorem ai2(T:Txt K mg Z):bD P w K mg base bK 2 Z.Um Z.SQ ["value"] axf:=by
 have lD:=yJ (P:=P) (w:=w) (base:=base) T
 refine T.xW.fn.ok avp (fun vs H Q E h=>?_) (fun bg A outer s H vs Q E hr h=>?_)
 ·obtain⟨n,rfl,_⟩:=h
  rfl
 ·obtain⟨n,rfl,hn,k⟩:=h
  refine⟨_,(aJ (bY (PW.pt (ji (eT (dm (aP lD (hr.mono (by decide)) rfl T.fU.mg T.fU.fn.kp T.fU.bd .nil aG (aj (pv 0) aq)))) (jP (eT (auH Mr Mr aD (pv 0) (yM (v:=.int 1000) rfl T.aip ⟨_,rfl⟩)))))) sR b8)),?_⟩
  refine⟨_,rfl,n,rfl,true,rfl,bH ?_⟩
  refine⟨_,rfl,_,_,rfl,rfl,_,rfl,?_⟩
  rw[(aef hn).1]
  refine cJ ⟨_,_,rfl,rfl,_,rfl,?_⟩
  rw[(aef hn).2]
  exact bH k
noncomputable def axA:Sp:=fun vs H Q _=>∃(d:aa) (ns:List Int) (n:Int),vs=[.ref d,.int n]/\H d=some (.dK (kvs (bh ns)))/\ns.length<=63/\(1<=n/\n<=1000)/\
 ∀(m:Nat) (H':Hp),ak H H'->(m:Int)*n<=jA ns m->¬((m:Int)+1)*n<=jA ns ((m:Int)+1)->Q (.int m) H'
theorem CG:bU ["numbers","size","fewest","most","middle"] ["numbers","size"] (az wI):=⟨rfl,rfl,rfl,by decide +kernel,rfl,by decide +kernel,by decide +kernel⟩
theorem atP(T:Txt K mg Z):bD P w K mg base bK 2 Z.UD Z.Te ["numbers","size"] axA:=by
 have NF:=ai1 (P:=P) (w:=w) (base:=base) T
 refine T.FL.fn.ok CG (fun vs H Q E h=>?_) (fun bg A outer s H vs Q E hr h=>?_)
 ·obtain⟨d,ns,n,rfl,_⟩:=h
  rfl
 ·obtain⟨d,ns,n,rfl,hd,hl,hn,k⟩:=h
  refine⟨_,(aH (bR (i:=2) CG.nd rfl (aT rfl) aD)
   (aH (bR (i:=3) CG.nd rfl (aT rfl) (bM Cp (bB (QH rfl) rfl T.IZ boot_sum (aj (sJ uB Oo acp Zl (pv 0)) aq)) (pv 1)))
   (aH (auG iy (cG oG (pv 2) (pv 3) (bI _)) (aH (bR (i:=4) CG.nd rfl (aT rfl) (bM Cp (bM g9 (bM g9 (pv 2) (pv 3)) aD) aD))
   (aJ (bY (dm (aP NF (hr.mono (by decide)) rfl T.xV.mg T.xV.fn.kp T.xV.bd .nil aG (aj (pv 4) (aj (pv 1) (aj (pv 0) aq))))) (aJ (bR (i:=2) CG.nd rfl (aT rfl) (pv 4))) (aJ (bR (i:=3) CG.nd rfl (aT rfl) (bM mF (pv 4) aD)))))))
   (aJ (aY (pv 2)))))),?_⟩
  refine⟨_,rfl,xg hd,d,_,rfl,rfl,hd,fun v hv=>?_⟩
  have j9:d≠v:=bf hd hv
  have s1:ak H (upd H v (jY "dict_values" v d)):=(ak.refl H).upd hv
  refine⟨.ref v,(bh ns).map (·.2),rfl,⟨v,rfl,.inr (.inr (.inr ⟨d,_,au,by rw[aA j9];exact hd,(alv _).symm⟩))⟩,?_⟩
  rw[ald]
  refine⟨_,rfl,_,_,rfl,rfl,⟨by omega,by omega⟩,?_⟩
  have h0:0<=(ns.length:Int)/n:=Int.ediv_nonneg (by omega) (by omega)
  have h63:(ns.length:Int)/n<=63:=Int.le_trans (Int.ediv_le_self _ (by omega)) (by omega)
  have pI:¬((ns.length:Int)/n+1)*n<=jA ns ((ns.length:Int)/n+1):=fun h=>by
   have h1:=MF ns ((ns.length:Int)/n+1)
   have h2:=Int.lt_ediv_add_one_mul_self (ns.length:Int) (show 0<n by omega)
   omega
  refine ay' (fun σ H2=>∃(lo hi:Int) (v:Option V),σ=[some (.ref d),some (.int n),some (.int lo),some (.int hi),v]/\ak H H2/\0<=lo/\lo<=hi/\hi<=63/\lo*n<=jA ns lo/\¬(hi+1)*n<=jA ns (hi+1))
   (fun σ _=>match σ with | [_,_,some (.int lo),some (.int hi),_]=>(hi-lo).toNat | _=>0) ⟨0,_,none,rfl,s1,mR _,h0,h63,?_,pI⟩ ?_ ?_
  ·have:=akx (ns:=ns) (xs:=[]) (m:=0) (fun k=>by simp) (fun k=>by simp)
   simp at this
   omega
  ·rintro σ H2 ⟨lo,hi,v,rfl,s2,h1,h2,h3,h4,h5⟩
   refine⟨_,rfl,_,rfl,_,_,rfl,rfl,_,rfl,?_⟩
   refine dj (fun hc=>?_) (fun hc=>?_)
   ·have bQ:lo<hi:=of_decide_eq_true hc
    have hm1:lo<(lo+hi+1)/2:=by omega
    have EO:(lo+hi+1)/2<=hi:=by omega
    refine⟨_,rfl,_,rfl,_,_,rfl,rfl,_,_,rfl,rfl,_,_,rfl,rfl,⟨by decide,by decide⟩,?_⟩
    refine⟨_,rfl,_,rfl,_,rfl,_,_,d,ns,rfl,s2 d _ hd,by omega,⟨by omega,by omega⟩,fun H3 s3=>⟨_,rfl,?_⟩⟩
    refine dj (fun hq=>?_) (fun hq=>?_)
    ·have u7:=of_decide_eq_true hq
     exact⟨_,rfl,⟨_,_,_,rfl,s2.trans s3,by omega,EO,h3,u7,h5⟩,by show(hi-(lo+hi+1)/2).toNat<(hi-lo).toNat;omega⟩
    ·have u7:¬((lo+hi+1)/2)*n<=jA ns ((lo+hi+1)/2):=fun z=>hq (decide_eq_true z)
     refine⟨_,rfl,_,_,rfl,rfl,⟨_,_,_,rfl,s2.trans s3,h1,by omega,by omega,h4,?_⟩,by show((lo+hi+1)/2-1-lo).toNat<(hi-lo).toNat;omega⟩
     rw[Int.sub_add_cancel]
     exact u7
   ·have fK:lo=hi:=by
     have:¬lo<hi:=fun z=>hc (decide_eq_true z)
     omega
    subst fK
    refine⟨_,rfl,?_⟩
    have e:lo=((lo.toNat:Nat):Int):=by omega
    rw[e]at h4 h5 ⊢
    exact k _ H2 s2 h4 h5
  ·intro σ H2 Q1 Q2 hq h
   obtain⟨v,e1,w',e2,i,j,e3,e4,b,e5,q⟩:=h
   exact⟨v,e1,w',e2,i,j,e3,e4,b,e5,hq _ _ q⟩
theorem aus{l₁ l₂:List Int}(h:l₁.Perm l₂):l₁.sum=l₂.sum:=by
 induction h with
 |nil=>rfl
 |cons x _ ih=>simp only[zo,ih]
 |swap x y l=>simp only[zo];omega
 |trans _ _ ih1 ih2=>exact ih1.trans ih2
noncomputable def jo(ns ts:List Int)(m:Nat):List Int:=cO ts fun k=>min (ns.count k) m
theorem aiM(c m:Nat):(if(m:Int)<(c:Int) then(m:Int) else(c:Int))=((min c m:Nat):Int):=by
 split<;>omega
noncomputable def axO:Sp:=fun vs H Q _=>∃(d:aa) (ns:List Int) (m:Nat),vs=[.ref d,.int m]/\H d=some (.dK (kvs (bh ns)))/\ns.length<=63/\
 ∀(l:aa) (ts:List Int) (H':Hp),ak H H'->H l=none->ts.Perm ((bh ns).map (·.1))->ts.Pairwise (·<=·)->H' l=some (.lst ((jo ns ts m).map V.int))->Q (.ref l) H'
theorem alq(ns:List Int){ts:List Int}(m:Nat)(hp:ts.Perm ((bh ns).map (·.1))):((jo ns ts m).length:Int)=jA ns m:=by
 unfold jo jA
 rw[aiy,M4,Nb,lE]
 have e:(fun k=>((min (ns.count k) m:Nat):Int))=(mn (m:Int)) ∘ fun k=>(ns.count k:Int):=by
  funext k
  show _=mn (m:Int) (ns.count k:Int)
  unfold mn
  rw[aiM]
 rw[e]
 exact aus (hp.map _)
theorem ay2(ns ts:List Int)(m:Nat)(hp:ts.Perm ((bh ns).map (·.1))):(jo ns ts m).length<=ns.length:=by
 have h1:=alq ns m hp
 have h2:=MF ns m
 omega
theorem aap:bU ["numbers","many","things","kind"] ["numbers","many"] (az wW):=⟨rfl,rfl,rfl,by decide +kernel,rfl,by decide +kernel,by decide +kernel⟩
theorem at7(T:Txt K mg Z):bD P w K mg base bK 1 Z.UQ Z.Tu ["numbers","many"] axO:=by
 refine T.HL.fn.ok aap (fun vs H Q E h=>?_) (fun bg A outer s H vs Q E hr h=>?_)
 ·obtain⟨d,ns,m,rfl,_⟩:=h
  rfl
 ·obtain⟨d,ns,m,rfl,hd,hl,k⟩:=h
  have hu:=pH hr
  have m7:=nD ns
  refine⟨_,(aH (bR (i:=2) aap.nd rfl (aT rfl) (dD aq))
   (aH (iF iy rfl (gf (bB (ad' rfl) rfl T.mW oY (aj (pv 0) aq))) (cK (i:=3) aap.nd rfl (aT rfl)) (aJ (fX (ie gT zw PySem.F.type_list_extend Cg (pv 2) (aj (bM ZM (dD (aj (pv 3) aq)) (bB (QE rfl) rfl T.IX boot_min (aj (At hu (pv 0) (pv 3) (fun _ _=>rfl)) (aj (pv 1) aq)))) aq)))))
   (aJ (aY (pv 2))))),?_⟩
  refine⟨fz _,fun l bS=>?_⟩
  have s1:ak H (upd H l (.lst [])):=(ak.refl H).upd bS
  refine⟨_,rfl,d,_,(bh ns).map (·.1),rfl,s1 d _ hd,XG _,by rw[aC];omega,fun t ts pG jf pI=>⟨t,rfl,⟨_,.of au⟩,?_⟩⟩
  have ntl:l≠t:=bf au pG
  have s2:ak H (upd (upd H l (.lst [])) t (.lst (ts.map V.int))):=s1.upd (s1.free pG)
  have jM:(upd (upd H l (.lst [])) t (.lst (ts.map V.int))) t=some (.lst (ts.map V.int)):=au
  have cE:(upd (upd H l (.lst [])) t (.lst (ts.map V.int))) l=some (.lst []):=by rw[aA ntl];exact au
  generalize upd (upd H l (.lst [])) t (.lst (ts.map V.int))=H2 at s2 jM cE
  refine nX (K:=K) (a:=t) (xs:=ts.map V.int) (fun i σ H3=>∃v:Option V,σ=[some (.ref d),some (.int m),some (.ref l),v]/\ak H H3/\H3 t=some (.lst (ts.map V.int))/\H3 l=some (.lst ((jo ns (ts.take i) m).map V.int)))
   ⟨none,rfl,s2,jM,cE⟩ (fun i σ H3 _ ⟨_,_,_,h3,_⟩=>.of h3) ?_ ?_
  ·rintro i x σ H3 hx ⟨v,rfl,s3,h3,h4⟩
   obtain⟨n,hn,rfl⟩:=j7 hx
   have BK:=eB hn
   have ES:n∈ns:=gZ.mp (jf.mem_iff.mp BK)
   have mw:ts.take (i+1)=ts.take i++[n]:=by rw[jW,hn];rfl
   have pD:=aiC (fun k=>min (ns.count k) m) ts (i+1)
   have hul:=ay2 ns ts m jf
   rw[mw,LQ,bW,rH]at pD
   unfold jo at hul
   refine⟨_,rfl,ir h4,_,rfl,by show 1<=aX;decide,fun b hb=>?_⟩
   have s5:ak H (upd H3 b (.lst [.int n])):=s3.upd (s3.free hb)
   have nlb:l≠b:=bf h4 hb
   have ntb:t≠b:=bf h3 hb
   have g:gm (upd H3 b (.lst [.int n])) d (.int n) (some (.int (ns.count n:Int))):=by
    have:=gm.k (k:=cN n) (s5 d _ hd)
    rw[oN,(ok ns).val,if_pos ES]at this
    exact this
   refine⟨_,rfl,_,rfl,d,_,rfl,g,_,rfl,_,_,rfl,?_⟩
   rw[aiM]
   refine⟨b,_,[.int n],rfl,rfl,au,by omega,by omega,?_,fun p hp=>?_⟩
   ·exact yC (by simp;omega)
   have ki:l≠p:=bf (show(upd H3 b (.lst [.int n])) l=_ by rw[aA nlb];exact h4) hp
   have Co:t≠p:=bf (show(upd H3 b (.lst [.int n])) t=_ by rw[aA ntb];exact h3) hp
   have s6:=s5.upd (o:=.lst (fj ((min (ns.count n) m:Nat):Int).toNat [V.int n]).flatten) (s5.free hp)
   refine⟨l,p,_,_,rfl,rfl,by rw[aA ki,aA nlb];exact h4,au,?_,?_⟩
   ·rw[aC,CB,rH,Ip]
    unfold jo
    exact yC (by omega)
   ·refine⟨_,rfl,s6.upd bS,by rw[aA (dB ntl),aA Co,aA ntb];exact h3,?_⟩
    rw[au,mw]
    unfold jo
    rw[LQ,CB,Ip,fD,N5]
  ·rintro σ H3 ⟨v,rfl,s3,h3,h4⟩
   rw[aC,mS]at h4
   exact⟨_,rfl,k l ts H3 s3 bS jf pI h4⟩
theorem aoz{ns ts:List Int}{m:Nat}{n:Int}(hn:1<=n)(hp:ts.Perm ((bh ns).map (·.1)))(hs:ts.Pairwise (·<=·))(h1:(m:Int)*n<=jA ns m)(h2:¬((m:Int)+1)*n<=jA ns ((m:Int)+1)) :
  ((jo ns ts m).take (m*n.toNat)).length=m*n.toNat/\abA ns ((bT m).map fun a=>Tl.stepI ((jo ns ts m).take (m*n.toNat)) a m) n:=by
 have bC:=alq ns m hp
 have en:n=((n.toNat:Nat):Int):=by omega
 have hL:((jo ns ts m).take (m*n.toNat)).length=m*n.toNat:=by
  rw[jr]
  have:((m*n.toNat:Nat):Int)=(m:Int)*n:=by rw[Int.natCast_mul,<- en]
  omega
 have BJ:ts.Nodup:=hp.nodup_iff.mpr (ok ns).nd
 have agY:∀k,((jo ns ts m).take (m*n.toNat)).count k<=min (ns.count k) m:=fun k=>by
  refine fP (List.Sublist.count_le k (ab1 _ _)) ?_
  unfold jo
  rw[Cb _ _ _ BJ]
  split
  ·exact br _
  ·exact fz _
 have apI:((jo ns ts m).take (m*n.toNat)).Pairwise (·<=·):=(aiB _ _ hs).sublist (ab1 _ _)
 obtain⟨g1,g2⟩:=au0 apI hL fun k=>fP (agY k) (Nat.min_le_right _ _)
 have e:((bT m).map fun a=>Tl.stepI ((jo ns ts m).take (m*n.toNat)) a m)=(bT m).map fun a=>(bT n.toNat).map fun j=>((jo ns ts m).take (m*n.toNat)).getD (a+m*j) 0:=
  xD fun a ha=>axS hL (iG.mp ha)
 rw[e]
 refine⟨hL,⟨kD.mpr fun g hg=>?_,FA.mpr fun k=>?_,?_⟩⟩
 ·obtain⟨a1,a2⟩:=g1 g hg
  unfold iY
  rw[nI]
  exact⟨decide_eq_true (by rw[a1];exact en.symm),decide_eq_true a2⟩
 ·rw[g2.count_eq]
  exact fP (agY k) (Nat.min_le_left _ _)
 ·rw[aC,um]
  exact h2
noncomputable def axm(C:aa):Sp:=fun vs H Q _=>∃(a:aa) (ns:List Int) (n:Int),vs=[.ref a,.int n]/\H a=some (.lst (ns.map V.int))/\ns.length<=63/\(∀n∈ns,0<=n/\n<=999)/\(1<=n/\n<=1000)/\
 ∀(p b:aa) (us:List aa) (gs:List (List Int)) (H':Hp),ak H H'->H p=none->H b=none->(∀u∈us,H u=none)->zb C H' p b us gs->abA ns gs n->Q (.ref p) H'
theorem ML:bU ["heap","size","numbers","many","things"] ["heap","size"] (az tD):=⟨rfl,rfl,rfl,by decide +kernel,rfl,by decide +kernel,by decide +kernel⟩
theorem atC(T:Txt K mg Z):bD P w K mg base bK 6 Z.Uo Z.SS ["heap","size"] (axm Z.gW):=by
 have uf:=FZ (P:=P) (w:=w) (base:=base) T
 have NG:=ai2 (P:=P) (w:=w) (base:=base) T
 have jF:=vp (P:=P) (w:=w) (base:=base) T
 have amj:=atP (P:=P) (w:=w) (base:=base) T
 have ams:=at7 (P:=P) (w:=w) (base:=base) T
 have C2:=ZD (P:=P) (w:=w) (base:=base) T
 refine T.grouped.fn.ok ML (fun vs H Q E h=>?_) (fun bg A outer s H vs Q E hr h=>?_)
 ·obtain⟨a,ns,n,rfl,_⟩:=h
  rfl
 ·obtain⟨a,ns,n,rfl,ha,hl,hb,hn,k⟩:=h
  refine⟨_,(aH (fX (aP uf (hr.mono (by decide)) rfl T.kH.mg T.kH.fn.kp T.kH.bd .nil aG (aj (pv 0) aq)))
   (aH (fX (aP NG (hr.mono (by decide)) rfl T.xW.mg T.xW.fn.kp T.xW.bd .nil aG (aj (pv 1) aq)))
   (aH (bR (i:=2) ML.nd rfl (aT rfl) (aP jF (hr.mono (by decide)) rfl T.eV.mg T.eV.fn.kp T.eV.bd .nil aG (aj (pv 0) aq)))
   (aH (bR (i:=3) ML.nd rfl (eF rfl) (aP amj (hr.mono (by decide)) rfl T.FL.mg T.FL.fn.kp T.FL.bd .nil aG (aj (pv 2) (aj (pv 1) aq))))
   (aH (bR (i:=4) ML.nd rfl (eF rfl) (sN tL (aP ams (hr.mono (by decide)) rfl T.HL.mg T.HL.fn.kp T.HL.bd .nil aG (aj (pv 2) (aj (pv 3) aq))) vA (qz (bM oH (pv 3) (pv 1)))))
   (aJ (aY (iO T.Lr C2 (hr.mono (by decide)) rfl T.L3 T.C5.bd .nil aG (aj (jz (N:=["start","things","many"]) (cap:=[none,some 4,some 3]) rfl (iA (XN:=["heap","size","numbers","many","things"]) (xs:=(az tD).names) rfl rfl (by decide +kernel)) (Cr rfl T.xS (aj (pv 3) aq)) (fun _ _ _=>(cK (i:=0) (show(["start","things","many"]:List Str).Nodup by decide +kernel) rfl (aT rfl) (eF rfl))) (fun _ _ _=>jO) (fun _ _ _=>(ajh (K:=K) rfl (pv 1) (pv 0) (pv 2)))) aq))))))))),?_⟩
  refine⟨_,rfl,a,ns,rfl,ha,by omega,hb,fun H1 s1=>?_⟩
  refine⟨_,rfl,n,rfl,hn,?_⟩
  refine⟨_,rfl,a,ns,rfl,.of (s1 a _ ha),by omega,fun d H2 hd s2 h2=>?_⟩
  have dX:=s1.trans s2
  refine⟨_,rfl,_,rfl,d,ns,n,rfl,h2,hl,hn,fun m H3 s3 hm1 EO=>?_⟩
  have dJ:=dX.trans s3
  refine⟨_,rfl,_,rfl,d,ns,m,rfl,s3 d _ h2,hl,fun t ts H4 s4 pG jf pI h4=>?_⟩
  have eN:=dJ.trans s4
  obtain⟨hL,GG⟩:=aoz hn.1 jf pI hm1 EO
  have azt:m<=63:=by
   have:=MF ns m
   have h6:(m:Int)*1<=(m:Int)*n:=abD hn.1 (by omega)
   omega
  refine⟨_,rfl,_,rfl,_,_,rfl,rfl,.inl ⟨by omega,by omega⟩,_,rfl,t,_,rfl,.of h4,fun q hq=>?_⟩
  have en:(m:Int)*n=((m*n.toNat:Nat):Int):=by
   rw[Int.natCast_mul]
   congr 1
   omega
  rw[en,DZ]
  have jB:=eN.upd (o:=.lst (((jo ns ts m).take (m*n.toNat)).map V.int)) (eN.free hq)
  have BQ:(upd H4 q (.lst (((jo ns ts m).take (m*n.toNat)).map V.int))) q=some (.lst (((jo ns ts m).take (m*n.toNat)).map V.int)):=au
  generalize upd H4 q (.lst (((jo ns ts m).take (m*n.toNat)).map V.int))=H5 at jB BQ
  generalize (jo ns ts m).take (m*n.toNat)=TH at hL GG BQ
  refine⟨_,rfl,m,rfl,by omega,by omega,aqx (lo:=0) (n:=m) (fun σ=>∃v,σ=[v,some (.ref q),some (.int m)]) (fun i aE D H'=>∃us:List aa,aE=us.map V.ref/\us.length=i/\us.Nodup/\(∀u∈us,H5 u=none/\u≠D/\H' u≠none)/\∀(j:Nat) (t:aa),us[j]?=some t->H' t=some (.lst ((Tl.stepI TH j m).map V.int)))
   (by omega) ⟨none,rfl⟩ (fun D hD=>⟨[],rfl,rfl,Dm,fun u h=>by simp at h,fun j t h=>by simp at h⟩) ?_ ?_ ?_ ?_⟩
  ·rintro i aE D H' ⟨us,rfl,e,_⟩
   rw[aC];omega
  ·rintro i aE D H' Ie ⟨us,rfl,e,nd,fu,f⟩ kp
   refine⟨us,rfl,e,nd,fun u hu=>⟨(fu u hu).1,(fu u hu).2.1,?_⟩,fun j t h1=>kp t _ (fu t (eB h1)).2.1 (f j t h1)⟩
   obtain⟨_,n1,n2⟩:=fu u hu
   cases hq:H' u with
   |none=>exact absurd hq n2
   |some o=>rw[kp u o n1 hq];exact fun z=>nomatch z
  ·rintro i aE D σ' H' k2 r hi ⟨v,rfl⟩ sm hD hA ⟨us,rfl,e,nd,fu,f⟩ hk
   refine⟨_,rfl,_,rfl,_,rfl,_,_,rfl,rfl,by omega,by omega,q,_,rfl,.of (sm q _ BQ),fun u hu=>?_⟩
   have ei:(0:Int)+(i:Int)=((i:Nat):Int):=by omega
   rw[ei,akU TH (by omega)]
   refine hk _ _ _ ⟨_,rfl⟩ ((ak.refl _).upd hu) ⟨us++[u],by rw[fD];rfl,by rw[bW,e];rfl,?_,?_,fun j t' h1=>?_⟩
   ·rw[ID]
    refine⟨nd,by simp,fun y hy z hz=>?_⟩
    rw[gb.mp hz]
    intro q
    exact(fu y hy).2.2 (q▸hu)
   ·intro y hy
    rcases lQ.mp hy with q | q
    ·obtain⟨n0,n1,n2⟩:=fu y q
     refine⟨n0,n1,?_⟩
     rw[aA (fun z=>n2 (by rw[z];exact hu))]
     exact n2
    ·rw[gb.mp q]
     exact⟨sm.free hu,(fun z=>by rw[z,hA]at hu;cases hu),by rw[au];exact(fun z=>nomatch z)⟩
   ·by_cases hj:j<us.length
    ·rw[nM hj]at h1
     have:=f j t' h1
     rw[aA (bf this hu)]
     exact this
    ·have n6:j=us.length:=by
      have:=(iw.mp h1).1
      rw[bW]at this
      simp at this
      omega
     subst n6
     rw[nN (br _)]at h1
     simp at h1
     subst h1
     rw[e]
     exact au
  ·rintro aE D σ' H6 hD sm hA ⟨us,rfl,e,nd,fu,f⟩
   have qD:=jB.trans sm
   intro x dx hx dW yI
   have uT:((bT m).map fun a=>Tl.stepI TH a m).length=m:=by simp
   have hsl:∀g∈(bT m).map fun a=>Tl.stepI TH a m,g.length<=63000:=fun g hg=>by
    have h7:=(Wt (kD.mp GG.un g hg)).1
    omega
   refine⟨x,dx,D,us,_,rfl,au,iD hx dW hA,by rw[uT];exact e,fun j t g h1 h2=>iD hx dW ?_,by omega,fun g hg=>by have:=hsl g hg;omega,fun b AE H7 hk EB hu0 gd=>⟨rfl,?_⟩⟩
   ·rw[dG]at h2
    have hj:j<m:=by
     have:=(iw.mp h1).1
     omega
    rw[N1 hj]at h2
    cases h2
    exact f j t h1
   ·exact k x b AE _ H7 (iN qD hx dW hk) (qD.free hx) (nk qD EB) (fun u hu=>nk qD (hu0 u hu)) gd GG
structure Ib(ns ks:List Int)(n:Int):Prop where
 pm:(jR ks).Perm ns
 ap:oW ks n=true
 len:ks.length=ns.length\/(ks.length:Int)=sI ns n
noncomputable def LO(ks ns:List Int)(n:Int):Bool:=decide ((jR ks).Perm ns)&&(oW ks n&&decide ((ks.length:Int)∈[(ns.length:Int),(most ns-1)*n+(tW ns:Int)]))
theorem ayC:tW []=0:=rfl
theorem avF{ks ns:List Int}{n:Int}(hn:1<=n):MT ks ns n=LO ks ns n:=by
 unfold MT LO
 by_cases hp:(jR ks).Perm ns
 ·have hl:=hp.length_eq
  have Ac:(jR ks).length<=ks.length:=IB _ _
  have e:(decide ((jR ks).length=ks.length)||decide ((ks.length:Int)=sI ns n))=decide ((ks.length:Int)∈[(ns.length:Int),(most ns-1)*n+(tW ns:Int)]):=by
   rw[rB,Bool.or_eq_true,decide_eq_true_iff,decide_eq_true_iff,decide_eq_true_iff,dY,gb]
   unfold sI
   by_cases h0:ns=[]
   ·subst h0
    rw[if_pos rfl,Zd,ayC]
    simp only[List.length_nil]at *
    have:(0-1)*n+((0:Nat):Int)=- n:=by omega
    rw[this]
    omega
   ·rw[if_neg h0,Int.mul_comm n]
    omega
  rw[e]
 ·rw[decide_eq_false hp,iQ,iQ]
theorem aq0{ns:List Int}{n:Int}(hn:0<=n)(hl:ns.length<=63):sI ns n<=n*63+63:=by
 unfold sI
 split
 ·have:0<=n*63:=Int.mul_nonneg hn (by omega)
  omega
 ·rename_i h0
  obtain⟨k,_,e⟩:=Al h0
  have h1:=A2 (a:=k) (l:=ns)
  have h2:n*(most ns-1)<=n*63:=abD (by omega) hn
  have h3:tW ns<=(bh ns).length:=IB _ _
  have:=nD ns
  omega
end
end K7
set_option maxHeartbeats 800000
namespace Tl
theorem agp{p:Int->Bool}:∀ {ts:List Int},ts.Pairwise (fun a b=>p b=true->p a=true)->ts.filter p=ts.take (ts.countP p)/\ts.filter (fun x=>!p x)=ts.drop (ts.countP p)
 | [],_=>⟨rfl,rfl⟩
 |a::r,h=>by
  obtain⟨h1,h2⟩:=N7.mp h
  obtain⟨i1,i2⟩:=agp h2
  cases hp:p a with
  |true=>
   rw[Iz,if_pos hp,Iz,if_neg (by simp[hp]),List.countP_cons_of_pos hp]
   exact⟨by rw[i1,amP,<- i1],by rw[i2,List.drop_succ_cons,<- i2]⟩
  |false=>
   have cR:∀b∈r,p b=false:=fun b hb=>by
    cases q:p b with
    |false=>rfl
    |true=>exact absurd (h1 b hb q) (by simp[hp])
   have hc:(a::r).countP p=0:=by
    rw[List.countP_eq_zero]
    intro x hx
    rcases dY.mp hx with z | z
    ·rw[z,hp];simp
    ·rw[cR x z];simp
   rw[hc]
   refine⟨?_,?_⟩
   ·rw[List.take_zero,amC]
    intro x hx
    rcases dY.mp hx with z | z
    ·rw[z,hp];simp
    ·rw[cR x z];simp
   ·rw[List.drop_zero,amD]
    intro x hx
    rcases dY.mp hx with z | z
    ·rw[z,hp];rfl
    ·rw[cR x z];rfl
theorem anG{l:List Int}(h:l.Nodup)(x:Int):l.count x=if x∈l then 1 else 0:=by
 split
 ·rename_i hx
  have h1:=amO.mp h x
  have h2:=A3.mpr hx
  omega
 ·rename_i hx
  exact pW hx
theorem akv(x:Int)(aI:List Int):∀m:Nat,((fj m aI).flatten).count x=m*aI.count x
 | 0=>by simp
 |m+1=>by rw[rJ,jG,zj,akv x aI m,IK];omega
theorem avG{ns tk ts:List Int}(h0:ns≠[])(hb:∀k∈ns,0<=k/\k<=999)(htk:tk.Perm ((bh ns).map (·.1)))(mz:ts.Perm ((bh ns).map (·.1)))(BN:ts.Pairwise fun a b=>-(ns.count a:Int)*1000+a<=-(ns.count b:Int)*1000+b) :
  HX (tk.filter fun k=>decide ((ns.count k:Int)=most ns)) (cO (ts.drop (tk.filter fun k=>decide ((ns.count k:Int)=most ns)).length) fun k=>ns.count k) (most ns-1).toNat/\
  ((fj ((most ns-1).toNat+1) (tk.filter fun k=>decide ((ns.count k:Int)=most ns))).flatten++cO (ts.drop (tk.filter fun k=>decide ((ns.count k:Int)=most ns)).length) fun k=>ns.count k).Perm ns:=by
 have yl:∀k,k∈ts↔k∈ns:=fun k=>(mz.mem_iff).trans gZ
 have K9:∀k,k∈tk↔k∈ns:=fun k=>(htk.mem_iff).trans gZ
 have nd:((bh ns).map (·.1)).Nodup:=(ok ns).nd
 have ndk:tk.Nodup:=htk.nodup_iff.mpr nd
 have nds:ts.Nodup:=mz.nodup_iff.mpr nd
 obtain⟨m0,EN,em⟩:=Al h0
 have BO:0<ns.count m0:=A3.mpr EN
 obtain⟨S,hS⟩:∃S:Nat,most ns=(S:Int)+1:=⟨(most ns-1).toNat,by omega⟩
 have eS:(most ns-1).toNat=S:=by omega
 have bC:(tk.filter fun k=>decide ((ns.count k:Int)=most ns)).length=ts.countP fun k=>decide ((ns.count k:Int)=most ns):=by
  rw[<- List.countP_eq_length_filter]
  exact(htk.trans mz.symm).countP_eq _
 have aoK:ts.Pairwise fun a b=>decide ((ns.count b:Int)=most ns)=true->decide ((ns.count a:Int)=most ns)=true:=by
  refine abF (fun {a b} ha yd Ey VY=>?_) BN
  have h1:=hb a ((yl a).mp ha)
  have h2:=hb b ((yl b).mp yd)
  have h3:=L6 (ns:=ns) a
  have h4:=of_decide_eq_true VY
  exact decide_eq_true (by omega)
 have hd:=(agp aoK).2
 rw[bC,<- hd,eS]
 have uR:∀k,k∈ts.filter (fun x=>!decide ((ns.count x:Int)=most ns))↔k∈ns/\(ns.count k:Int)≠most ns:=fun k=>by
  rw[Dl,yl]
  simp
 have Ae:∀k,k∈tk.filter (fun x=>decide ((ns.count x:Int)=most ns))↔k∈ns/\(ns.count k:Int)=most ns:=fun k=>by
  rw[Dl,K9]
  simp
 have ndd:(ts.filter (fun x=>!decide ((ns.count x:Int)=most ns))).Nodup:=nds.filter _
 have ndt:(tk.filter (fun x=>decide ((ns.count x:Int)=most ns))).Nodup:=ndk.filter _
 refine⟨⟨ndt,fun x hx pJ=>?_,fun x hx=>?_,fun x hx=>?_,fun z=>?_,fun x=>?_⟩,?_⟩
 ·exact((uR x).mp (Ai pJ)).2 ((Ae x).mp hx).2
 ·have:=hb x ((Ae x).mp hx).1
  omega
 ·have:=hb x ((uR x).mp (Ai hx)).1
  omega
 ·have:ts.filter (fun x=>!decide ((ns.count x:Int)=most ns))=[]:=by
   refine List.eq_nil_iff_forall_not_mem.mpr fun x hx=>?_
   obtain⟨h1,h2⟩:=(uR x).mp hx
   have h3:=L6 (ns:=ns) x
   have h4:0<ns.count x:=A3.mpr h1
   omega
  rw[this]
  rfl
 ·refine aqt ndd ?_ (fun k hk=>?_) x
  ·refine abF (fun {a b} ha yd Ey=>?_) (BN.filter _)
   have h1:=hb a ((uR a).mp ha).1
   have h2:=hb b ((uR b).mp yd).1
   omega
  ·obtain⟨h1,h2⟩:=(uR k).mp hk
   have h3:=L6 (ns:=ns) k
   omega
 ·refine abZ.mpr fun x=>?_
  rw[zj,akv,anG ndt,Cb _ _ _ ndd]
  by_cases hx:x∈ns
  ·by_cases hm:(ns.count x:Int)=most ns
   ·rw[if_pos ((Ae x).mpr ⟨hx,hm⟩),if_neg fun z=>((uR x).mp z).2 hm]
    omega
   ·rw[if_neg fun z=>hm ((Ae x).mp z).2,if_pos ((uR x).mpr ⟨hx,hm⟩)]
    omega
  ·rw[if_neg fun z=>hx ((Ae x).mp z).1,if_neg fun z=>hx ((uR x).mp z).1,pW hx]
   omega
end Tl
set_option maxHeartbeats 1000000
namespace K7
open PySem PySem.Spec PyProof.Rows L2 Tl
seal jt PS PE PT PW PA PG rK PI rL PC
section
variable{P:cH}{w:cj}{K:bG}{mg:Str->Option ao}{base:bL}{Z:Ad}
theorem akK{ks:List Int}{x y:Int}:∀ {j:Nat},get (jQ ks j) x=some y->∃i:Nat,i<j/\y=(i:Int)/\ks.getD i 0=x
 | 0,h=>by cases h
 |j+1,h=>by
  rw[MR,UX]at h
  split at h
  ·rename_i e
   cases h
   exact⟨j,II _,rfl,e.symm⟩
  ·obtain⟨i,h1,h2,h3⟩:=akK h
   exact⟨i,ab5 h1,h2,h3⟩
theorem avH{ns tk ts:List Int}{n:Nat}(hn:1<=n)(hb:∀k∈ns,0<=k/\k<=999)(htk:tk.Perm ((bh ns).map (·.1)))(mz:ts.Perm ((bh ns).map (·.1)))(BN:ts.Pairwise fun a b=>-(ns.count a:Int)*1000+a<=-(ns.count b:Int)*1000+b) :
  Ib ns (kr (tk.filter fun k=>decide ((ns.count k:Int)=most ns)) (cO (ts.drop (tk.filter fun k=>decide ((ns.count k:Int)=most ns)).length) fun k=>ns.count k) (most ns-1).toNat n) (n:Int):=by
 by_cases h0:ns=[]
 ·subst h0
  have e1:tk=[]:=amz (by rw[htk.length_eq];rfl)
  have e2:ts=[]:=amz (by rw[mz.length_eq];rfl)
  subst e1 e2
  exact⟨List.Perm.refl _,rfl,.inl rfl⟩
 obtain⟨D,hp⟩:=avG h0 hb htk mz BN
 have Ac:=aaJ htk
 have hmn:1<=most ns:=by
  obtain⟨k,hk,e⟩:=Al h0
  have:0<ns.count k:=A3.mpr hk
  omega
 generalize tk.filter (fun k=>decide ((ns.count k:Int)=most ns))=aI at *
 generalize cO (ts.drop aI.length) (fun k=>ns.count k)=t at *
 have hS:(((most ns-1).toNat:Nat):Int)=most ns-1:=by omega
 generalize (most ns-1).toNat=S at *
 refine⟨(axR D).trans hp,DQ.mpr fun j hj=>?_,?_⟩
 ·unfold near
  by_cases hx:(kr aI t S n).getD j 0≠-1
  ·cases hg:get (jQ (kr aI t S n) j) ((kr aI t S n).getD j 0) with
   |none=>simp
   |some y=>
    obtain⟨i,hi,rfl,e⟩:=akK hg
    have h1:(kr aI t S n)[i]?=some ((kr aI t S n).getD j 0):=by
     rw[<- e,eX,bZ (by omega)]
     rfl
    have h2:(kr aI t S n)[j]?=some ((kr aI t S n).getD j 0):=by
     rw[eX,bZ hj]
     rfl
    have h3:=axP D hn hi hx h1 h2
    have h4:decide ((j:Int)-(i:Int)<(n:Int))=false:=decide_eq_false (by omega)
    simp only[ux,h4,HV]
  ·rw[decide_eq_false hx,iQ]
 ·rcases axQ D (n:=n)with h | h
  ·left
   have:=hp.length_eq
   rw[bW,aiG]at this
   rw[h,this]
  ·right
   unfold sI
   rw[if_neg h0,h,<- Ac,<- hS]
   push_cast
   rfl
theorem akR(t:List Int)(s S:Nat)(hS:1<=S):(Tl.stepI t s S).length<=t.length:=by
 have h1:=abO (fun k=>t[s+S*k]?) (bT ((t.length-s+S-1)/S))
 unfold Tl.stepI
 refine fP h1 ?_
 rw[um]
 rcases Nat.eq_zero_or_pos (t.length-s)with z | z
 ·rw[z,Oc (by omega)]
  exact fz _
 ·have:(t.length-s+S-1)/S<=t.length-s:=by
   rw[Nat.div_le_iff_le_mul (by omega)]
   have:t.length-s<=(t.length-s)*S:=ab4 _ (by omega)
   omega
  omega
theorem LV{n:Nat}(h:n<=100000):n<=sizeLine:=fP h (by decide)
theorem Z7{aI t:List Int}{S n:Nat}(hS:1<=S)(h1:aI.length<=63)(h2:t.length<=63)(hn:n<=1000):∀i:Nat,(((bT i).map (jl aI t S n)).flatten).length<=i*1000
 | 0=>by simp
 |i+1=>by
  have h3:=Z7 hS h1 h2 hn i
  have h4:=aaC aI t S n i
  have h5:=akR t i S hS
  rw[xE,fD,xB,bW]
  simp only[dM,N4,jG,List.flatten_nil,Iu]
  omega
theorem akz(aI t:List Int)(S n i:Nat):((bT (i+1)).map (jl aI t S n)).flatten=(((bT i).map (jl aI t S n)).flatten++(aI++Tl.stepI t i S))++fj (n-(aI++Tl.stepI t i S).length) (-1):=by
 rw[xE,fD,xB]
 simp only[dM,N4,jG,List.flatten_nil,Iu]
 unfold jl
 simp only[fZ]
noncomputable def axH(TB:aa):Sp:=fun vs H Q _=>∃(d:aa) (ns:List Int) (n:Nat),vs=[.ref d,.int n]/\H d=some (.dK (kvs (bh ns)))/\ns.length<=63/\(∀n∈ns,0<=n/\n<=999)/\(1<=n/\n<=1000)/\nR TB H/\
 ∀(l:aa) (ks:List Int) (H':Hp),ak H H'->H l=none->Ib ns ks n->ks.length<=100000->H' l=some (.lst (ks.map V.int))->Q (.ref l) H'
theorem Ax:bU ["numbers","apart","top","others","stretches","row","start","stretch"] ["numbers","apart"] (az wP):=⟨rfl,rfl,rfl,by decide +kernel,rfl,by decide +kernel,by decide +kernel⟩
theorem atW(T:Txt K mg Z):bD P w K mg base bK 4 Z.UK Z.Tn ["numbers","apart"] (axH Z.qO):=by
 have NL:=ai7 (P:=P) (w:=w) (base:=base) T
 have NH:=Mm (P:=P) (w:=w) (base:=base) T
 have NJ:=ai5 (P:=P) (w:=w) (base:=base) T
 have C4:=ZK (P:=P) (w:=w) (base:=base) T
 refine T.Hv.fn.ok Ax (fun vs H Q E h=>?_) (fun bg A outer s H vs Q E hr h=>?_)
 ·obtain⟨d,ns,n,rfl,_⟩:=h
  rfl
 ·obtain⟨d,ns,n,rfl,hd,hl,hb,hn,hP,k⟩:=h
  have m7:=nD ns
  have pC:H d=some (.dK (kvs (iW ((bh ns).map (·.1)) fun k=>(ns.count k:Int)))):=by rw[<- CL];exact hd
  refine⟨_,(aH (bR (i:=2) Ax.nd rfl (aT rfl) (aP NL (hr.mono (by decide)) rfl T.yT.mg T.yT.fn.kp T.yT.bd .nil aG (aj (pv 0) aq)))
   (aH (bR (i:=3) Ax.nd rfl (aT rfl) (aP NJ (hr.mono (by decide)) rfl T.yz.mg T.yz.fn.kp T.yz.bd .nil aG (aj (pv 0) (aj (sN tL (aP NH (hr.mono (by decide)) rfl T.xY.mg T.xY.fn.kp T.xY.bd .nil aG (aj (pv 0) aq)) (qz (bB dI rfl T.cW dh (aj (pv 2) aq))) vA) aq))))
   (aH (bR (i:=4) Ax.nd rfl (aT rfl) (bM mF (aP C4 (hr.mono (by decide)) rfl T.qp.mg T.qp.fn.kp T.qp.bd .nil aG (aj (pv 0) aq)) aD))
   (aH (bR (i:=5) Ax.nd rfl (aT rfl) (dD aq))
   (aH (iF iy rfl (Cr rfl T.xS (aj (pv 4) aq)) (cK (i:=6) Ax.nd rfl (aT rfl)) (aH (bR (i:=7) Ax.nd rfl (aT rfl) (bM yK (pv 2) (aup (pv 3) (pv 6) (pv 4))))
   (aH (fX (ie gT zw PySem.F.type_list_extend Cg (pv 5) (aj (pv 7) aq)))
   (aJ (fX (ie gT zw PySem.F.type_list_extend Cg (pv 5) (aj (bM ZM (dD (aj (yM (v:=.int (-1)) rfl T.LJ ⟨_,rfl⟩) aq)) (bM mF (pv 1) (bB dI rfl T.cW dh (aj (pv 7) aq)))) aq)))))))
   (aH (fX (ie gT zw PySem.F.type_list_extend Cg (pv 5) (aj (pv 2) aq)))
   (aJ (aY (pv 5))))))))),?_⟩
  refine⟨_,rfl,d,ns,rfl,hd,hl,fun l1 tk H1 htk pI s1 Ld h1=>?_⟩
  refine⟨_,rfl,_,rfl,d,_,_,rfl,s1 d _ pC,by rw[aC];omega,fun x hx=>hb x (gZ.mp hx),hP.same s1,fun l2 ts H2 s2 azp mz BN h2=>?_⟩
  have GS:=avH hn.1 hb htk mz BN
  have Ac:=aaJ htk
  have z7:∀us:List Int,(cO us fun k=>((ns.count k:Int)).toNat)=cO us fun k=>ns.count k:=fun us=>by
   unfold cO
   simp
  refine⟨_,rfl,l1,_,rfl,.inl (.of (s2 l1 _ h1)),_,rfl,l2,_,rfl,.of h2,fun q hq=>?_⟩
  rw[aC,Jd]
  have pe:=s2 l1 _ h1
  have hdt:(cO (ts.drop (tk.filter fun k=>decide ((ns.count k:Int)=most ns)).length) fun k=>ns.count k).length<=63:=by
   have e:=congrArg N3 (LP (ts.take (tk.filter fun k=>decide ((ns.count k:Int)=most ns)).length) (ts.drop (tk.filter fun k=>decide ((ns.count k:Int)=most ns)).length) fun k=>ns.count k)
   rw[oR,bW,(aiz (mz.nodup_iff.mpr (ok ns).nd) fun x=>(mz.mem_iff).trans gZ).length_eq]at e
   omega
  have htp:(tk.filter fun k=>decide ((ns.count k:Int)=most ns)).length<=63:=by
   have:=IB (fun k=>decide ((ns.count k:Int)=most ns)) tk
   have:=htk.length_eq
   rw[aC]at this
   omega
  have hdr:∀x∈ts.drop (tk.filter fun k=>decide ((ns.count k:Int)=most ns)).length,x∈(bh ns).map (·.1):=fun x hx=>mz.mem_iff.mp (amM hx)
  generalize tk.filter (fun k=>decide ((ns.count k:Int)=most ns))=aI at *
  generalize ts.drop aI.length=us at *
  have dX:=s1.trans s2
  have dJ:=dX.upd (o:=.lst (us.map V.int)) (dX.free hq)
  have oq:(upd H2 q (.lst (us.map V.int))) q=some (.lst (us.map V.int)):=au
  have h13:(upd H2 q (.lst (us.map V.int))) l1=some (.lst (aI.map V.int)):=by rw[aA (bf pe hq)];exact pe
  generalize upd H2 q (.lst (us.map V.int))=H3 at dJ oq h13
  have Vl:∀x∈us,(0:Int)<=(ns.count x:Int)/\(ns.count x:Int)<=1000:=fun x _=>by
   have:=A2 (a:=x) (l:=ns)
   omega
  refine⟨d,q,_,us,_,rfl,dJ d _ pC,oq,hdr,Vl,by rw[z7];omega,fun t H4 s4 pG h4=>?_⟩
  rw[z7]at h4
  generalize cO us (fun k=>ns.count k)=TH at *
  have eN:=dJ.trans s4
  refine⟨_,rfl,d,_,_,rfl,eN d _ pC,fun k _=>by show(0:Int)<=(ns.count k:Int);omega,fun H5 s5=>⟨_,_,rfl,rfl,?_⟩⟩
  rw[Zm]
  have jB:=eN.trans s5
  refine⟨fz _,fun r su=>?_⟩
  have qD:ak H (upd H5 r (.lst [])):=jB.upd (jB.free su)
  have Ev:=s5 l1 _ (s4 l1 _ h13)
  have BW:=s5 t _ h4
  have n1r:l1≠r:=bf Ev su
  have ZB:t≠r:=bf BW su
  have hmm:most ns<=63:=by
   by_cases z:ns=[]
   ·rw[z,Zd];omega
   ·obtain⟨k0,_,e0⟩:=Al z
    have:=A2 (a:=k0) (l:=ns)
    omega
  have EN:=L7 ns
  refine⟨_,rfl,_,rfl,by omega,by omega,?_⟩
  generalize hSt:(most ns-1).toNat=S at GS ⊢
  have hS1:(S:Int)=most ns-1\/S=0:=by omega
  refine En (lo:=0) (n:=S) (fun i σ H7=>(∃v6 v7:Option V,σ=[some (.ref d),some (.int n),some (.ref l1),some (.ref t),some (.int (most ns-1)),some (.ref r),v6,v7])/\ak H H7/\H7 l1=some (.lst (aI.map V.int))/\H7 t=some (.lst (TH.map V.int))/\H7 r=some (.lst ((((bT i).map (jl aI TH S n)).flatten).map V.int)))
   ⟨⟨none,none,rfl⟩,qD,by rw[aA n1r];exact Ev,by rw[aA ZB];exact BW,au⟩ (fun i σ H7 uX hP=>?_) (fun σ H7 hP=>?_)
  ·obtain⟨⟨v6,v7,rfl⟩,s7,KH,Ab,EW⟩:=hP
   have eS:most ns-1=(S:Int):=by omega
   have hS:1<=S:=by omega
   rw[eS]
   have b1:=Z7 (n:=n) hS htp hdt hn.2 (i+1)
   rw[akz,bW,bW,rH]at b1
   have b2:=akR TH i S hS
   have b0:S<=62:=by omega
   have b3:(i+1)*1000<=62000:=by omega
   refine⟨_,rfl,_,rfl,_,rfl,_,rfl,_,_,rfl,rfl,by omega,by omega,t,_,rfl,.of Ab,fun u hu=>?_⟩
   have ei:(0:Int)+(i:Int)=((i:Nat):Int):=by omega
   rw[ei,akU TH hS]
   have s8:=s7.upd (o:=.lst ((Tl.stepI TH i S).map V.int)) (s7.free hu)
   have hu8:(upd H7 u (.lst ((Tl.stepI TH i S).map V.int))) u=some (.lst ((Tl.stepI TH i S).map V.int)):=au
   have Bu:(upd H7 u (.lst ((Tl.stepI TH i S).map V.int))) l1=some (.lst (aI.map V.int)):=by rw[aA (bf KH hu)];exact KH
   have qh:(upd H7 u (.lst ((Tl.stepI TH i S).map V.int))) t=some (.lst (TH.map V.int)):=by rw[aA (bf Ab hu)];exact Ab
   have Lo:(upd H7 u (.lst ((Tl.stepI TH i S).map V.int))) r=some (.lst ((((bT i).map (jl aI TH S n)).flatten).map V.int)):=by rw[aA (bf EW hu)];exact EW
   generalize upd H7 u (.lst ((Tl.stepI TH i S).map V.int))=H8 at s8 hu8 Bu qh Lo
   refine⟨l1,u,_,_,rfl,rfl,Bu,hu8,?_,fun p hp=>?_⟩
   ·simp only[aC]
    exact yC (by omega)
   rw[<- fD]
   generalize hSG:aI++Tl.stepI TH i S=SG at *
   have s9:=s8.upd (o:=.lst (SG.map V.int)) (s8.free hp)
   have VX:(upd H8 p (.lst (SG.map V.int))) p=some (.lst (SG.map V.int)):=au
   have h19:(upd H8 p (.lst (SG.map V.int))) l1=some (.lst (aI.map V.int)):=by rw[aA (bf Bu hp)];exact Bu
   have ht9:(upd H8 p (.lst (SG.map V.int))) t=some (.lst (TH.map V.int)):=by rw[aA (bf qh hp)];exact qh
   have V2:(upd H8 p (.lst (SG.map V.int))) r=some (.lst ((((bT i).map (jl aI TH S n)).flatten).map V.int)):=by rw[aA (bf Lo hp)];exact Lo
   have ahg:=Lo
   generalize upd H8 p (.lst (SG.map V.int))=H9 at s9 VX h19 ht9 V2
   generalize hRW:((bT i).map (jl aI TH S n)).flatten=RW at *
   have hrH:H r=none:=jB.free su
   refine⟨_,rfl,ir V2,_,rfl,r,p,_,_,rfl,rfl,V2,VX,?_,?_⟩
   ·simp only[aC]
    exact LV (by omega)
   rw[<- fD]
   have ig:=s9.upd (o:=.lst ((RW++SG).map V.int)) hrH
   have EV:(upd H9 r (.lst ((RW++SG).map V.int))) r=some (.lst ((RW++SG).map V.int)):=au
   have npr:p≠r:=fun z=>by rw[z]at hp;rw[hp]at ahg;cases ahg
   have n1:l1≠r:=n1r
   have VW:(upd H9 r (.lst ((RW++SG).map V.int))) p=some (.lst (SG.map V.int)):=by rw[aA npr];exact VX
   have Eu:(upd H9 r (.lst ((RW++SG).map V.int))) l1=some (.lst (aI.map V.int)):=by rw[aA n1];exact h19
   have E3:(upd H9 r (.lst ((RW++SG).map V.int))) t=some (.lst (TH.map V.int)):=by rw[aA ZB];exact ht9
   generalize upd H9 r (.lst ((RW++SG).map V.int))=fh at ig EV VW Eu E3
   refine⟨_,rfl,ir EV,by show 1<=aX;decide,fun m hm=>?_⟩
   have nrm:r≠m:=bf EV hm
   have npm:p≠m:=bf VW hm
   refine⟨_,rfl,_,rfl,p,_,rfl,.inl (.of (by rw[aA npm];exact VW)),_,_,rfl,rfl,m,_,[.int (-1)],rfl,rfl,au,?_,?_,?_,fun e he=>?_⟩
   ·rw[aC];omega
   ·rw[aC];omega
   ·rw[aC]
    exact LV (by show 1*_<=_;omega)
   have lK:=ig.upd (o:=.lst [.int (-1)]) (ig.free hm)
   have nre:r≠e:=bf (show(upd fh m (.lst [.int (-1)])) r=_ by rw[aA nrm];exact EV) he
   refine⟨r,e,_,_,rfl,rfl,by rw[aA nre,aA nrm];exact EV,au,?_,?_⟩
   ·rw[CB]
    simp only[aC,rH,bW]
    exact LV (by omega)
   have mK:=lK.upd (o:=.lst (fj ((n:Int)-((SG.map V.int).length:Int)).toNat [V.int (-1)]).flatten) (lK.free he)
   refine⟨⟨_,_,rfl⟩,mK.upd hrH,?_,?_,?_⟩
   ·rw[aA n1,aA (bf (show(upd fh m (.lst [.int (-1)])) l1=_ by rw[aA (bf Eu hm)];exact Eu) he),aA (bf Eu hm)]
    exact Eu
   ·rw[aA ZB,aA (bf (show(upd fh m (.lst [.int (-1)])) t=_ by rw[aA (bf E3 hm)];exact E3) he),aA (bf E3 hm)]
    exact E3
   ·rw[au,akz,hSG,hRW,CB,aC]
    have:((n:Int)-(SG.length:Int)).toNat=n-SG.length:=by omega
    rw[this]
    simp only[fD,N5]
  ·obtain⟨⟨v6,v7,rfl⟩,s7,KH,Ab,EW⟩:=hP
   have hrl:((((bT S).map (jl aI TH S n)).flatten).length)<=62*1000:=by
    rcases Nat.eq_zero_or_pos S with z | z
    ·rw[z];simp
    ·have:=Z7 (n:=n) z htp hdt hn.2 S
     omega
   refine⟨_,rfl,ir EW,_,rfl,r,l1,_,_,rfl,rfl,EW,KH,?_,?_⟩
   ·simp only[aC]
    exact LV (by omega)
   refine⟨_,rfl,k r _ _ (s7.upd (jB.free su)) (jB.free su) GS ?_ ?_⟩
   ·unfold kr
    rw[bW]
    omega
   ·rw[au,<- fD]
    rfl
noncomputable def axI(C TB:aa):Sp:=fun vs H Q _=>∃(a:aa) (ns:List Int) (n:Int),vs=[.ref a,.int n]/\H a=some (.lst (ns.map V.int))/\ns.length<=63/\(∀n∈ns,0<=n/\n<=999)/\(1<=n/\n<=1000)/\nR TB H/\
 ∀(p l:aa) (ks:List Int) (H':Hp),ak H H'->H p=none->H l=none->lO C H' p l ks->Ib ns ks n->Q (.ref p) H'
theorem avA:bU ["heap","apart"] ["heap","apart"] (az wQ):=⟨rfl,rfl,rfl,by decide +kernel,rfl,by decide +kernel,by decide +kernel⟩
theorem atX(T:Txt K mg Z):bD P w K mg base bK 5 Z.UL Z.To ["heap","apart"] (axI Z.iz Z.qO):=by
 have uf:=FZ (P:=P) (w:=w) (base:=base) T
 have NG:=ai2 (P:=P) (w:=w) (base:=base) T
 have jF:=vp (P:=P) (w:=w) (base:=base) T
 have amn:=atW (P:=P) (w:=w) (base:=base) T
 have ND:=aiZ (P:=P) (w:=w) (base:=base) T
 refine T.Hw.fn.ok avA (fun vs H Q E h=>?_) (fun bg A outer s H vs Q E hr h=>?_)
 ·obtain⟨a,ns,n,rfl,_⟩:=h
  rfl
 ·obtain⟨a,ns,n,rfl,ha,hl,hb,hn,hP,k⟩:=h
  refine⟨_,(aH (fX (aP uf (hr.mono (by decide)) rfl T.kH.mg T.kH.fn.kp T.kH.bd .nil aG (aj (pv 0) aq)))
   (aH (fX (aP NG (hr.mono (by decide)) rfl T.xW.mg T.xW.fn.kp T.xW.bd .nil aG (aj (pv 1) aq)))
   (aJ (aY (iO T.Wd ND (hr.mono (by decide)) rfl T.Y4 T.IS.bd .nil aG (aj (aP amn (hr.mono (by decide)) rfl T.Hv.mg T.Hv.fn.kp T.Hv.bd .nil aG (aj (aP jF (hr.mono (by decide)) rfl T.eV.mg T.eV.fn.kp T.eV.bd .nil aG (aj (pv 0) aq)) (aj (pv 1) aq))) aq)))))),?_⟩
  refine⟨_,rfl,a,ns,rfl,ha,by omega,hb,fun H1 s1=>?_⟩
  refine⟨_,rfl,n,rfl,hn,?_⟩
  refine⟨_,rfl,a,ns,rfl,.of (s1 a _ ha),by omega,fun d H2 hd s2 h2=>?_⟩
  have dX:=s1.trans s2
  obtain⟨m,rfl⟩:∃m:Nat,n=(m:Int):=⟨n.toNat,by omega⟩
  refine⟨_,rfl,d,ns,m,rfl,h2,hl,hb,⟨by omega,by omega⟩,hP.same dX,fun l ks H3 s3 bS GS VG h3=>?_⟩
  have dJ:=dX.trans s3
  intro x dx hx dW yI
  refine⟨x,dx,l,ks,rfl,au,iD hx dW h3,by omega,fun l2 H5 hk cE kd=>⟨rfl,?_⟩⟩
  exact k x l2 ks H5 (iN dJ hx dW hk) (dJ.free hx) (nk dJ cE) kd GS
end
end K7
set_option maxHeartbeats 4000000
namespace L2
open PySem PySem.Spec PyProof.Rows PySem.W
theorem aqs{P:cH}{w:cj}{K:bG}{mg mb:Str->Option ao}{k:Nat}{fa a c TB:aa}{fd:bE}{x lq:Str}{lp:Pos}{sp:Sp}{s₁:aB}{vs:List ao}{ns:List Int}
  (KX:K.In s₁.heap) (yr:s₁.heap.Ns bx mg) (hb:s₁.heap.Ns uK mb) (By:∀x:Str,x≠"__name__"->mb x=xT x) (apg:s₁.heap.NoLimit)
  (rX:∃bm o,mg "__builtins__" = some (.ref bm)/\bm≠uK/\s₁.heap.get? bm=some o/\o.cls=.type "module"/\o.dict=some uK/\o.data=.plain) (hg:s₁.gens=#[])
  (jd:CodeHd s₁.heap c TB) (zT:s₁.heap.get? TB=some (tV #[])) (hKT:K.lookup TB=none)
  (ha:s₁.heap.get? a=some {cls:=.type "list",data:=.seq vs.toArray}) (hi:nJ vs ns) (hl:ns.length<=aX) (hr:gr k Bj)
  (F:∀base:bL,K.In base->base.Ns bx mg->bD P w K mg base bK k fa fd [x] sp) (zX:∀(s:aB) (u:ao),CY s fd ⟨[u],[]⟩ [(x,u)])
  (sA:∀H:Hp,dO K H a (ns.map V.int)->H TB=some (.dU lq lp)->sp [.ref a] H (fun v H'=>v=.bl true/\H' TB=some (.dU lq lp)) fun _ _ _=>False) :
  mX (aN P w) Bj (.call (.ref fa) ⟨[.ref a],[]⟩) (fun r s'=>r=.ok (.ret (.bool true))/\OldK s₁.heap s'.heap/\s'.os=s₁.os/\xm s'.gens) s₁:=by
 have rv:=HM hi
 have aqA:=hi.length
 have naT:a≠TB:=fun z=>by
  rw[z,zT]at ha
  exact absurd (congrArg (fun o:Option Obj=>o.map (·.cls)) ha) (by simp)
 have aei:∀H:Hp,(∀b,H b=none\/∃o xs,H b=some (.cC o (.lst xs)))->dO K H a (ns.map V.int)->eW P w H s₁.heap->(∀b,H b≠none->b=a)->(H a≠none->K.lookup a=none)->
   mX (aN P w) Bj (.call (.ref fa) ⟨[.ref a],[]⟩) (fun r s'=>r=.ok (.ret (.bool true))/\OldK s₁.heap s'.heap/\s'.os=s₁.os/\xm s'.gens) s₁:=by
  intro H0 hO hS0 apv KI hK0
  have hT0:H0 TB=none:=by
   cases q:H0 TB with
   |none=>rfl
   |some u=>exact absurd (KI TB (by rw[q];simp)).symm naT
  have sm:ak H0 (upd H0 TB (.dU lq lp)):=(ak.refl H0).upd hT0
  have hS:=sm.seq hS0
  have hT:(upd H0 TB (.dU lq lp)) TB=some (.dU lq lp):=au
  have hA:∀b,(upd H0 TB (.dU lq lp)) b≠none->b=a\/b=TB:=fun b hb=>by
   by_cases z:b=TB
   ·exact .inr z
   ·rw[aA z]at hb
    exact .inl (KI b hb)
  have hok:eW P w (upd H0 TB (.dU lq lp)) s₁.heap:=fun b u e=>by
   by_cases z:b=TB
   ·subst z
    rw[au]at e
    cases e
    exact⟨#[],zT,trivial,fun cv BB=>by cases BB⟩
   ·rw[aA z]at e
    exact(apv b u e).stay (fun _ _ _ q=>q) (fun c q=>sm c _ q) fun c xs q=>sm c _ q
  generalize U3:upd H0 TB (.dU lq lp)=H at sm hS hT hA hok
  have O8:∀ {b:aa} {o:Obj},s₁.heap.get? b=some o->H b=none->(rZ s₁.heap H).get? b=some o:=fun e n=>aoT e n
  have off:∀ {b:aa} {o:Obj},s₁.heap.get? b=some o->o.cls≠.none->(H a≠none->b≠a)->H b=none:=fun {b o} e hc hba=>by
   cases q:H b with
   |none=>rfl
   |some u=>
    rcases hA b (by rw[q];simp)with e' | e'
    ·exact absurd e' (hba (by rw[<- e',q];simp))
    ·rw[e',zT]at e
     cases e
     exact absurd rfl hc
  have vo:∀ {b:aa} {o:Obj} {es:Array DictEntry} {ep:Nat},s₁.heap.get? b=some o->o.data=.dict es ep->H b=none:=fun {b o es ep} e d=>by
   cases q:H b with
   |none=>rfl
   |some u=>
    rcases hA b (by rw[q];simp)with e' | e'
    ·subst e'
     rw[ha]at e;cases e
     have d':Data.seq vs.toArray _=Data.dict es ep:=d
     cases d'
    ·subst e'
     rw[zT]at e;cases e
     have d':HW _=Data.dict es ep:=d
     cases d'
  have Mi:∀ {b:aa} {m:Str->Option ao},s₁.heap.Ns b m->(rZ s₁.heap H).Ns b m:=fun {b m} ⟨o,es,ep,e,d,r⟩=>⟨o,es,ep,O8 e (vo e d),d,r⟩
  have hKb:K.In (rZ s₁.heap H):=fun b o e=>O8 (KX b o e) (by
   cases q:H b with
   |none=>rfl
   |some u=>
    rcases hA b (by rw[q];simp)with e' | e'
    ·subst e'
     rw[hK0 (by rw[<- U3,aA naT]at q;rw[q];simp)]at e;cases e
    ·subst e'
     rw[hKT]at e;cases e)
  have aoE:∃bm o,mg "__builtins__" = some (.ref bm)/\bm≠uK/\(rZ s₁.heap H).get? bm=some o/\o.cls=.type "module"/\o.dict=some uK/\o.data=.plain:=by
   obtain⟨bm,o,b1,b2,b4,b5,b6,b7⟩:=rX
   refine⟨bm,o,b1,b2,O8 b4 ?_,b5,b6,b7⟩
   cases q:H bm with
   |none=>rfl
   |some u=>
    rcases hA bm (by rw[q];simp)with e' | e'
    ·subst e'
     rw[ha]at b4;cases b4
     cases b7
    ·subst e'
     rw[zT]at b4;cases b4
     cases b7
  have hM:Mod K mg (rZ s₁.heap H):=⟨hKb,Mi yr,⟨mb,Mi hb,By⟩,let ⟨mc,h1,h2⟩:=apg;⟨mc,Mi h1,h2⟩,aoE⟩
  have e0:yZ P w K mg (rZ s₁.heap H) Bj [] s₁ H:=⟨rfl,hM,fun b o e=>atg e,Od (aoU _ _),trivial,fun b hb=>absurd (show b∈([]:List aa)from hb) (by simp),hok,.of_eq hg⟩
  refine RY ((F _ hKb (Mi yr)).run Bj [] s₁ H ⟨[.ref a],[]⟩ [.ref a] [.ref a] _ _ hr e0 (zX s₁ (.ref a)) (.cons rfl .nil) (sA H hS hT)) fun r s' h=>?_
  cases r with
  |error e=>exact jT h
  |ok fl=>
   cases fl with
   |next=>exact jT h
   |brk=>exact jT h
   |cont=>exact jT h
   |ret u=>
    obtain⟨v,H',os,bare,un,ahc,r',q⟩:=h
    obtain⟨q',qT⟩:=q
    subst q'
    obtain rfl:u=uF true:=r'
    have air:∀b o,b≠TB->s₁.heap.get? b=some o->s'.heap.get? b=some o:=fun b o hbT e=>by
     cases q:H b with
     |none=>exact un.keep b o e q (by intro z;exact absurd (show b∈([]:List aa)from z) (by simp)) (by simp)
     |some u=>
      rw[<- U3,aA hbT]at q
      rcases hO b with z | ⟨ob,xs,z⟩
      ·rw[q]at z;cases z
      ·have zH:H b=some (.cC ob (.lst xs)):=by rw[<- U3,aA hbT];exact z
       have z2:=un.mY b ob _ zH
       obtain⟨e1,_⟩:=hok b _ zH
       obtain⟨e2,_⟩:=ahc b _ z2
       rw[e]at e1;cases e1
       exact e2
    obtain⟨ps,yt,_⟩:=(show cD P w H' s'.heap TB (.dU lq lp)from ahc TB _ qT)
    refine⟨rfl,⟨fun b o e=>?_,fun b o e=>?_⟩,os,bare⟩
    ·by_cases z:b=TB
     ·subst z
      rw[zT]at e
      cases e
      exact .inr (.inl ⟨(jd.tab zT).isCodeTable,rfl,#[],ps,rfl,by simpa using yt⟩)
     ·exact .inl (air b o z e)
    ·by_cases z:b=TB
     ·subst z;exact⟨_,yt⟩
     ·exact⟨o,air b o z e⟩
 cases hk:K.lookup a with
 |some o=>
  have e:=KX a o hk
  rw[ha]at e
  cases e
  refine aei (fun _=>none) (fun _=>.inl rfl) (.inr ⟨_,vs.toArray,_,hk,rfl,rfl,rfl,by rw[cV,aqA];exact hl,by simpa using rv⟩) (fun b u z=>by have z':(none:Option HO)=some u:=z;cases z') (fun b z=>absurd rfl z) fun z=>absurd rfl z
 |none=>
  refine aei (fun b=>if b=a then some (.cC {cls:=.type "list",data:=.seq vs.toArray} (.lst (ns.map V.int)))else none) (fun b=>?_) (.inl (.inr ⟨{cls:=.type "list",data:=.seq vs.toArray},if_pos rfl⟩)) (fun b u z=>?_) (fun b z=>?_) fun _=>hk
  ·by_cases hb:b=a
   ·exact .inr ⟨_,_,if_pos hb⟩
   ·exact .inl (if_neg hb)
  ·by_cases hb:b=a
   ·have z':=(if_pos hb).symm.trans z
    cases z'
    subst hb
    exact⟨ha,by rw[aC];exact hl,vs,_,rv,ha⟩
   ·have z':=(if_neg hb).symm.trans z
    cases z'
  ·by_cases hb:b=a
   ·exact hb
   ·exact absurd (if_neg hb) z
theorem ay9{l:acs}{n k:Nat}{q:cH}{Ce:List Str}{XP:(Str->Option ao)->bL->Prop}{YP:cj->bL->Prop}{d d2:DefRec}{K:Params->bG}{sp:cj->aa->Sp}{x nm lq:Str}{lp:Pos}
  (hn:l.most=some n) (ER:n<=aX) (EE:d.params.defaults=[]) (hr:gr k Bj)
  (hY:∀(w:cj) (h:bL),YP w h->(K w.params).In h) (EY:(recsOf q).find? (fun e=>e.name == nm)=some d2)
  (F:∀(w:cj) (mg:Str->Option ao) (fa:aa) (h:bL),(K w.params).In h->h.Ns bx mg->mg d.name=some (.ref fa)->
   ∃(fd:bE) (c TB:aa),tabIn (K w.params) nm=some (c,TB)/\(K w.params).lookup TB=none/\(∀(s:aB) (u:ao),CY s fd ⟨[u],[]⟩ [(x,u)])/\
    ∀base:bL,(K w.params).In base->base.Ns bx mg->bD l.prog w (K w.params) mg base bK k fa fd [x] (sp w TB))
  (sA:∀(w:cj) (TB:aa) (H:Hp) (a:aa) (ns:List Int),ns.length<=n->dO (K w.params) H a (ns.map V.int)->H TB=some (.dU lq lp)->sp w TB [.ref a] H (fun v H'=>v=.bl true/\H' TB=some (.dU lq lp)) fun _ _ _=>False) :
  PySem.W.WalkO q Ce XP YP l.row.toRowW d [] (fun f vs=>acC f vs):=by
 refine Att.anl hn EE fun w s₀ s₁ mg mb fa o pm cd doc a vs ns G Y ho hd jd EQ VU VD bC hg=>?_
 have KX:=hY w _ Y
 obtain⟨fd,c,TB,hti,hkt,hb,hF⟩:=F w mg fa _ KX G.T.g EQ
 obtain⟨t1,t2⟩:=tab_of G.T KX EY hti
 exact aqs KX G.T.g G.T.b G.T.builtins G.T.nolimit G.T.bmain hg t1 t2 hkt VU VD (fP bC ER) hr hF hb fun H hS hT=>sA w TB H a ns bC hS hT
theorem anz{K:Frag}{c P:aa}{od:Option aa}{sl:Array (Option ao)}{u0 u1 u2 u3 u4 u5 u6 u8 u12 u13 u14 u15 u16 u17:ao}{i7 Wb:Int}{t7 t10 t18:Tok}{b9:Bool}{s18:Str}
  (lc:K.lookup c=some ⟨.type "code",od,.fields ⟨[u0,u1,u2,u3,u4,u5,u6,.int i7 t7,u8,.bool b9,.int Wb t10,.ref P,u12,u13,u14,u15,u16,u17,.str s18 t18]⟩,sl⟩) (hn:K.lookup P=none):Bk K c P=true:=by
 have ne:(c != P)=true:=by
  rw[bne_iff_ne]
  rintro rfl
  rw[lc]at hn
  cases hn
 unfold Bk
 rw[lc]
 show(_&&_)=true
 rw[ne]
 have e1:((some (cI P):Option ao) == some (.ref P))=true:=beq_self_eq_true _
 have e2:(P == P)=true:=beq_self_eq_true _
 show((((((((("code" : String) == "code")&&((some (cI P):Option ao) == some (.ref P)))&&(P == P))&&true)&&true)&&true)&&true)&&true)=true
 rw[e1,e2]
 decide
theorem ayx{K:Frag}{x:Str}{f c P:aa}{od o2:Option aa}{sl s2:Array (Option ao)}{oc:ao}{fd:bE}{u0 u1 u2 u3 u4 u5 u6 u8 u12 u13 u14 u15 u16 u17:ao}{i7 Wb:Int}{t7 t10 t18:Tok}{b9:Bool}{s18:Str}
  (a:nsIn K bx x=some (some (.ref f))) (l:K.lookup f=some ⟨oc,o2,.func fd,s2⟩) (hc:fd.code=.ref c)
  (lc:K.lookup c=some ⟨.type "code",od,.fields ⟨[u0,u1,u2,u3,u4,u5,u6,.int i7 t7,u8,.bool b9,.int Wb t10,.ref P,u12,u13,u14,u15,u16,u17,.str s18 t18]⟩,sl⟩):tabIn K x=some (c,P):=by
 unfold tabIn
 rw[a]
 show(match K.lookup f with | some ⟨_,_,.func fd,_⟩=>_ | _=>none)=_
 rw[l]
 show(match fd.code with | .ref c=>_ | _=>none)=_
 rw[hc]
 show(match K.lookup c with | some ⟨_,_,.fields vs,_⟩=>_ | _=>none)=_
 rw[lc]
 rfl
theorem anF{K:Frag}{f:aa}{o2:Option aa}{s2:Array (Option ao)}{oc:ao}{fd:bE}(l:K.lookup f=some ⟨oc,o2,.func fd,s2⟩):codeOf K f=some fd.code:=by
 unfold codeOf
 rw[l]
end L2
set_option maxHeartbeats 1000000
namespace Bb
open PySem PyProof.Rows
noncomputable def gal:Bool->cL->Array cL->Nat->Nat->Nat->StateT cB Sem (Option Nat):=sortPriv% PySem.Builtin.gallop
noncomputable def mlo:Array cL->Array cL->StateT cB Sem (Array cL):=sortPriv% PySem.Builtin.mergeLo
noncomputable def mhi:Array cL->Array cL->StateT cB Sem (Array cL):=sortPriv% PySem.Builtin.mergeHi
noncomputable def zf(p:cL):Prop:=∃n t,p.1=.int n t
structure SF(a₀:Array cL)(st:cB):Prop where
 perm:(lV st).Perm a₀
 kind:kindOf st=Ga
 failed:zP st=none
theorem SF.size{a₀:Array cL}{st:cB}(h:SF a₀ st):(lV st).size=a₀.size:=h.perm.size_eq
theorem SF.set{a₀:Array cL}{st:cB}(h:SF a₀ st){xs:Array cL}(hp:xs.Perm (lV st)):SF a₀ (setArr st xs):=⟨hp.trans h.perm,h.kind,h.failed⟩
theorem SF.at{a₀:Array cL}{st:cB}(h:SF a₀ st)(h0:IntKeys a₀){i:Nat}(hi:i<a₀.size):∃p,(lV st)[i]?=some p/\zf p:=by
 have j4:i<(lV st).size:=by rw[h.size];exact hi
 have hm:(lV st)[i]∈a₀.toList:=(CW.mp h.perm).mem_iff.mp (by simp)
 exact⟨_,getElem?_pos _ i j4,h0 _ hm⟩
section
variable{prog:cH}{w:cj}{A:cS}{E:ao->aB->Prop}{s:aB}{a₀:Array cL}
theorem HP{st:cB}{x y:cL}{Q:Option Bool->cB->Prop}(hk:kindOf st=Ga)(hx:zf x)(hy:zf y)(h:∀b,Q (some b) st):wpS (aN prog w) A E s (lt' x y) Q st:=by
 obtain⟨a,t,e1⟩:=hx
 obtain⟨b,u,e2⟩:=hy
 rw[lt'_eq]
 refine aW (rm ?_)
 rw[hk,keyLt'_oneType,e1,e2]
 refine aW (AJ (aaV (oneLt_int ⟨rfl,?_⟩)))
 exact bF (h _)
theorem Ni{st:cB}{xs:Array cL}{i:Nat}{p:cL}{Q:cL->cB->Prop}(hp:xs[i]?=some p)(h:Q p st):wpS (aN prog w) A E s (elem' xs i) Q st:=by
 rw[elem'_eq,hp]
 exact bF h
theorem AF{st:cB}{i j:Nat}{Q:Option Bool->cB->Prop}(hF:SF a₀ st)(h0:IntKeys a₀)(hi:i<a₀.size)(hj:j<a₀.size)(h:∀b,Q (some b) st):wpS (aN prog w) A E s (ltAt' i j) Q st:=by
 obtain⟨p,e1,i1⟩:=hF.at h0 hi
 obtain⟨q,e2,i2⟩:=hF.at h0 hj
 rw[ltAt'_eq]
 refine aW (rm (aW (Ni e1 (aW (Ni e2 (HP hF.kind i1 i2 h))))))
theorem IntKeys.at{arr:Array cL}(h:IntKeys arr){i:Nat}(hi:i<arr.size):∃p,arr[i]?=some p/\zf p:=⟨_,getElem?_pos _ i hi,h _ (by simp)⟩
theorem HN{st:cB}{left:Bool}{key:cL}{arr:Array cL}{k:Nat}{Q:Option Bool->cB->Prop}(hk:kindOf st=Ga)(hi:zf key)(ha:IntKeys arr)(hl:k<arr.size)(h:∀b,Q (some b) st) :
  wpS (aN prog w) A E s (elem' arr k >>= fun x=>if left=true then lt' x key else lt' key x >>= fun b=>pure (ace (fun x=>!x) b)) Q st:=by
 obtain⟨p,e,ip⟩:=IntKeys.at ha hl
 refine aW (Ni e ?_)
 cases left with
 |true=>exact HP hk ip hi h
 |false=>exact aW (HP hk hi ip fun b=>bF (h _))
theorem CQ{st:cB}{left:Bool}{key:cL}{arr:Array cL}{base n hint:Nat}{Q:Option Nat->cB->Prop}(hk:kindOf st=Ga)(hi:zf key)(ha:IntKeys arr)(hn:base+n<=arr.size)(hh:hint<n)
  (h:∀k,k<=n->Q (some k) st):wpS (aN prog w) A E s (gal left key arr base n hint) Q st:=by
 refine aW (HN hk hi ha (by omega) fun right=>?_)
 cases right with
 |true=>
  dsimp +instances only
  rw[if_pos rfl]
  refine aW (lA (kB (I:=fun _ c aU=>aU=st/\∃qm oF,c=(none,qm,oF)) (Q:=fun c aU=>aU=st/\∃qm oF,c=(none,qm,oF)) ?_ (fun _ _ hh=>hh) ⟨rfl,0,1,rfl⟩) ?_)
  ·rintro x c aU _ _ ⟨rfl,qm,oF,rfl⟩
   dsimp +instances only
   by_cases fK:oF>=n-hint
   ·rw[if_pos fK]
    exact bF ⟨rfl,_,_,rfl⟩
   ·rw[if_neg fK]
    refine aW (HN hk hi ha (by omega) fun more=>?_)
    cases more with
    |true=>exact bF ⟨rfl,_,_,rfl⟩
    |false=>exact bF ⟨rfl,_,_,rfl⟩
  ·rintro c aU ⟨rfl,qm,oF,rfl⟩
   dsimp +instances only
   refine aW (lA (kB (I:=fun _ c e9=>e9=aU/\∃lo hi,c=(none,lo,hi)/\hi<=n) (Q:=fun c e9=>e9=aU/\∃lo hi,c=(none,lo,hi)/\hi<=n) ?_ (fun _ _ hh=>hh) ⟨rfl,_,_,rfl,by omega⟩) ?_)
   ·rintro x c e9 _ _ ⟨rfl,lo,j4,rfl,sq⟩
    dsimp +instances only
    by_cases fK:lo>=j4
    ·rw[if_pos fK]
     exact bF ⟨rfl,_,_,rfl,sq⟩
    ·rw[if_neg fK]
     refine aW (HN hk hi ha (by omega) fun more=>?_)
     cases more with
     |true=>exact bF ⟨rfl,_,_,rfl,sq⟩
     |false=>exact bF ⟨rfl,_,_,rfl,by omega⟩
   ·rintro c e9 ⟨rfl,lo,j4,rfl,sq⟩
    exact bF (h _ sq)
 |false=>
  dsimp +instances only
  rw[if_neg (by decide)]
  refine aW (lA (kB (I:=fun _ c aU=>aU=st/\∃qm oF,c=(none,qm,oF)) (Q:=fun c aU=>aU=st/\∃qm oF,c=(none,qm,oF)) ?_ (fun _ _ hh=>hh) ⟨rfl,0,1,rfl⟩) ?_)
  ·rintro x c aU _ _ ⟨rfl,qm,oF,rfl⟩
   dsimp +instances only
   by_cases fK:oF>=hint+1
   ·rw[if_pos fK]
    exact bF ⟨rfl,_,_,rfl⟩
   ·rw[if_neg fK]
    refine aW (HN hk hi ha (by omega) fun more=>?_)
    cases more with
    |true=>exact bF ⟨rfl,_,_,rfl⟩
    |false=>exact bF ⟨rfl,_,_,rfl⟩
  ·rintro c aU ⟨rfl,qm,oF,rfl⟩
   dsimp +instances only
   refine aW (lA (kB (I:=fun _ c e9=>e9=aU/\∃lo hi,c=(none,lo,hi)/\hi<=n) (Q:=fun c e9=>e9=aU/\∃lo hi,c=(none,lo,hi)/\hi<=n) ?_ (fun _ _ hh=>hh) ⟨rfl,_,_,rfl,by omega⟩) ?_)
   ·rintro x c e9 _ _ ⟨rfl,lo,j4,rfl,sq⟩
    dsimp +instances only
    by_cases fK:lo>=j4
    ·rw[if_pos fK]
     exact bF ⟨rfl,_,_,rfl,sq⟩
    ·rw[if_neg fK]
     refine aW (HN hk hi ha (by omega) fun more=>?_)
     cases more with
     |true=>exact bF ⟨rfl,_,_,rfl,sq⟩
     |false=>exact bF ⟨rfl,_,_,rfl,by omega⟩
   ·rintro c e9 ⟨rfl,lo,j4,rfl,sq⟩
    exact bF (h _ sq)
theorem dP{α:Type}{c:Prop}[Decidable c]{x y:StateT cB Sem α}{Q:α->cB->Prop}{st:cB}(h1:c->wpS (aN prog w) A E s x Q st)(h2:¬c->wpS (aN prog w) A E s y Q st):wpS (aN prog w) A E s (if c then x else y) Q st:=by
 by_cases h:c
 ·rw[if_pos h];exact h1 h
 ·rw[if_neg h];exact h2 h
theorem es4{T0 T1 T2 T3 C:Type}{p:Nat->T0->T1->T2->T3->Prop}{t:T0->T1->T2->T3->C}{S:cB->Prop}{L H:Nat->Prop}{G:Nat->C->cB->Prop}(k:∀x st x0 x1 x2 x3,H x->S st->p x x0 x1 x2 x3->G x (t x0 x1 x2 x3) st):∀x c st,L x->H x->(S st/\∃x0 x1 x2 x3,c=t x0 x1 x2 x3/\p x x0 x1 x2 x3)->G x c st:=by
 rintro x c st _ h ⟨q0,x0,x1,x2,x3,rfl,q⟩
 exact k _ _ _ _ _ _ h q0 q
theorem es5{T0 T1 T2 T3 T4 C:Type}{p:Nat->T0->T1->T2->T3->T4->Prop}{t:T0->T1->T2->T3->T4->C}{S:cB->Prop}{L H:Nat->Prop}{G:Nat->C->cB->Prop}(k:∀x st x0 x1 x2 x3 x4,H x->S st->p x x0 x1 x2 x3 x4->G x (t x0 x1 x2 x3 x4) st):∀x c st,L x->H x->(S st/\∃x0 x1 x2 x3 x4,c=t x0 x1 x2 x3 x4/\p x x0 x1 x2 x3 x4)->G x c st:=by
 rintro x c st _ h ⟨q0,x0,x1,x2,x3,x4,rfl,q⟩
 exact k _ _ _ _ _ _ _ h q0 q
theorem es6{T0 T1 T2 T3 T4 T5 C:Type}{p:Nat->T0->T1->T2->T3->T4->T5->Prop}{t:T0->T1->T2->T3->T4->T5->C}{S:cB->Prop}{L H:Nat->Prop}{G:Nat->C->cB->Prop}(k:∀x st x0 x1 x2 x3 x4 x5,H x->S st->p x x0 x1 x2 x3 x4 x5->G x (t x0 x1 x2 x3 x4 x5) st):∀x c st,L x->H x->(S st/\∃x0 x1 x2 x3 x4 x5,c=t x0 x1 x2 x3 x4 x5/\p x x0 x1 x2 x3 x4 x5)->G x c st:=by
 rintro x c st _ h ⟨q0,x0,x1,x2,x3,x4,x5,rfl,q⟩
 exact k _ _ _ _ _ _ _ _ h q0 q
theorem ep5{T0 T1 T2 T3 T4 U V C:Type}{p:T0->T1->T2->T3->T4->Prop}{t:T0->T1->T2->T3->T4->C}{p':U->V->Prop}{t':U->V->C}{S:cB->Prop}{G:C->cB->Prop}(k':∀st u v,S st->p' u v->G (t' u v) st)(k:∀st x0 x1 x2 x3 x4,S st->p x0 x1 x2 x3 x4->G (t x0 x1 x2 x3 x4) st):∀c st,(S st/\((∃u v,c=t' u v/\p' u v)\/∃x0 x1 x2 x3 x4,c=t x0 x1 x2 x3 x4/\p x0 x1 x2 x3 x4))->G c st:=by
 rintro c st ⟨q0,⟨u,v,rfl,q⟩ | ⟨x0,x1,x2,x3,x4,rfl,q⟩⟩
 ·exact k' _ _ _ q0 q
 ·exact k _ _ _ _ _ _ q0 q
theorem ep6{T0 T1 T2 T3 T4 T5 U V C:Type}{p:T0->T1->T2->T3->T4->T5->Prop}{t:T0->T1->T2->T3->T4->T5->C}{p':U->V->Prop}{t':U->V->C}{S:cB->Prop}{G:C->cB->Prop}(k':∀st u v,S st->p' u v->G (t' u v) st)(k:∀st x0 x1 x2 x3 x4 x5,S st->p x0 x1 x2 x3 x4 x5->G (t x0 x1 x2 x3 x4 x5) st):∀c st,(S st/\((∃u v,c=t' u v/\p' u v)\/∃x0 x1 x2 x3 x4 x5,c=t x0 x1 x2 x3 x4 x5/\p x0 x1 x2 x3 x4 x5))->G c st:=by
 rintro c st ⟨q0,⟨u,v,rfl,q⟩ | ⟨x0,x1,x2,x3,x4,x5,rfl,q⟩⟩
 ·exact k' _ _ _ q0 q
 ·exact k _ _ _ _ _ _ _ q0 q
theorem wG{α:Type}{X:Nat->StateT cB Sem α}{Q:α->cB->Prop}{st:cB}(h:∀g,wpS (aN prog w) A E s (X g) Q st):∀g g1:Nat,wpS (aN prog w) A E s (if g>1 then X g1 else X g) Q st:=
 fun _ _=>dP (fun _=>h _) (fun _=>h _)
theorem wJ{α β γ:Type}{c:Prop}[Decidable c]{R1:β->γ->Prop}{Y J:β->γ->StateT cB Sem α}{Q:α->cB->Prop}{st:cB}(R:β->γ->Prop)(h0:∀o i,R1 o i->R o i)
  (h1:(∀o i,R o i->wpS (aN prog w) A E s (J o i) Q st)->∀o i,R1 o i->wpS (aN prog w) A E s (Y o i) Q st) (h2:∀o i,R o i->wpS (aN prog w) A E s (J o i) Q st) :
  ∀o i,R1 o i->wpS (aN prog w) A E s (if c then Y o i else J o i) Q st:=
 fun o i r=>dP (fun _=>h1 h2 o i r) (fun _=>h2 o i (h0 o i r))
theorem jD{st:cB}{xs:Array cL}{i:Nat}{Q:cL->cB->Prop}(ha:IntKeys xs)(hi:i<xs.size)(h:∀p,xs[i]?=some p->zf p->Q p st):wpS (aN prog w) A E s (elem' xs i) Q st:=by
 obtain⟨p,e,ip⟩:=IntKeys.at ha hi
 exact Ni e (h p e ip)
structure SG(st aU:cB):Prop where
 kind:kindOf aU=kindOf st
 arr:lV aU=lV st
 pend:dF aU=dF st
 failed:zP aU=zP st
theorem SG.refl(st:cB):SG st st:=⟨rfl,rfl,rfl,rfl⟩
theorem SG.set{st aU:cB}(h:SG st aU)(g:Nat):SG st (SortSt.mk' (kindOf aU) (lV aU) (dF aU) g (zP aU)):=⟨h.kind,h.arr,h.pend,h.failed⟩
noncomputable def fG(a b out:Array cL)(ia ib:Nat):Prop:=out.toList.Perm (a.toList.take ia++b.toList.take ib)
section
variable{a b out:Array cL}{ia ib k:Nat}{p:cL}
theorem tk{a:Array cL}{i:Nat}{p:cL}(h:a[i]?=some p):a.toList.take (i+1)=a.toList.take i++[p]:=by
 rw[jW,show a.toList[i]?=some p by simpa using h]
 rfl
theorem fG.Gg(h:fG a b out ia ib)(hp:a[ia]?=some p):fG a b (out.push p) (ia+1) ib:=by
 unfold fG at h ⊢
 rw[xq,tk hp]
 have:=h.append_right [p]
 refine this.trans ?_
 rw[fZ,fZ]
 exact zh _ lF
theorem fG.Gh(h:fG a b out ia ib)(hp:b[ib]?=some p):fG a b (out.push p) ia (ib+1):=by
 unfold fG at h ⊢
 rw[xq,tk hp,<- fZ]
 exact h.append_right [p]
theorem tkk{a:Array cL}{i k:Nat}:a.toList.take (i+k)=a.toList.take i++(a.extract i (i+k)).toList:=by
 rw[List.take_add,HU]
 simp[Dj]
theorem fG.QI(h:fG a b out ia ib):fG a b (out++a.extract ia (ia+k)) (ia+k) ib:=by
 unfold fG at h ⊢
 rw[pR,tkk]
 have:=h.append_right (a.extract ia (ia+k)).toList
 refine this.trans ?_
 rw[fZ,fZ]
 exact zh _ lF
theorem fG.QJ(h:fG a b out ia ib):fG a b (out++b.extract ib (ib+k)) ia (ib+k):=by
 unfold fG at h ⊢
 rw[pR,tkk,<- fZ]
 exact h.append_right _
theorem tke{a:Array cL}{i:Nat}:a.toList.take i++(a.extract i a.size).toList=a.toList:=by
 have e:(a.toList.drop i).take (a.size-i)=a.toList.drop i:=zp (by rw[jV,lM];exact br _)
 rw[HU,Dj,e,oR]
theorem fG.done(h:fG a b out ia ib):(out++a.extract ia a.size++b.extract ib b.size).toList.Perm (a.toList++b.toList):=by
 unfold fG at h
 rw[pR,pR]
 have:=(h.append_right (a.extract ia a.size).toList).append_right (b.extract ib b.size).toList
 refine this.trans ?_
 conv=>rhs;rw[<- tke (a:=a) (i:=ia),<- tke (a:=b) (i:=ib)]
 simp only[fZ]
 refine zh _ ?_
 rw[<- fZ,<- fZ]
 exact Iq _ lF
theorem fG.last(h:fG a b out ia ib):(out++b.extract ib b.size++a.extract ia a.size).toList.Perm (a.toList++b.toList):=by
 refine abG ?_ h.done
 simp only[pR,fZ]
 exact zh _ lF
end
theorem ay7{st:cB}{a b:Array cL}{Q:Array cL->cB->Prop}(hk:kindOf st=Ga)(ha:IntKeys a)(hb:IntKeys b)(zV:1<=a.size)(hb1:1<=b.size)
  (h:∀out aU,SG st aU->out.toList.Perm (a.toList++b.toList)->Q out aU):wpS (aN prog w) A E s (mlo a b) Q st:=by
 refine aW (AJ (qY ⟨rfl,?_⟩))
 dsimp +instances only
 refine aW (jD hb (by omega) fun p hp ip=>?_)
 have h0:fG a b #[p] 0 1:=by
  unfold fG
  rw[tk hp]
  simp
 refine dP (fun hc=>bF (h _ _ (SG.refl _) h0.done)) (fun hc=>?_)
 refine dP (fun hd=>bF (h _ _ (SG.refl _) h0.last)) (fun hd=>?_)
 simp only[beq_iff_eq]at hc hd
 refine aW (rm ?_)
 refine aW (lA (kB
  (I:=fun x c aU=>SG st aU/\∃out ia ib g,c=(none,out,ia,ib,g)/\fG a b out ia ib/\ia+1<a.size/\ib<b.size/\x<=ia+ib)
  (Q:=fun c aU=>SG st aU/\∃r d,c=(some r,d)/\r.toList.Perm (a.toList++b.toList)) ?step ?fin ⟨SG.refl _,_,0,1,_,rfl,h0,by omega,by omega,by omega⟩) ?post)
 case fin=>
  rintro c aU ⟨_,out,ia,ib,g,_,_,h1,h2,h3⟩
  omega
 case post=>
  rintro c aU ⟨sg,r,d,rfl,hp⟩
  exact bF (h _ _ sg hp)
 case step=>
  refine es4 fun x aU out ia ib g hx sg q=>?_
  have hO:=q.1
  have b1:=q.2.1
  have b2:=q.2.2.1
  have b3:=q.2.2.2
  clear q
  have fM:kindOf aU=oneType':=sg.kind.trans hk
  dsimp +instances only
  refine aW (lA (kB
   (I:=fun y c e9=>e9=aU/\∃out j5 j6 ac bc,c=(none,out,j5,j6,ac,bc)/\fG a b out j5 j6/\j5+1<a.size/\j6<b.size/\ia+ib+y<=j5+j6)
   (Q:=fun c e9=>e9=aU/\((∃r d,c=(some r,d)/\r.toList.Perm (a.toList++b.toList))\/∃out j5 j6 ac bc,c=(none,out,j5,j6,ac,bc)/\fG a b out j5 j6/\j5+1<a.size/\j6<b.size/\ia+ib+1<=j5+j6))
   ?istep ?ifin ⟨rfl,_,ia,ib,_,_,rfl,hO,b1,b2,by omega⟩) ?ipost)
  case ifin=>
   rintro c e9 ⟨rfl,out,j5,j6,ac,bc,rfl,o1,o2,o3,o4⟩
   exact⟨rfl,.inr ⟨_,_,_,_,_,rfl,o1,o2,o3,by omega⟩⟩
  case istep=>
   refine es5 fun y e9 out j5 j6 ac bc hy hI q=>?_
   cases hI
   have o1:=q.1
   have o2:=q.2.1
   have o3:=q.2.2.1
   have o4:=q.2.2.2
   clear q
   dsimp +instances only
   refine aW (jD hb (by omega) fun p1 kO qj=>aW (jD ha (by omega) fun p2 mj u9=>aW (HP fM qj u9 fun bw=>?_)))
   dsimp +instances only
   refine dP (fun _=>?_) (fun _=>?_)
   ·refine aW (jD hb (by omega) fun p3 kP vc=>?_)
    have q1:=o1.Gh kP
    refine dP (fun hc=>bF ⟨rfl,.inl ⟨_,_,rfl,q1.done⟩⟩) (fun hc=>?_)
    simp only[beq_iff_eq]at hc
    refine dP (fun _=>bF ⟨rfl,.inr ⟨_,_,_,_,_,rfl,q1,o2,by omega,by omega⟩⟩) (fun _=>bF ⟨rfl,_,_,_,_,_,rfl,q1,o2,by omega,by omega⟩)
   ·refine aW (jD ha (by omega) fun p3 kP vc=>?_)
    have q1:=o1.Gg kP
    refine dP (fun hc=>bF ⟨rfl,.inl ⟨_,_,rfl,q1.last⟩⟩) (fun hc=>?_)
    simp only[beq_iff_eq]at hc
    refine dP (fun _=>bF ⟨rfl,.inr ⟨_,_,_,_,_,rfl,q1,by omega,o3,by omega⟩⟩) (fun _=>bF ⟨rfl,_,_,_,_,_,rfl,q1,by omega,o3,by omega⟩)
  case ipost=>
   refine ep5 (fun _ _ _ e hp=>by cases e;exact bF ⟨sg,_,_,rfl,hp⟩) fun e9 out j5 j6 ac bc hI q=>?_
   cases hI
   have o1:=q.1
   have o2:=q.2.1
   have o3:=q.2.2.1
   have o4:=q.2.2.2
   clear q
   dsimp +instances only
   refine aW (AJ (qY ⟨rfl,?_⟩))
   refine aW (lA (kB
    (I:=fun y c eU=>SG st eU/\∃out jg iB g ac bc,c=(none,out,jg,iB,g,ac,bc)/\fG a b out jg iB/\jg+1<a.size/\iB<b.size/\j5+j6<=jg+iB)
    (Q:=fun c eU=>SG st eU/\((∃r d,c=(some r,d)/\r.toList.Perm (a.toList++b.toList))\/∃out jg iB g ac bc,c=(none,out,jg,iB,g,ac,bc)/\fG a b out jg iB/\jg+1<a.size/\iB<b.size/\j5+j6<=jg+iB))
    ?gstep ?gfin ⟨sg,_,j5,j6,_,_,_,rfl,o1,o2,o3,by omega⟩) ?gpost)
   case gfin=>
    rintro c eU ⟨kY,hh⟩
    exact⟨kY,.inr hh⟩
   case gpost=>
    refine ep6 (fun _ _ _ kY hp=>bF ⟨kY,_,_,rfl,hp⟩) fun eU out jg iB g ac bc kY q=>?_
    have q1:=q.1
    have q2:=q.2.1
    have q3:=q.2.2.1
    have q4:=q.2.2.2
    ·dsimp +instances only
     refine aW (rA (bF ⟨kY.set _,_,_,_,_,rfl,q1,q2,q3,by omega⟩))
   case gstep=>
    refine es6 fun y eU out jg iB g ac bc hy kY q=>?_
    have q1:=q.1
    have q2:=q.2.1
    have q3:=q.2.2.1
    have q4:=q.2.2.2
    clear q
    have fC:kindOf eU=oneType':=kY.kind.trans hk
    dsimp +instances only
    generalize g-1=g1
    revert g g1
    refine wG fun g=>?_
    refine aW (rA ?_)
    have mL:=kY.set g
    refine aW (jD hb (by omega) fun p1 kO qj=>aW (CQ fC qj ha (by omega) (by omega) fun k iK=>?_))
    clear kO qj
    dsimp +instances only
    have r:=nH q1 (nH q2 (nH q4 iK))
    clear q1 q2 q4 iK
    revert out jg
    refine wJ (fun out jg=>fG a b out jg iB/\jg+1<a.size/\j5+j6<=jg+iB) (fun _ _ r=>⟨r.1,r.2.1,r.2.2.1⟩) ?_ ?_
    ·intro key out jg q
     have q1:=q.1
     have q2:=q.2.1
     have q4:=q.2.2.1
     have iK:=q.2.2.2
     have w1:=q1.QI (k:=k)
     refine dP (fun hc=>bF ⟨mL,.inl ⟨_,_,rfl,w1.last⟩⟩) (fun hc=>?_)
     refine dP (fun hc=>bF ⟨mL,.inl ⟨_,_,rfl,w1.done⟩⟩) (fun hd=>?_)
     simp only[beq_iff_eq]at hc hd
     exact key _ _ ⟨w1,by omega,by omega⟩
    intro out jg q
    have q1:=q.1
    have q2:=q.2.1
    have q4:=q.2.2
    clear q
    refine aW (jD hb (by omega) fun p2 mj u9=>?_)
    have w2:=q1.Gh mj
    refine dP (fun hc=>bF ⟨mL,.inl ⟨_,_,rfl,w2.done⟩⟩) (fun he=>?_)
    simp only[beq_iff_eq]at he
    refine aW (jD ha (by omega) fun p3 kP vc=>aW (CQ fC vc hb (by omega) (by omega) fun k2 bA=>?_))
    clear kP vc
    dsimp +instances only
    have r:=nH w2 (nH (show iB+1<b.size by omega) (nH (show j5+j6<=jg+(iB+1) by omega) bA))
    clear he q3 q4 mj u9 q1 w2 bA
    generalize out.push p2=out,iB+1=iB at r ⊢
    revert out iB
    refine wJ (fun out iB=>fG a b out jg iB/\iB<b.size/\j5+j6<=jg+iB) (fun _ _ r=>⟨r.1,r.2.1,r.2.2.1⟩) ?_ ?_
    ·intro key out iB q
     have w2:=q.1
     have e1:=q.2.1
     have e2:=q.2.2.1
     have bA:=q.2.2.2
     have w3:=w2.QJ (k:=k2)
     refine dP (fun hc=>bF ⟨mL,.inl ⟨_,_,rfl,w3.done⟩⟩) (fun hf=>?_)
     simp only[beq_iff_eq]at hf
     exact key _ _ ⟨w3,by omega,by omega⟩
    intro out iB q
    have w2:=q.1
    have e1:=q.2.1
    have e2:=q.2.2
    refine aW (jD ha (by omega) fun p4 m8 ip4=>?_)
    have w4:=w2.Gg m8
    refine dP (fun hc=>bF ⟨mL,.inl ⟨_,_,rfl,w4.last⟩⟩) (fun hg=>?_)
    simp only[beq_iff_eq]at hg
    refine dP (fun _=>bF ⟨mL,.inr ⟨_,_,_,_,_,_,rfl,w4,by omega,by omega,by omega⟩⟩) (fun _=>bF ⟨mL,_,_,_,_,_,_,rfl,w4,by omega,by omega,by omega⟩)
noncomputable def fE(a b out:Array cL)(na nb:Nat):Prop:=out.toList.Perm (a.toList.drop na++b.toList.drop nb)
section
variable{a b out:Array cL}{na nb at_:Nat}{p:cL}
theorem dk{a:Array cL}{i:Nat}{p:cL}(h:a[i-1]?=some p)(hi:1<=i):a.toList.drop (i-1)=p::a.toList.drop i:=by
 obtain⟨h1,h2⟩:=Array.getElem?_eq_some_iff.mp h
 have:=List.drop_eq_getElem_cons (l:=a.toList) (i:=i-1) (by simpa using h1)
 rw[this,show i-1+1=i by omega]
 simp[h2]
theorem fE.Gg(h:fE a b out na nb)(hp:a[na-1]?=some p)(h1:1<=na):fE a b (out.push p) (na-1) nb:=by
 unfold fE at h ⊢
 rw[xq,dk hp h1]
 exact(lF (l₁:=out.toList) (l₂:=[p])).trans (h.cons p)
theorem fE.Gh(h:fE a b out na nb)(hp:b[nb-1]?=some p)(h1:1<=nb):fE a b (out.push p) na (nb-1):=by
 unfold fE at h ⊢
 rw[xq,dk hp h1]
 refine(lF (l₁:=out.toList) (l₂:=[p])).trans ((h.cons p).trans ?_)
 exact(N8).symm
theorem Jj{a:Array cL}{i k:Nat}(h:k<=i)(hi:i<=a.size):a.toList.drop k=(a.extract k i).toList++a.toList.drop i:=by
 rw[HU,Dj]
 have:=oR (i-k) (a.toList.drop k)
 rw[List.drop_drop,show k+(i-k)=i by omega]at this
 exact this.symm
theorem fE.QI(h:fE a b out na nb)(h1:at_<=na)(h2:na<=a.size):fE a b (out++(a.extract at_ na).reverse) at_ nb:=by
 unfold fE at h ⊢
 rw[pR,Jj h1 h2,abq,fZ]
 exact(lF).trans (amu (ab0 _) h)
theorem fE.QJ(h:fE a b out na nb)(h1:at_<=nb)(h2:nb<=b.size):fE a b (out++(b.extract at_ nb).reverse) na at_:=by
 unfold fE at h ⊢
 rw[pR,Jj h1 h2,abq]
 refine(lF).trans ((amu (ab0 _) h).trans ?_)
 rw[<- fZ,<- fZ]
 exact Iq _ lF
theorem ex0{a:Array cL}{i:Nat}:(a.extract 0 i).toList=a.toList.take i:=by
 rw[HU,Dj]
 simp
theorem fE.done(h:fE a b out na nb):(a.extract 0 na++b.extract 0 nb++out.reverse).toList.Perm (a.toList++b.toList):=by
 unfold fE at h
 rw[pR,pR,ex0,ex0,abq]
 refine(zh _ ((ab0 _).trans h)).trans ?_
 conv=>rhs;rw[<- oR na a.toList,<- oR nb b.toList]
 simp only[fZ]
 refine zh _ ?_
 rw[<- fZ,<- fZ]
 exact Iq _ lF
theorem fE.first(h:fE a b out na nb):(b.extract 0 nb++a.extract 0 na++out.reverse).toList.Perm (a.toList++b.toList):=by
 refine abG ?_ h.done
 simp only[pR]
 exact Iq _ lF
end
theorem ay6{st:cB}{a b:Array cL}{Q:Array cL->cB->Prop}(hk:kindOf st=Ga)(ha:IntKeys a)(hb:IntKeys b)(zV:1<=a.size)(hb1:1<=b.size)
  (h:∀out aU,SG st aU->out.toList.Perm (a.toList++b.toList)->Q out aU):wpS (aN prog w) A E s (mhi a b) Q st:=by
 refine aW (AJ (qY ⟨rfl,?_⟩))
 dsimp +instances only
 refine aW (jD ha (by omega) fun p hp ip=>?_)
 have h0:fE a b #[p] (a.size-1) b.size:=by
  unfold fE
  rw[dk hp zV]
  simp
 refine dP (fun hc=>bF (h _ _ (SG.refl _) h0.done)) (fun hc=>?_)
 refine dP (fun hd=>bF (h _ _ (SG.refl _) h0.first)) (fun hd=>?_)
 simp only[beq_iff_eq]at hc hd
 refine aW (rm ?_)
 refine aW (lA (kB
  (I:=fun x c aU=>SG st aU/\∃na nb out g,c=(none,na,nb,out,g)/\fE a b out na nb/\1<=na/\2<=nb/\na<=a.size/\nb<=b.size/\na+nb+x<=a.size+b.size)
  (Q:=fun c aU=>SG st aU/\∃r d,c=(some r,d)/\r.toList.Perm (a.toList++b.toList)) ?step ?fin ⟨SG.refl _,_,_,_,_,rfl,h0,by omega,by omega,by omega,by omega,by omega⟩) ?post)
 case fin=>
  rintro c aU ⟨_,na,nb,out,g,_,_,h1,h2,h3,h4,h5⟩
  omega
 case post=>
  rintro c aU ⟨sg,r,d,rfl,hp⟩
  exact bF (h _ _ sg hp)
 case step=>
  refine es4 fun x aU na nb out g hx sg q=>?_
  have hO:=q.1
  have b1:=q.2.1
  have b2:=q.2.2.1
  have b3:=q.2.2.2.1
  have b4:=q.2.2.2.2.1
  have b5:=q.2.2.2.2.2
  clear q
  have fM:kindOf aU=oneType':=sg.kind.trans hk
  dsimp +instances only
  refine aW (lA (kB
   (I:=fun y c e9=>e9=aU/\∃jh jN out ac bc,c=(none,jh,jN,out,ac,bc)/\fE a b out jh jN/\1<=jh/\2<=jN/\jh<=a.size/\jN<=b.size/\jh+jN+y<=na+nb)
   (Q:=fun c e9=>e9=aU/\((∃r d,c=(some r,d)/\r.toList.Perm (a.toList++b.toList))\/∃jh jN out ac bc,c=(none,jh,jN,out,ac,bc)/\fE a b out jh jN/\1<=jh/\2<=jN/\jh<=a.size/\jN<=b.size/\jh+jN+1<=na+nb))
   ?istep ?ifin ⟨rfl,_,_,_,_,_,rfl,hO,b1,b2,b3,b4,by omega⟩) ?ipost)
  case ifin=>
   rintro c e9 ⟨rfl,jh,jN,out,ac,bc,rfl,o1,o2,o3,o4,o5,o6⟩
   exact⟨rfl,.inr ⟨_,_,_,_,_,rfl,o1,o2,o3,o4,o5,by omega⟩⟩
  case istep=>
   refine es5 fun y e9 jh jN out ac bc hy hI q=>?_
   cases hI
   have o1:=q.1
   have o2:=q.2.1
   have o3:=q.2.2.1
   have o4:=q.2.2.2.1
   have o5:=q.2.2.2.2.1
   have o6:=q.2.2.2.2.2
   clear q
   dsimp +instances only
   refine aW (jD hb (by omega) fun p1 kO qj=>aW (jD ha (by omega) fun p2 mj u9=>aW (HP fM qj u9 fun bw=>?_)))
   dsimp +instances only
   refine dP (fun _=>?_) (fun _=>?_)
   ·refine aW (jD ha (by omega) fun p3 kP vc=>?_)
    have q1:=o1.Gg kP o2
    refine dP (fun hc=>bF ⟨rfl,.inl ⟨_,_,rfl,q1.done⟩⟩) (fun hc=>?_)
    simp only[beq_iff_eq]at hc
    refine dP (fun _=>bF ⟨rfl,.inr ⟨_,_,_,_,_,rfl,q1,by omega,o3,by omega,o5,by omega⟩⟩) (fun _=>bF ⟨rfl,_,_,_,_,_,rfl,q1,by omega,o3,by omega,o5,by omega⟩)
   ·refine aW (jD hb (by omega) fun p3 kP vc=>?_)
    have q1:=o1.Gh kP (by omega)
    refine dP (fun hc=>bF ⟨rfl,.inl ⟨_,_,rfl,q1.first⟩⟩) (fun hc=>?_)
    simp only[beq_iff_eq]at hc
    refine dP (fun _=>bF ⟨rfl,.inr ⟨_,_,_,_,_,rfl,q1,o2,by omega,o4,by omega,by omega⟩⟩) (fun _=>bF ⟨rfl,_,_,_,_,_,rfl,q1,o2,by omega,o4,by omega,by omega⟩)
  case ipost=>
   refine ep5 (fun _ _ _ e hp=>by cases e;exact bF ⟨sg,_,_,rfl,hp⟩) fun e9 jh jN out ac bc hI q=>?_
   cases hI
   have o1:=q.1
   have o2:=q.2.1
   have o3:=q.2.2.1
   have o4:=q.2.2.2.1
   have o5:=q.2.2.2.2.1
   have o6:=q.2.2.2.2.2
   clear q
   dsimp +instances only
   refine aW (AJ (qY ⟨rfl,?_⟩))
   refine aW (lA (kB
    (I:=fun y c eU=>SG st eU/\∃g8 fV out g ac bc,c=(none,g8,fV,out,g,ac,bc)/\fE a b out g8 fV/\1<=g8/\2<=fV/\g8<=a.size/\fV<=b.size/\g8+fV<=jh+jN)
    (Q:=fun c eU=>SG st eU/\((∃r d,c=(some r,d)/\r.toList.Perm (a.toList++b.toList))\/∃g8 fV out g ac bc,c=(none,g8,fV,out,g,ac,bc)/\fE a b out g8 fV/\1<=g8/\2<=fV/\g8<=a.size/\fV<=b.size/\g8+fV<=jh+jN))
    ?gstep ?gfin ⟨sg,_,_,_,_,_,_,rfl,o1,o2,o3,o4,o5,by omega⟩) ?gpost)
   case gfin=>
    rintro c eU ⟨kY,hh⟩
    exact⟨kY,.inr hh⟩
   case gpost=>
    refine ep6 (fun _ _ _ kY hp=>bF ⟨kY,_,_,rfl,hp⟩) fun eU g8 fV out g ac bc kY q=>?_
    have q1:=q.1
    have q2:=q.2.1
    have q3:=q.2.2.1
    have q4:=q.2.2.2.1
    have q5:=q.2.2.2.2.1
    have q6:=q.2.2.2.2.2
    ·dsimp +instances only
     refine aW (rA (bF ⟨kY.set _,_,_,_,_,rfl,q1,q2,q3,q4,q5,by omega⟩))
   case gstep=>
    refine es6 fun y eU g8 fV out g ac bc hy kY q=>?_
    have q1:=q.1
    have q2:=q.2.1
    have q3:=q.2.2.1
    have q4:=q.2.2.2.1
    have q5:=q.2.2.2.2.1
    have q6:=q.2.2.2.2.2
    clear q
    have fC:kindOf eU=oneType':=kY.kind.trans hk
    dsimp +instances only
    generalize g-1=g1
    revert g g1
    refine wG fun g=>?_
    refine aW (rA ?_)
    have mL:=kY.set g
    refine aW (jD hb (by omega) fun p1 kO qj=>aW (CQ fC qj ha (by omega) (by omega) fun k iK=>?_))
    clear kO qj
    dsimp +instances only
    generalize g8-k=d
    have r:=nH q1 (nH q2 (nH q4 (nH q6 iK)))
    clear q1 q2 q4 q6 iK
    revert g8 out
    refine wJ (fun g8 out=>fE a b out g8 fV/\1<=g8/\g8<=a.size/\g8+fV<=jh+jN) (fun _ _ r=>⟨r.1,r.2.1,r.2.2.1,r.2.2.2.1⟩) ?_ ?_
    ·intro key g8 out q
     have q1:=q.1
     have q2:=q.2.1
     have q4:=q.2.2.1
     have q6:=q.2.2.2.1
     have iK:=q.2.2.2.2
     have w1:=q1.QI (at_:=k) iK (by omega)
     refine dP (fun hc=>bF ⟨mL,.inl ⟨_,_,rfl,w1.done⟩⟩) (fun hc=>?_)
     simp only[beq_iff_eq]at hc
     exact key _ _ ⟨w1,by omega,by omega,by omega⟩
    intro g8 out q
    have q1:=q.1
    have q2:=q.2.1
    have q4:=q.2.2.1
    have q6:=q.2.2.2
    clear q
    refine aW (jD hb (by omega) fun p2 mj u9=>?_)
    have w2:=q1.Gh mj (by omega)
    refine dP (fun hc=>bF ⟨mL,.inl ⟨_,_,rfl,w2.first⟩⟩) (fun he=>?_)
    simp only[beq_iff_eq]at he
    refine aW (jD ha (by omega) fun p3 kP vc=>aW (CQ fC vc hb (by omega) (by omega) fun k2 bA=>?_))
    clear kP vc
    dsimp +instances only
    have r:=nH w2 (nH (show 2<=fV-1 by omega) (nH (show fV-1<=b.size by omega) (nH (show g8+(fV-1)<=jh+jN by omega) bA)))
    clear he q3 q5 q6 mj u9 q1 w2 bA
    generalize out.push p2=out,fV-1=fV at r ⊢
    generalize fV-k2=d2
    revert out fV
    refine wJ (fun out fV=>fE a b out g8 fV/\2<=fV/\fV<=b.size/\g8+fV<=jh+jN) (fun _ _ r=>⟨r.1,r.2.1,r.2.2.1,r.2.2.2.1⟩) ?_ ?_
    ·intro key out fV q
     have w2:=q.1
     have e1:=q.2.1
     have e2:=q.2.2.1
     have e3:=q.2.2.2.1
     have bA:=q.2.2.2.2
     have w3:=w2.QJ (at_:=k2) bA (by omega)
     refine dP (fun hc=>bF ⟨mL,.inl ⟨_,_,rfl,w3.first⟩⟩) (fun hf=>?_)
     refine dP (fun hc=>bF ⟨mL,.inl ⟨_,_,rfl,w3.done⟩⟩) (fun qc=>?_)
     simp only[beq_iff_eq]at hf qc
     exact key _ _ ⟨w3,by omega,by omega,by omega⟩
    intro out fV q
    have w2:=q.1
    have e1:=q.2.1
    have e2:=q.2.2.1
    have e3:=q.2.2.2
    refine aW (jD ha (by omega) fun p4 m8 ip4=>?_)
    have w4:=w2.Gg m8 (by omega)
    refine dP (fun hc=>bF ⟨mL,.inl ⟨_,_,rfl,w4.done⟩⟩) (fun hg=>?_)
    simp only[beq_iff_eq]at hg
    refine dP (fun _=>bF ⟨mL,.inr ⟨_,_,_,_,_,_,rfl,w4,by omega,by omega,by omega,by omega,by omega⟩⟩) (fun _=>bF ⟨mL,_,_,_,_,_,_,rfl,w4,by omega,by omega,by omega,by omega,by omega⟩)
end
end Bb
namespace Bb
open PySem PyProof.Rows
section
variable{prog:cH}{w:cj}{A:cS}{E:ao->aB->Prop}{s:aB}{a₀:Array cL}
structure SP(a₀:Array cL)(P:Array (Nat×Nat×Nat))(st:cB):Prop where
 sf:SF a₀ st
 pend:dF st=P
theorem SP.set{P:Array (Nat×Nat×Nat)}{st:cB}(h:SP a₀ P st){xs:Array cL}(hp:xs.Perm (lV st)):SP a₀ P (setArr st xs):=⟨h.sf.set hp,h.pend⟩
theorem ay4{st:cB}{P:Array (Nat×Nat×Nat)}{lo n ok:Nat}{Q:Bool->cB->Prop}(h0:IntKeys a₀)(hn:lo+n<=a₀.size)(hB:SP a₀ P st)(h:∀aU,SP a₀ P aU->Q true aU):wpS (aN prog w) A E s (binarySort' lo n ok) Q st:=by
 rw[binarySort'_eq]
 refine aW (lA (kB (I:=fun k c aU=>c=(none,())/\SP a₀ P aU) (Q:=fun c aU=>c=(none,())/\SP a₀ P aU) ?step (fun _ _ hh=>hh) ⟨rfl,hB⟩) ?post)
 case post=>
  rintro c aU ⟨rfl,KJ⟩
  exact bF (h aU KJ)
 case step=>
  rintro k c aU hak hkn ⟨rfl,KJ⟩
  refine aW (lA (kB (I:=fun x c e9=>e9=aU/\∃l r,c=(none,l,r)/\r<=k) (Q:=fun c e9=>e9=aU/\∃l r,c=(none,l,r)) ?istep ?ifin ⟨rfl,0,k,rfl,br _⟩) ?ipost)
  case ifin=>
   rintro c e9 ⟨rfl,l,r,rfl,_⟩
   exact⟨rfl,l,r,rfl⟩
  case istep=>
   rintro x c e9 _ hxk ⟨rfl,l,r,rfl,hr⟩
   dsimp +instances only
   refine dP (fun _=>bF ⟨rfl,_,_,rfl⟩) (fun fK=>?_)
   refine aW (AF KJ.sf h0 (by omega) (by omega) fun b=>?_)
   cases b with
   |true=>exact bF ⟨rfl,_,_,rfl,by omega⟩
   |false=>exact bF ⟨rfl,_,_,rfl,hr⟩
  case ipost=>
   rintro c e9 ⟨rfl,l,r,rfl⟩
   dsimp +instances only
   rw[moveDown'_eq]
   exact aW (rA (bF ⟨rfl,KJ.set (bubble_perm _ _ _)⟩))
theorem AG{st:cB}{P:Array (Nat×Nat×Nat)}{i j:Nat}{Q:Unit->cB->Prop}(hB:SP a₀ P st)(h:∀aU,SP a₀ P aU->Q () aU):wpS (aN prog w) A E s (reverseSlice' i j) Q st:=
 wpS_reverse (h _ (hB.set (mirror_perm _ _ _ _)))
theorem aaT{st:cB}{P:Array (Nat×Nat×Nat)}{lo n qt:Nat}{Q:Option (Option Nat)×Nat->cB->Prop}(h0:IntKeys a₀)(hn:lo+qt<=a₀.size)(h1:1<=n)(hnn:n<=qt)(hB:SP a₀ P st)
  (h:∀m,n<=m->m<=qt->Q (none,m) st):wpS (aN prog w) A E s (forIn [n:qt] ((none:Option (Option Nat)),n) fun x c=>ltAt' (lo+c.2) (lo+c.2-1) >>= fun y=>match y with
   |some b=>if b=true then pure (alO (none,c.2))else pure (AN (none,c.2+1))
   |_=>pure (alO (some none,c.2))) Q st:=by
 refine kB (I:=fun x c aU=>aU=st/\c=(none,x)) ?_ ?_ ⟨rfl,rfl⟩
 ·rintro x c aU yx pJ ⟨rfl,rfl⟩
  refine aW (AF hB.sf h0 (by omega) (by omega) fun b=>?_)
  cases b with
  |true=>exact bF (h _ yx (by omega))
  |false=>exact bF ⟨rfl,rfl⟩
 ·rintro c aU ⟨rfl,rfl⟩
  exact h _ (by omega) (by omega)
theorem ay5{st:cB}{P:Array (Nat×Nat×Nat)}{lo qt:Nat}{Q:Option Nat->cB->Prop}(h0:IntKeys a₀)(hn:lo+qt<=a₀.size)(h1:1<=qt)(hB:SP a₀ P st)
  (h:∀m aU,SP a₀ P aU->1<=m->m<=qt->Q (some m) aU):wpS (aN prog w) A E s (countRun' lo qt) Q st:=by
 refine aW (aaT h0 hn (br _) h1 hB fun n n1 n2=>?_)
 dsimp +instances only
 refine dP (fun hc=>bF (h _ _ hB n1 n2)) (fun hc=>?_)
 simp only[beq_iff_eq]at hc
 refine dP (fun hd=>?_) (fun hd=>?_)
 ·refine aW (AF hB.sf h0 (by omega) (by omega) fun b=>?_)
  cases b with
  |true=>exact bF (h _ _ hB n1 n2)
  |false=>
   dsimp +instances only
   rw[if_neg (by decide)]
   refine aW (AG hB fun jk SA=>?_)
   refine aW (AJ (qY ⟨rfl,?_⟩))
   refine aW (lA (kB (I:=fun x c aU=>SP a₀ P aU/\∃q,c=(none,x,q)) (Q:=fun c aU=>SP a₀ P aU/\∃m q,c=(none,m,q)/\n+1<=m/\m<=qt) ?_ ?_ ⟨SA,0,rfl⟩) ?_)
   ·rintro x c eU yx pJ ⟨SB,q,rfl⟩
    dsimp +instances only
    refine aW (AF SB.sf h0 (by omega) (by omega) fun b=>?_)
    cases b with
    |true=>
     dsimp +instances only
     rw[if_pos rfl]
     exact dP (fun _=>aW (AG SB fun cu SC=>bF ⟨SC,_,rfl⟩)) (fun _=>bF ⟨SB,_,rfl⟩)
    |false=>
     dsimp +instances only
     rw[if_neg (by decide)]
     refine aW (AF SB.sf h0 (by omega) (by omega) fun b=>?_)
     cases b with
     |true=>exact bF ⟨SB,_,_,rfl,yx,by omega⟩
     |false=>exact bF ⟨SB,_,rfl⟩
   ·rintro c eU ⟨SB,q,rfl⟩
    exact⟨SB,_,_,rfl,by omega,by omega⟩
   ·rintro c eU ⟨SB,m,q,rfl,m1,m2⟩
    dsimp +instances only
    refine dP (fun _=>aW (AG SB fun cU SB=>?_)) (fun _=>?_)
    all_goals
     refine aW (AG SB fun ez SC=>?_)
     refine aW (aaT h0 hn (by omega) (by omega) SC fun m3 k1 k2=>?_)
     exact bF (h _ _ SC (by omega) k2)
 ·have SA:=hB
  refine aW (AJ (qY ⟨rfl,?_⟩))
  refine aW (lA (kB (I:=fun x c aU=>SP a₀ P aU/\∃q,c=(none,x,q)) (Q:=fun c aU=>SP a₀ P aU/\∃m q,c=(none,m,q)/\n+1<=m/\m<=qt) ?_ ?_ ⟨SA,0,rfl⟩) ?_)
  ·rintro x c eU yx pJ ⟨SB,q,rfl⟩
   dsimp +instances only
   refine aW (AF SB.sf h0 (by omega) (by omega) fun b=>?_)
   cases b with
   |true=>
    dsimp +instances only
    rw[if_pos rfl]
    exact dP (fun _=>aW (AG SB fun cu SC=>bF ⟨SC,_,rfl⟩)) (fun _=>bF ⟨SB,_,rfl⟩)
   |false=>
    dsimp +instances only
    rw[if_neg (by decide)]
    refine aW (AF SB.sf h0 (by omega) (by omega) fun b=>?_)
    cases b with
    |true=>exact bF ⟨SB,_,_,rfl,yx,by omega⟩
    |false=>exact bF ⟨SB,_,rfl⟩
  ·rintro c eU ⟨SB,q,rfl⟩
   exact⟨SB,_,_,rfl,by omega,by omega⟩
  ·rintro c eU ⟨SB,m,q,rfl,m1,m2⟩
   dsimp +instances only
   refine dP (fun _=>aW (AG SB fun cU SB=>?_)) (fun _=>?_)
   all_goals
    refine aW (AG SB fun ez SC=>?_)
    refine aW (aaT h0 hn (by omega) (by omega) SC fun m3 k1 k2=>?_)
    exact bF (h _ _ SC (by omega) k2)
noncomputable def Ch:Nat->List (Nat×Nat×Nat)->Nat->Prop
 |a,[],e=>a=e
 |a,p::r,e=>p.1=a/\1<=p.2.1/\Ch (a+p.2.1) r e
theorem Ch.le:∀ {l:List (Nat×Nat×Nat)} {a e:Nat},Ch a l e->a<=e
 | [],_,_,h=>Od h
 |p::r,a,e,h=>by have:=Ch.le h.2.2;omega
theorem Ch.snoc:∀ {l:List (Nat×Nat×Nat)} {a e n:Nat} {q:Nat},Ch a l e->1<=n->Ch a (l++[(e,n,q)]) (e+n)
 | [],a,e,n,q,h,hn=>by
  have h:a=e:=h
  subst h
  exact⟨rfl,hn,rfl⟩
 |p::r,a,e,n,q,h,hn=>⟨h.1,h.2.1,h.2.2.snoc hn⟩
theorem Ch.mod:∀ {l:List (Nat×Nat×Nat)} {a e:Nat} {i:Nat} {q:Nat},Ch a l e->Ch a (l.modify i fun x=>(x.1,x.2.1,q)) e
 | [],a,e,i,q,h=>by simpa using h
 |p::r,a,e,0,q,h=>⟨h.1,h.2.1,h.2.2⟩
 |p::r,a,e,i+1,q,h=>by
  rw[List.modify_succ_cons]
  exact⟨h.1,h.2.1,h.2.2.mod⟩
theorem Ch.two:∀ {l:List (Nat×Nat×Nat)} {a e i:Nat} {sa na pa sb nb pb:Nat},Ch a l e->l[i]?=some (sa,na,pa)->l[i+1]?=some (sb,nb,pb)->
  sa+na=sb/\1<=na/\1<=nb/\sb+nb<=e/\Ch a ((l.set i (sa,na+nb,pa)).eraseIdx (i+1)) e
 | [],a,e,i,sa,na,pa,sb,nb,pb,h,h1,_=>by simp at h1
 | [p],a,e,0,sa,na,pa,sb,nb,pb,h,h1,h2=>by simp at h2
 | [p],a,e,i+1,sa,na,pa,sb,nb,pb,h,h1,h2=>by simp at h1
 |p::q::r,a,e,0,sa,na,pa,sb,nb,pb,h,h1,h2=>by
  cases(cY h1:p=_)
  cases(cY h2:q=_)
  obtain⟨e1,e2,e3,e4,e5⟩:=h
  have e1:sa=a:=e1
  have e3:sb=a+na:=e3
  have e5':=e5.le
  have e2:1<=na:=e2
  have e4:1<=nb:=e4
  have azj:a+na+nb<=e:=e5'
  refine⟨by omega,e2,e4,by omega,e1,by show 1<=na+nb;omega,?_⟩
  have:a+na+nb=a+(na+nb):=by omega
  show Ch (a+(na+nb)) r e
  rw[<- this]
  exact e5
 |p::q::r,a,e,i+1,sa,na,pa,sb,nb,pb,h,h1,h2=>by
  obtain⟨k1,k2,k3,k4,k5⟩:=Ch.two (l:=q::r) (i:=i) h.2.2 h1 h2
  exact⟨k1,k2,k3,k4,h.1,h.2.1,k5⟩
theorem auI(l:List cL):∀(a:Array cL) (i k:Nat),i+k+l.length<=a.size->((l.zipIdx k).foldl (fun a (p:cL×Nat)=>a.setIfInBounds (i+p.2) p.1) a).toList=a.toList.take (i+k)++l++a.toList.drop (i+k+l.length):=by
 induction l with
 |nil=>intro a i k h;simp
 |cons x l ih=>
  intro a i k h
  rw[List.zipIdx_cons,List.foldl_cons,ih _ i (k+1) (by simp at h ⊢;omega)]
  have hl:i+k<a.toList.length:=by simp at h ⊢;omega
  have e1:(a.setIfInBounds (i+k) x).toList=a.toList.set (i+k) x:=by simp
  rw[e1,show i+(k+1)=i+k+1 by omega,jW]
  have e2:(a.toList.set (i+k) x)[i+k]?=some x:=by rw[abL hl]
  rw[e2,List.take_set_of_le (br _),List.drop_set_of_lt (by omega)]
  simp[Ob,Nat.add_left_comm,Nat.add_assoc]
theorem azb{x:cB}{Q:PUnit->cB->Prop}{st:cB}(h:Q ⟨⟩ x):wpS (aN prog w) A E s (set x:StateT cB Sem PUnit) Q st:=by
 unfold wpS
 rw[StateT.run_set]
 exact bJ ⟨rfl,h⟩
theorem auz{a m:Array cL}{i j k:Nat}(h1:i<=j)(h2:j<=k)(h3:k<=a.size)(hm:m.toList.Perm ((a.extract i j).toList++(a.extract j k).toList)) :
  (A4 (fun a (x:cL×Nat)=>a.setIfInBounds (i+x.2) x.1) a m.toList.zipIdx).Perm a:=by
 have hl:m.toList.length=k-i:=by
  rw[hm.length_eq,bW,lM,lM,yY,yY]
  omega
 have e:=auI m.toList a i 0 (by rw[hl];omega)
 rw[CW]
 have e2:(A4 (fun a (x:cL×Nat)=>a.setIfInBounds (i+x.2) x.1) a m.toList.zipIdx).toList=a.toList.take i++m.toList++a.toList.drop k:=by
  rw[e,hl,ab3,show i+(k-i)=k by omega]
 rw[e2]
 have d1:=Jj (a:=a) h1 (by omega:j<=a.size)
 have d2:=Jj (a:=a) h2 h3
 have d3:a.toList=a.toList.take i++((a.extract i j).toList++(a.extract j k).toList)++a.toList.drop k:=by
  conv=>lhs;rw[<- oR i a.toList,d1,d2]
  simp
 conv=>rhs;rw[d3]
 exact Iq _ (zh _ hm)
theorem ap6{a a₀:Array cL}(h:IntKeys a₀)(hp:a.Perm a₀):IntKeys a:=fun p hm=>h p ((CW.mp hp).mem_iff.mp hm)
theorem Lx{a:Array cL}(h:IntKeys a){i j:Nat}:IntKeys (a.extract i j):=fun p hm=>h p (by
 rw[HU,Dj]at hm
 exact amM (List.mem_of_mem_take hm))
noncomputable def mat:Nat->StateT cB Sem Bool:=sortPriv% PySem.Builtin.mergeAt
theorem aaU{st:cB}{i lo:Nat}{Q:Bool->cB->Prop}(h0:IntKeys a₀)(hB:SF a₀ st)(hc:Ch 0 (dF st).toList lo)(iX:lo<=a₀.size)(hi:i+1<(dF st).size)
  (h:∀aU,SF a₀ aU->Ch 0 (dF aU).toList lo->(dF aU).size+1=(dF st).size->Q true aU):wpS (aN prog w) A E s (mat i) Q st:=by
 refine aW (rm ?_)
 obtain⟨⟨sa,na,pa⟩,e1⟩:∃p,(dF st)[i]?=some p:=⟨_,getElem?_pos _ i (by omega)⟩
 obtain⟨⟨sb,nb,pb⟩,e2⟩:∃p,(dF st)[i+1]?=some p:=⟨_,getElem?_pos _ (i+1) hi⟩
 dsimp +instances only
 rw[e1,e2]
 dsimp +instances only
 have f1:(dF st).toList[i]?=some (sa,na,pa):=by simpa using e1
 have f2:(dF st).toList[i+1]?=some (sb,nb,pb):=by simpa using e2
 obtain⟨c1,c2,c3,c4,c5⟩:=hc.two f1 f2
 have hI:=ap6 h0 hB.perm
 have hz:=hB.size
 have Lq:((sortPriv% PySem.Builtin.SortState.a) st).size=a₀.size:=hz
 have gX:Ch 0 (((dF st).setIfInBounds i (sa,na+nb,pa)).eraseIdxIfInBounds (i+1)).toList lo:=by
  have:(((dF st).setIfInBounds i (sa,na+nb,pa)).eraseIdxIfInBounds (i+1)).toList=((dF st).toList.set i (sa,na+nb,pa)).eraseIdx (i+1):=by
   simp
  rw[this]
  exact c5
 have hsz:(((dF st).setIfInBounds i (sa,na+nb,pa)).eraseIdxIfInBounds (i+1)).size+1=(dF st).size:=by
  rw[<- lM]
  have:(((dF st).setIfInBounds i (sa,na+nb,pa)).eraseIdxIfInBounds (i+1)).toList=((dF st).toList.set i (sa,na+nb,pa)).eraseIdx (i+1):=by
   simp
  rw[this,amJ,if_pos (by rw[uo,lM];exact hi),uo,lM]
  omega
 refine aW (azb ?_)
 generalize hP:((dF st).setIfInBounds i (sa,na+nb,pa)).eraseIdxIfInBounds (i+1)=P at gX hsz
 refine aW (jD hI (by omega) fun p1 kO qj=>aW (CQ hB.kind qj hI (by omega) (by omega) fun k hk=>?_))
 dsimp +instances only
 refine dP (fun _=>bF (h _ ⟨hB.perm,hB.kind,hB.failed⟩ gX hsz)) (fun hd=>?_)
 simp only[beq_iff_eq]at hd
 refine aW (jD hI (by omega) fun p2 mj u9=>aW (CQ hB.kind u9 hI (by omega) (by omega) fun n2 ER=>?_))
 dsimp +instances only
 refine dP (fun _=>bF (h _ ⟨hB.perm,hB.kind,hB.failed⟩ gX hsz)) (fun he=>?_)
 simp only[beq_iff_eq]at he
 refine dP (fun _=>aW (ay7 hB.kind (Lx hI) (Lx hI) (by rw[yY];omega) (by rw[yY];omega) fun out aU sg hp=>?_)) (fun _=>aW (ay6 hB.kind (Lx hI) (Lx hI) (by rw[yY];omega) (by rw[yY];omega) fun out aU sg hp=>?_))
 all_goals
  refine aW (rA (aW (rm (bF ?_))))
  have hf:zP aU=none:=sg.failed.trans hB.failed
  have ha:lV aU=lV st:=sg.arr
  have hpd:dF aU=P:=sg.pend
  show Q (zP aU).isNone _
  rw[hf]
  refine h _ ⟨?_,sg.kind.trans hB.kind,hf⟩ (by show Ch 0 (dF aU).toList lo;rw[hpd];exact gX) (by show(dF aU).size+1=_;rw[hpd];exact hsz)
  show(A4 (fun a (x:cL×Nat)=>a.setIfInBounds (sa+k+x.2) x.1) (lV aU) out.toList.zipIdx).Perm a₀
  rw[ha]
  exact(auz (by omega) (by omega) (by omega) hp).trans hB.perm
theorem aqc{c:Prop}[Decidable c]{a n:Nat}(h:a+1<n):(if c then a-1 else a)+1<n:=by split<;>omega
theorem ay8{st:cB}{Q:Unit->cB->Prop}(h0:IntKeys a₀)(hB:SF a₀ st)(hp:dF st=#[])(h:∀aU,SF a₀ aU->Q () aU):wpS (aN prog w) A E s sortRuns' Q st:=by
 refine aW (rm ?_)
 dsimp +instances only
 have Lq:((sortPriv% PySem.Builtin.SortState.a) st).size=a₀.size:=hB.size
 simp only[Lq]
 generalize (sortPriv% PySem.Builtin.minRun) a₀.size a₀.size 0=mr
 refine aW (lA (kB
  (I:=fun x c aU=>SF a₀ aU/\∃lo,c=(none,lo)/\Ch 0 (dF aU).toList lo/\lo<=a₀.size)
  (Q:=fun c aU=>SF a₀ aU/\∃lo,c=(none,lo)/\Ch 0 (dF aU).toList lo/\lo<=a₀.size) ?step (fun _ _ hh=>hh) ⟨hB,0,rfl,by rw[hp];rfl,fz _⟩) ?post)
 case step=>
  rintro x c aU _ hx ⟨sf,lo,rfl,gX,iX⟩
  dsimp +instances only
  refine dP (fun _=>bF ⟨sf,_,rfl,gX,iX⟩) (fun fK=>?_)
  refine aW (ay5 h0 (by omega) (by omega) ⟨sf,rfl⟩ fun m jk S2 m1 m2=>?_)
  dsimp +instances only
  refine dP (fun bQ=>?_) (fun bQ=>?_)
  ·refine aW (AJ (qY ⟨rfl,?_⟩))
   refine aW (ay4 h0 (by omega) S2 fun eU S3=>?_)
   rw[if_neg (by decide)]
   refine aW (rm ?_)
   cases hb:((sortPriv% PySem.Builtin.SortState.pending) eU).back? with
   |none=>
    dsimp +instances only
    refine aW (rA (bF ⟨⟨S3.sf.perm,S3.sf.kind,S3.sf.failed⟩,_,rfl,?_,by omega⟩))
    show Ch 0 ((dF eU).push _).toList _
    rw[xq,S3.pend]
    exact gX.snoc (by omega)
   |some q=>
    obtain⟨s1,n1,q1⟩:=q
    dsimp +instances only
    refine aW (lA (kB (I:=fun _ c cu=>SF a₀ cu/\Ch 0 (dF cu).toList lo/\c=(none,())) (Q:=fun c cu=>SF a₀ cu/\Ch 0 (dF cu).toList lo/\c=(none,())) ?_ (fun _ _ hh=>hh) ⟨S3.sf,by rw[S3.pend];exact gX,rfl⟩) ?_)
    ·rintro y c cu _ _ ⟨jC,nW,rfl⟩
     refine aW (rm ?_)
     try dsimp +instances only
     by_cases h2:(dF cu).size>1
     ·have g2:((sortPriv% PySem.Builtin.SortState.pending) cu).size>1:=h2
      rw[if_pos g2]
      obtain⟨⟨x1,x2,at8⟩,e4⟩:∃p,(dF cu)[(dF cu).size-2]?=some p:=⟨_,getElem?_pos _ _ (by omega)⟩
      rw[e4]
      dsimp +instances only
      refine dP (fun _=>bF ⟨jC,nW,rfl⟩) (fun _=>?_)
      have gz:((sortPriv% PySem.Builtin.SortState.pending) cu).size=(dF cu).size:=rfl
      exact aW (aaU h0 jC nW iX (by omega) fun cU Hs DW _=>bF ⟨Hs,DW,rfl⟩)
     ·have g2:¬((sortPriv% PySem.Builtin.SortState.pending) cu).size>1:=h2
      rw[if_neg g2]
      exact bF ⟨jC,nW,rfl⟩
    ·rintro c cu ⟨jC,nW,rfl⟩
     dsimp +instances only
     refine aW (rA (aW (rA (bF ⟨⟨jC.perm,jC.kind,jC.failed⟩,_,rfl,?_,by omega⟩))))
     show Ch 0 (((dF cu).modify _ _).push _).toList _
     rw[xq,alF]
     exact nW.mod.snoc (by omega)
  ·refine aW (rm ?_)
   cases hb:((sortPriv% PySem.Builtin.SortState.pending) jk).back? with
   |none=>
    dsimp +instances only
    refine aW (rA (bF ⟨⟨S2.sf.perm,S2.sf.kind,S2.sf.failed⟩,_,rfl,?_,by omega⟩))
    show Ch 0 ((dF jk).push _).toList _
    rw[xq,S2.pend]
    exact gX.snoc m1
   |some q=>
    obtain⟨s1,n1,q1⟩:=q
    dsimp +instances only
    refine aW (lA (kB (I:=fun _ c cu=>SF a₀ cu/\Ch 0 (dF cu).toList lo/\c=(none,())) (Q:=fun c cu=>SF a₀ cu/\Ch 0 (dF cu).toList lo/\c=(none,())) ?_ (fun _ _ hh=>hh) ⟨S2.sf,by rw[S2.pend];exact gX,rfl⟩) ?_)
    ·rintro y c cu _ _ ⟨jC,nW,rfl⟩
     refine aW (rm ?_)
     try dsimp +instances only
     by_cases h2:(dF cu).size>1
     ·have g2:((sortPriv% PySem.Builtin.SortState.pending) cu).size>1:=h2
      rw[if_pos g2]
      obtain⟨⟨x1,x2,at8⟩,e4⟩:∃p,(dF cu)[(dF cu).size-2]?=some p:=⟨_,getElem?_pos _ _ (by omega)⟩
      rw[e4]
      dsimp +instances only
      refine dP (fun _=>bF ⟨jC,nW,rfl⟩) (fun _=>?_)
      have gz:((sortPriv% PySem.Builtin.SortState.pending) cu).size=(dF cu).size:=rfl
      exact aW (aaU h0 jC nW iX (by omega) fun cU Hs DW _=>bF ⟨Hs,DW,rfl⟩)
     ·have g2:¬((sortPriv% PySem.Builtin.SortState.pending) cu).size>1:=h2
      rw[if_neg g2]
      exact bF ⟨jC,nW,rfl⟩
    ·rintro c cu ⟨jC,nW,rfl⟩
     dsimp +instances only
     refine aW (rA (aW (rA (bF ⟨⟨jC.perm,jC.kind,jC.failed⟩,_,rfl,?_,by omega⟩))))
     show Ch 0 (((dF cu).modify _ _).push _).toList _
     rw[xq,alF]
     exact nW.mod.snoc m1
 case post=>
  rintro c aU ⟨sf,lo,rfl,gX,iX⟩
  dsimp +instances only
  refine aW (lA (kB (I:=fun _ c cu=>SF a₀ cu/\Ch 0 (dF cu).toList lo/\c=(none,())) (Q:=fun c cu=>SF a₀ cu/\c=(none,())) ?_ (fun _ _ hh=>⟨hh.1,hh.2.2⟩) ⟨sf,gX,rfl⟩) ?_)
  ·rintro y c cu _ _ ⟨jC,nW,rfl⟩
   refine aW (rm ?_)
   try dsimp +instances only
   refine dP (fun _=>bF ⟨jC,rfl⟩) (fun h2=>?_)
   have pq:¬(dF cu).size<=1:=h2
   have gz:((sortPriv% PySem.Builtin.SortState.pending) cu).size=(dF cu).size:=rfl
   exact aW (aaU h0 jC nW iX (aqc (by omega)) fun cU Hs DW _=>bF ⟨Hs,DW,rfl⟩)
  ·rintro c cu ⟨jC,rfl⟩
   exact bF (h _ jC)
end
end Bb
namespace Bb
open PySem PyProof.Rows
section
variable{prog:cH}{w:cj}{A:cS}{E:ao->aB->Prop}{s:aB}
theorem aud{vs:List ao}{ns:List Int}(hI:nJ vs ns){xs:Array cL}(hp:xs.Perm (pairsOf vs)):∃ns',nJ (xs.map (·.2)).toList ns'/\ns'.Perm ns:=by
 have h1:(xs.map (·.2)).toList.Perm vs:=by
  have:=(CW.mp hp).map (·.2)
  rw[pairsOf_toList]at this
  have e:(vs.zip vs).map (·.2)=vs:=by
   rw[List.map_snd_zip]
   exact br _
  rw[e]at this
  simpa using this
 refine⟨_,intsAre_map _ fun v hv=>hI.all v (h1.mem_iff.mp hv),?_⟩
 have:=h1.map numOf
 rw[hI.nums]at this
 exact this
theorem awH{a:aa}{vs:List ao}{ns:List Int}{n:Nat}{P:Op->aB->Prop}(ho:s.heap.get? a=some (dZ "list" vs.toArray n)) (hI:nJ vs ns) (h2:2<=vs.length) (hz:vs.length<=10000)
  (fin:∀(out:Array ao) (ms:List Int),nJ out.toList ms->ms.Perm ns->P (.done (.ret .none)) {s with heap:=sortedHeap s.heap a vs out}) :
  aK (aN prog w) A (Builtin.«list.sort» ⟨[.ref a],[]⟩) P E s:=by
 rw[list_sort_plain]
 have la:a<s.heap.objs.size:=bV ho
 have U5:(10000:Nat)<=sizeLine:=by decide
 refine aF (Cd ho rfl (aF (Aj ho rfl ?_ (by rw[cV];omega) (fz _))))
 obtain⟨e1,o1⟩:∃e1,(s.heap.update a (eE fun _=>(#[]:Array ao))).get? a=some (dZ "list" #[] e1):=⟨_,UV ho fun _=>#[]⟩
 refine aF (aar o1 rfl (aF (alA ?_ (by show vs.length<=_;omega))))
 refine aF (Nm (jS ?_) (fz _))
 have o6:(((s.heap.update a (eE fun _=>(#[]:Array ao))).push (dZ "tuple" vs.toArray 0)).push (dZ "list" #[] 0)).get? a=some (dZ "list" #[] e1):=cM _ (cM _ o1)
 show aK (aN prog w) A _ P E {s with heap:=((s.heap.update a (eE fun _=>(#[]:Array ao))).push (dZ "tuple" vs.toArray 0)).push (dZ "list" #[] 0)}
 dsimp only
 have g2:¬vs.toArray.size<2:=by rw[cV];omega
 rw[if_neg g2,if_neg g2]
 obtain⟨v1,v2,r,rfl⟩:∃v1 v2 r,vs=v1::v2::r:=by
  match vs,h2 with
  |v1::v2::r,_=>exact⟨v1,v2,r,rfl⟩
 rw[keyKind_ints hI]
 refine aF (bJ ?_)
 refine aF (iP (ay8 (a₀:=pairsOf (v1::v2::r)) (Q:=fun _ aU=>SF (pairsOf (v1::v2::r)) aU) hI.intKeys ⟨Array.Perm.refl _,rfl,rfl⟩ rfl fun _ hh=>hh) ?_ fun _ _ e=>e)
 rintro⟨⟨⟩,aU⟩ s' ⟨rfl,sf⟩
 dsimp only
 have hsz:((lV aU).map (·.2)).size<=aX+1:=by
  rw[Array.size_map,sf.size,pairsOf_size]
  omega
 refine aF (aar o6 rfl (aF (Aj o6 rfl ?_ (fz _) hsz)))
 rw[sf.failed]
 simp only[bne_self_eq_false,lN,if_false]
 obtain⟨ms,m1,m2⟩:=aud hI sf.perm
 exact bJ (fin _ ms m1 m2)
theorem awI{l:aa}{vs:List ao}{ns:List Int}{Q:ao->aB->Prop}(hl:s.heap.IsList l vs.toArray)(hI:nJ vs ns)(h2:2<=vs.length)(hz:vs.length<=10000)
  (h:∀(out:Array ao) (ms:List Int),nJ out.toList ms->ms.Perm ns->Q (.ref (s.heap.objs.size+1)) {s with heap:=sortedAll s.heap vs out}) :
  aK (aN prog w) A (call (.builtin "sorted") [.ref l]) Q E s:=by
 have U5:(10000:Nat)<=sizeLine:=by decide
 refine alM kind_sorted plain_sorted entry_sorted (args_sorted1 _) ?_
 unfold Builtin.«sorted»
 refine aF (m:=checkCount "sorted" 1 1 _) (bJ ?_)
 refine aF (collect_list hl ?_ (by omega))
 refine aF (Nm ?_ (by omega))
 have e1:((s.heap.push (dZ "list" #[] 0)).update s.heap.objs.size (eE (·++vs.toArray))).objs.size=s.heap.objs.size+1:=by rw[NR,aat]
 have o2:(((s.heap.push (dZ "list" #[] 0)).update s.heap.objs.size (eE (·++vs.toArray))).push (dZ "list" vs.toArray 0)).get? (s.heap.objs.size+1)=some (dZ "list" vs.toArray 0):=by
  rw[<- e1]
  exact gn _ rfl
 show aK _ _ _ _ _ {s with heap:=((s.heap.push (dZ "list" #[] 0)).update s.heap.objs.size (eE (·++vs.toArray))).push (dZ "list" vs.toArray 0)}
 rw[e1]
 exact aF (jS (AI akM ⟨_,o2,rfl⟩ agm (awH o2 hI h2 hz fun out ms m1 m2=>⟨_,rfl,bJ ⟨_,rfl,h out ms m1 m2⟩⟩) (args_list_sort _)))
end
end Bb
namespace L2
open PySem PySem.Spec PyProof.Rows
section
variable{X:Cx}
theorem uM:jq X (.builtin "sorted") (fun xs H Q=>∃(a:aa) (ns:List Int),xs=[.ref a]/\dO X.K H a (ns.map V.int)/\ns.length<=10000/\∀(l:aa) (ms:List Int),H l=none->ms.Perm ns->(ns.length<64->ms.Pairwise (·<=·))->Q (.ref l) (upd H l (.lst (ms.map V.int)))):=by
 intro ah s σ H xs us Q I r h
 obtain⟨a,ns,rfl,hs,hz0,q⟩:=h
 rcases IG ns.length 64 with rT | rT
 ·exact ad9 ah s σ H _ us Q I r ⟨a,ns,rfl,hs,rT,fun l ms h1 h2 h3=>q l ms h1 h2 fun _=>h3⟩
 obtain⟨u,rfl,ru⟩:=vals1 r
 cases ru
 obtain⟨its,rv,p,hz⟩:=I.list hs
 have hI:=E8 rv
 have hl:its.length=ns.length:=by rw[<- rv.length,aC]
 refine Bb.awI p.isList hI (by omega) (by omega) fun out ms a1 a2=>?_
 obtain⟨e,he⟩:=sortedAll_at s.heap its out
 have EH:H (s.heap.objs.size+1)=none:=I.hok.fresh (uw _)
 refine⟨.ref _,_,I.laid (t':=s.toks) (a:=s.heap.objs.size+1) (o:=.lst (ms.map V.int)) (fun b o z=>sortedAll_old z) (uw _) ?_,rfl,q _ ms EH a2 fun z=>absurd z (by omega)⟩
 refine⟨?_,out.toList,e,HM a1,?_⟩
 ·rw[aC,a2.length_eq]
  rw[aC]at hz
  exact hz
 ·rw[he]
end
end L2
namespace L2
open PySem PySem.Spec PyProof.Rows PySem.W
section
variable{prog:cH}{w:cj}{A:cS}{E:ao->aB->Prop}{s:aB}
theorem avC{l sl b:aa}{its ys:Array ao}{n:Nat}{k:Int}{t:Tok}{Q:Unit->aB->Prop}(ho:s.heap.get? l=some (listOf its n))(hs:s.heap.IsSliceOf sl .none (.int k t) .none)(hb:s.heap.IsList b ys)(gM:l≠b)(h0:0<=k)(h1:k<=its.size)
  (hz:its.size+ys.size<=aX) (hQ:Q () {s with heap:=s.heap.update l (eE fun xs=>xs.extract 0 0++ys++xs.extract k.toNat xs.size)}):aK (aN prog w) A (MS (.ref l) (.ref sl) (.ref b)) Q E s:=by
 have hL:s.heap.IsList l its:=am2 (n:=n) ho
 obtain⟨os,e1,e2,e3⟩:=id hs
 have hT:s.TypeIs (.ref sl) "slice":=⟨os,e1,e2⟩
 unfold MS
 try with_reducible refine jS ?_
 first | refine aF (bJ ?_) | skip
 refine aF (wpAny_sequenceKey (hL.typeIs) (by decide) (aF (aaX (name:=rN "__setitem__") hL.typeIs slot_list_setitem (AI slot_list_setitem hL.typeIs entry_list_setitem ?_ (args_list_setitem _ _ _)))))
 show aK _ _ (alI (.ref sl) >>= _) _ _ s
 refine aF ?_
 unfold alI
 refine aF (aa0 hT slice_no_index ?_)
 rw[Option.isNone_none,if_pos rfl]
 refine bJ ?_
 dsimp only
 obtain⟨ob,b1,b2,nb,b3⟩:=id hb
 refine aF (No hT ?_)
 rw[if_neg (by decide),listSliceParts_eq]
 refine aF (aF (qX e1 e3 (x:=.none) rfl (aF (alz .none ?_))))
 rw[if_neg (by decide)]
 refine aF (qX e1 e3 (x:=.none) rfl (aF (alz .none (aF (qX e1 e3 (x:=.int k t) rfl (aF (alz (.int k t) (bJ ?_))))))))
 dsimp only
 have hsr:¬abr (.ref l) (.ref b)=true:=by
  show ¬(l == b)=true
  simpa using gM
 rw[if_neg hsr]
 unfold Builtin.List.listAllItems
 refine aF (aF (No (T:="list") ⟨ob,b1,b2⟩ ?_))
 rw[if_pos (by decide)]
 refine Cd b1 b3 (aF (Cd ho rfl ?_))
 have Vi:jj none (some k) none its.size=(0,k,1):=by
  have:max 0 (min k (its.size:Int))=k:=by omega
  have h2:¬k<0:=by omega
  simp[jj,h2,this]
 rw[sliceIndices_raw none (some k) none its.size (fun z=>by cases z),Vi]
 refine aF (bJ ?_)
 dsimp only
 rw[if_pos (by decide)]
 refine aF (qY ?_)
 have bQ:¬AL (its.size+ys.size)=true:=by
  unfold AL
  simp
  omega
 rw[if_neg bQ]
 have em:(max (0:Int) k).toNat=k.toNat:=by rw[Int.max_eq_right h0]
 rw[em]
 refine aF (Aj ho rfl ?_ (by omega) (by
  show((its.extract 0 (0:Int).toNat++ys)++its.extract k.toNat its.size).size<=_
  rw[abp,abp,yY,yY]
  show min 0 its.size-0+ys.size+_<=_
  omega))
 refine aF (CS ?_)
 exact bJ ⟨.none,rfl,bJ hQ⟩
theorem auX{t sl:aa}{v1 v2:ao}{tk:Tok}{Q:ao->aB->Prop}(ht:IsTup s.heap t #[v1,v2])(hs:s.heap.IsSliceOf sl .none .none (.int (-1) tk))(hQ:Q (.ref s.heap.objs.size) {s with heap:=s.heap.push {cls:=.type "tuple",data:=.seq #[v2,v1]}}) :
  aK (aN prog w) A (zS (.ref t) (.ref sl)) Q E s:=by
 obtain⟨os,e1,e2,e3⟩:=id hs
 have hT:s.TypeIs (.ref sl) "slice":=⟨os,e1,e2⟩
 unfold zS
 try with_reducible refine jS ?_
 first | refine aF (bJ ?_) | skip
 refine aF (wpAny_sequenceKey (ht.typeIs) (by decide) (aF (aaX (name:=rN "__getitem__") ht.typeIs acj (AI acj ht.typeIs PyProof.Rows.entry_tuple_getitem ?_ (PyProof.Rows.args_tuple_getitem _ _)))))
 show aK _ _ (Builtin.Tuple.tupleItemsOf (.ref t) >>= _) _ _ s
 refine aF (tupleItemsOf_ ht (aF (No hT ?_)))
 rw[if_pos (by decide)]
 refine aF ?_
 unfold Builtin.Slice.sliceApplied Builtin.Slice.sliceFields
 refine aF (aF (qX e1 e3 (x:=.none) rfl (aF (qX e1 e3 (x:=.none) rfl (aF (qX e1 e3 (x:=.int (-1) tk) rfl (bJ ?_)))))))
 refine aF (slicePart_int ?_)
 show aK _ _ (if((-1:Int) == 0)=true then _ else _) _ _ s
 rw[if_neg (by decide)]
 refine aF (slicePart_none (aF (slicePart_none (aF (bJ ?_)))))
 have ea:alJ none none (-1) (((#[v1,v2]:Array ao).size:Nat):Int)=(1,-1):=rfl
 have ep:abt 1 (-1) (-1)=2:=by decide
 show aK _ _ (match alJ none none (-1) (((#[v1,v2]:Array ao).size:Nat):Int)with | (x,y)=>pure (x,(-1:Int),abt x y (-1))) _ _ s
 rw[ea]
 show aK _ _ (pure ((1:Int),(-1:Int),abt 1 (-1) (-1))) _ _ s
 rw[ep]
 refine bJ ?_
 show aK _ _ (if((1:Int) == 0&&(-1:Int) == 1&&2 == 2)=true then _ else _) _ _ s
 rw[if_neg (by decide)]
 have hz:sizeOk (.seq #[v2,v1]):=by show 2<=aX;decide
 have hp:(NY (fun j:Nat=>(#[v1,v2]:Array ao)[((1:Int)+(j:Int)*(-1)).toNat]?) (bT 2)).toArray=#[v2,v1]:=rfl
 show aK _ _ (Builtin.Tuple.tupleExact (NY (fun j:Nat=>(#[v1,v2]:Array ao)[((1:Int)+(j:Int)*(-1)).toNat]?) (bT 2)).toArray >>= _) _ _ s
 rw[hp]
 exact aF (aaZ (bJ ⟨_,rfl,bJ hQ⟩) hz)
end
section
variable{X:Cx}
noncomputable def ayq(K:bG)(te ts:TE):TE:=fun σ H Q=>te σ H fun x H1=>ts σ H1 fun y H2=>y=.int (-1)/\∃a u v,x=.ref a/\gc K H2 a [u,v]/\∀p,H2 p=none->Q (.ref p) (upd H2 p (.tup [v,u]))
theorem aun{e st:aZ}{te ts:TE}{p2 pos:Pos}(he:PE X e te)(hs:PE X st ts):PE X (.Subscript e (.Slice none none (some st) p2) pos) (ayq X.K te ts):=by
 intro ah s σ H Q I h
 refine DB (aV (he ah s σ H _ I h) fun v s1 ⟨x,H1,I1,r1,q1⟩=>?_)
 refine Nl ?_
 rw[D4]
 refine bJ (bJ ?_)
 rw[D5]
 refine aV (hs ah s1 σ H1 _ I1 q1) fun w s3 ⟨y,H3,I3,r3,q3⟩=>?_
 obtain⟨rfl,a,u,v',rfl,hx,q⟩:=q3
 cases r1
 obtain⟨t,rfl⟩:=r3
 have I4:Inv X ah σ H3 {s3 with heap:=s3.heap.push {cls:=.type "slice",data:=.fields #[.none,.none,.int (-1) t]}}:=I3.kept (t':=s3.toks) fun b ob q=>cM _ q
 obtain⟨its,r,ht,hz⟩:=I4.tuple hx
 cases r with
 |cons ru r'=>
  cases r' with
  |cons rv r''=>
   cases r''
   show aK (aN X.prog X.w) X.A (HB e (.Slice none none (some st) p2) (.ref a) (.ref s3.heap.objs.size)) (EP X ah σ Q) X.xe {s3 with heap:=s3.heap.push {cls:=.type "slice",data:=.fields #[.none,.none,.int (-1) t]}}
   refine tail_any (ops:=[.ref a,.ref s3.heap.objs.size]) ht.typeIs acj.lookup ?_ (by with_unfolding_all rfl)
   refine auX ht (Ik ..) ?_
   refine⟨.ref _,_,I4.laid (t':=s3.toks) (o:=.tup [v',u]) (fun b ob q=>cM _ q) (br _) ?_,rfl,q _ (I4.hok.fresh (br _))⟩
   exact⟨by show 2<=aX;decide,_,.cons rv (.cons ru .nil),IsTup.new _ _⟩
theorem aqL(its vd:List ao)(n k:Nat):∃n',eE (fun zs=>zs.extract 0 0++vd.toArray++zs.extract k zs.size) {cls:=.type "list",data:=.seq its.toArray n}={cls:=.type "list",data:=.seq (vd++its.drop k).toArray n'}:=by
 have e:its.toArray.extract 0 0++vd.toArray++its.toArray.extract k its.toArray.size=(vd++its.drop k).toArray:=by
  apply Array.toList_inj.mp
  have:(its.drop k).take (its.length-k)=its.drop k:=zp (by rw[jV];exact br _)
  simp[Dj,this]
 refine⟨if(vd++its.drop k).toArray.size == its.toArray.size then n else n+1,?_⟩
 rw[<- e]
 rfl
noncomputable def agM(to tk:TE):TG:=fun v σ H Q=>to σ H fun x H1=>tk σ H1 fun y H2=>∃p xs k b ys,x=.ref p/\y=.int k/\v=.ref b/\H2 p=some (.lst xs)/\H2 b=some (.lst ys)/\p≠b/\0<=k/\k<=(xs.length:Int)/\xs.length+ys.length<=aX/\Q σ (upd H2 p (.lst (ys++xs.drop k.toNat)))
theorem aut{o i:aZ}{to ti:TE}{pos p2:Pos}(ho:PE X o to)(hi:PE X i ti):PG X (.Subscript o (.Slice none (some i) none p2) pos) (agM to ti):=by
 intro ah s σ H v u Q I r h
 rw[arm_assign_Subscript]
 refine aF (jS (aV (ho ah s σ H _ I h) fun ov s1 ⟨x,H1,I1,r1,q1⟩=>?_))
 refine aF (jS (Nl ?_))
 rw[D4]
 refine bJ ?_
 rw[D5]
 refine aV (hi ah s1 σ H1 _ I1 q1) fun iv s2 ⟨y,H2,I2,r2,q2⟩=>?_
 refine bJ ?_
 obtain⟨p,xs,k,b,ys,rfl,rfl,rfl,hp,hb,gM,k0,k1,hz,q⟩:=q2
 cases r1
 cases r
 obtain⟨t,rfl⟩:=r2
 have I4:Inv X ah σ H2 {s2 with heap:=s2.heap.push {cls:=.type "slice",data:=.fields #[.none,.int k t,.none]}}:=I2.kept (t':=s2.toks) fun b ob q=>cM _ q
 obtain⟨its,n,rx,hox,hzx⟩:=I4.lst hp
 obtain⟨vd,m,ry,hoy,hzy⟩:=I4.lst hb
 have hlx:=rx.length
 have hly:=ry.length
 refine aF (CU (aF (jS ?_)))
 refine avC hox (Ik ..) (am2 (n:=m) hoy) gM k0 (by rw[cV,<- hlx];exact k1) (by rw[cV,cV,<- hlx,<- hly];exact hz) ?_
 have e1:(k.toNat:Nat)<=its.length:=by omega
 obtain⟨n',en⟩:=aqL its vd n k.toNat
 have I5:=I4.aiL (f:=eE fun zs=>zs.extract 0 0++vd.toArray++zs.extract k.toNat zs.size) (ys:=ys++xs.drop k.toNat) (its':=vd++its.drop k.toNat) (n':=n') hp hox en (ry.append (rx.drop k.toNat)) (by rw[bW,jV];omega) s2.toks
 exact wpAny_release ⟨σ,_,I5,q⟩
theorem auE{o i e:aZ}{to ti te:TE}{pos p2 pos2:Pos}(ho:PE X o to)(hi:PE X i ti)(he:PE X e te)(hs:ak4 [.Subscript o (.Slice none (some i) none p2) pos] e pos2.line X.env=pure false:=by rfl)(hw:ak0 [.Subscript o (.Slice none (some i) none p2) pos] e X.env=pure none:=by rfl)
  (h1:(xP [.Subscript o (.Slice none (some i) none p2) pos] X.env).map (·.2)=[uI (.Subscript o (.Slice none (some i) none p2) pos) X.env]:=by rfl) :
  PS X (.Assign [.Subscript o (.Slice none (some i) none p2) pos] e pos2) (M6 te (agM to ti)):=Ge he (aut ho hi) hs hw h1
end
theorem le0{fd:bE}{ps:List Str}{us:List ao}(h:us.length=0)(k:oX fd ⟨[],[]⟩=pure (ps.zip [])):oX fd ⟨us,[]⟩=pure (ps.zip us):=by
 cases us with
 |nil=>exact k
 |cons _ _=>cases h
theorem iC{fd:bE}{ps:List Str}{us:List ao}(h:us.length=1)(k:∀a,oX fd ⟨[a],[]⟩=pure (ps.zip [a])):oX fd ⟨us,[]⟩=pure (ps.zip us):=by
 cases us with
 |nil=>cases h
 |cons _ t0=>
  cases t0 with
  |nil=>exact k _
  |cons _ _=>cases h
theorem eO{fd:bE}{ps:List Str}{us:List ao}(h:us.length=2)(k:∀a b,oX fd ⟨[a,b],[]⟩=pure (ps.zip [a,b])):oX fd ⟨us,[]⟩=pure (ps.zip us):=by
 cases us with
 |nil=>cases h
 |cons _ t0=>
  cases t0 with
  |nil=>cases h
  |cons _ t1=>
   cases t1 with
   |nil=>exact k _ _
   |cons _ _=>cases h
theorem yD{fd:bE}{ps:List Str}{us:List ao}(h:us.length=3)(k:∀a b c,oX fd ⟨[a,b,c],[]⟩=pure (ps.zip [a,b,c])):oX fd ⟨us,[]⟩=pure (ps.zip us):=by
 cases us with
 |nil=>cases h
 |cons _ t0=>
  cases t0 with
  |nil=>cases h
  |cons _ t1=>
   cases t1 with
   |nil=>cases h
   |cons _ t2=>
    cases t2 with
    |nil=>exact k _ _ _
    |cons _ _=>cases h
end L2
namespace K7
open PySem PySem.Spec PyProof.Rows L2 Tl
seal jt PS PE PT PW PA PG rK PI rL PC
section
variable{P:cH}{w:cj}{K:bG}{mg:Str->Option ao}{base:bL}{Z:Ad}
noncomputable def aw8:Sp:=fun vs H Q _=>∃a b:Bool,vs=[.bl a,.bl b]/\Q (.bl (a == b)) H
theorem aql:bz K (.type "bool") (.type "bool")=some true:=by rfl
theorem avj:bU ["_law_told","_law_due"] ["_law_told","_law_due"] (az wg):=⟨rfl,rfl,rfl,by decide +kernel,rfl,by decide +kernel,by decide +kernel⟩
theorem FY(T:Txt K mg Z):bD P w K mg base bK 1 Z.Ue Z.SD ["_law_told","_law_due"] aw8:=by
 refine T.cZ.fn.ok avj (fun vs H Q E h=>?_) (fun bg A outer s H vs Q E hr h=>?_)
 ·obtain⟨a,b,rfl,_⟩:=h
  rfl
 ·obtain⟨a,b,rfl,k⟩:=h
  refine⟨_,(aJ (aY (gO (bB lW rfl T.j3 boot_isinstance (aj (pv 0) (aj (mG rfl T.O6 boot_bool) aq))) (iZ (fW gv (pv 0) (pv 1) (bI _)))))),?_⟩
  refine⟨_,rfl,_,_,_,_,rfl,.bl a,aql,true,rfl,cJ ⟨_,rfl,_,rfl,rfl,?_⟩⟩
  have e:decide (V.bl a=V.bl b)=(a == b):=by cases a<;>cases b<;>rfl
  rw[e]
  exact k
noncomputable def aw':Sp:=fun vs H Q _=>∃(a:aa) (ks:List Int),vs=[.ref a]/\H a=some (.lst (ks.map V.int))/\ks.length<=1000/\∀H',ak H H'->Q (.bl (fO ks)) H'
theorem avk:bU ["_law_kinds"] ["_law_kinds"] (az sW):=⟨rfl,rfl,rfl,by decide +kernel,rfl,by decide +kernel,by decide +kernel⟩
theorem atw(T:Txt K mg Z):bD P w K mg base bK 1 Z.Ug Z.SH ["_law_kinds"] aw':=by
 refine T.xO.fn.ok avk (fun vs H Q E h=>?_) (fun bg A outer s H vs Q E hr h=>?_)
 ·obtain⟨a,ks,rfl,_⟩:=h
  rfl
 ·obtain⟨a,ks,rfl,ha,hl,k⟩:=h
  refine⟨_,(aJ (aY (bB (zJ rfl) rfl T.xR Bh (aj (jz (N:=["_law_k","_law_kinds"]) (cap:=[none,some 0]) rfl (iA (XN:=["_law_kinds"]) (xs:=(az sW).names) rfl rfl (by decide +kernel)) (Cr rfl T.xS (aj (bM mF (bB dI rfl T.cW dh (aj (pv 0) aq)) aD) aq)) (fun _ _ _=>(cK (i:=0) (show(["_law_k","_law_kinds"]:List Str).Nodup by decide +kernel) rfl (aT rfl) (eF rfl))) (fun _ _ _=>jO) (fun _ _ _=>(fW pL (cX (Wv (K:=K) rfl) (pv 1) (pv 0) (fun _ _=>rfl)) (cX (Wv (K:=K) rfl) (pv 1) (bM g9 (pv 0) aD) (fun _ _=>rfl)) (bI _)))) aq)))),?_⟩
  refine⟨_,rfl,a,_,rfl,.inl (.of ha),_,_,rfl,rfl,_,rfl,by rw[aC];omega,by rw[aC];omega,?_⟩
  have en:(((ks.map V.int).length:Int)-1).toNat=ks.length-1:=by rw[aC];omega
  rw[en]
  refine aqw (fun σ=>∃v,σ=[v,some (.ref a)]) (fun i=>.bl (!decide (ks.getD i 0=ks.getD (i+1) 0))) (by omega) ⟨_,rfl⟩ ?_ ?_
  ·rintro i σ' H' k2 r hi ⟨v,rfl⟩ sm hk
   have zU:=sm a _ ha
   refine⟨_,rfl,_,rfl,a,_,_,_,rfl,rfl,.of zU,p6 i (by omega) (by omega),_,rfl,_,rfl,_,_,rfl,rfl,a,_,_,_,rfl,rfl,.of zU,p6 (i+1) (by omega) (by omega),rfl,?_⟩
   have e:(!decide (V.int (ks.getD i 0)=V.int (ks.getD (i+1) 0)))=!decide (ks.getD i 0=ks.getD (i+1) 0):=by
    by_cases z:ks.getD i 0=ks.getD (i+1) 0
    ·rw[z];simp
    ·rw[decide_eq_false z,decide_eq_false fun q=>z (V.int.inj q)]
   rw[e]
   exact hk _ _ ⟨_,rfl⟩ (ak.refl _)
  ·intro D H' hD sm hA
   refine⟨.ref D,(bT (ks.length-1)).map fun i=>!decide (ks.getD i 0=ks.getD (i+1) 0),rfl,⟨D,rfl,.inl (.of ?_)⟩,?_⟩
   ·rw[hA,lE]
    rfl
   ·have e:((bT (ks.length-1)).map fun i=>!decide (ks.getD i 0=ks.getD (i+1) 0)).all id=fO ks:=by
     rw[rB,xj,kD]
     constructor
     ·intro h i hi
      have:=h (!decide (ks.getD i 0=ks.getD (i+1) 0)) (oO.mpr ⟨i,iG.mpr (by omega),rfl⟩)
      intro z
      rw[z]at this
      simp at this
     ·intro h b hb
      obtain⟨i,hi,rfl⟩:=oO.mp hb
      rw[decide_eq_false (h i (by have:=iG.mp hi;omega))]
      rfl
    rw[e]
    exact k H' sm
noncomputable def awW:Sp:=fun vs H Q _=>∃(a:aa) (ks:List Int) (c:Int),vs=[.ref a,.int c]/\H a=some (.lst (ks.map V.int))/\ks.length<=1000/\∀(l:aa) (ms:List Int) (H':Hp),ak H H'->H l=none->H' l=some (.lst (ms.map V.int))->ms.length<=ks.length+1->Q (.ref l) H'
theorem aas(ks:List Int)(j:Nat)(v:Int):(ks.map V.int).set j (.int v)=(ks.set j v).map V.int:=by rw[List.map_set]
theorem TQ{α β:Type}(f:α->β):∀(l:List α) (j:Nat),(l.map f).eraseIdx j=(l.eraseIdx j).map f
 | [],j=>by simp
 |x::l,0=>rfl
 |x::l,j+1=>by
  rw[dM,Iv,Iv,dM,TQ f l j]
theorem Fe{n:Nat}{i:Int}(h0:0<=i)(h1:i<(n:Int)):qk n i=some i.toNat:=by
 unfold qk
 rw[if_pos h0,if_pos h1]
theorem O3{ns:List Int}{i:Int}(h0:0<=i)(h1:i<(ns.length:Int)):j0 (ns.map V.int) i=some (.int (ns.getD i.toNat 0)):=p6 i.toNat (by omega) (by omega)
theorem MK:bU ["_law_kinds","_law_cell","_law_kind","_law_many_here","_law_at","_law_other","_law_found"] ["_law_kinds","_law_cell"] (az vR):=⟨rfl,rfl,rfl,by decide +kernel,rfl,by decide +kernel,by decide +kernel⟩
theorem Ml(T:Txt K mg Z):bD P w K mg base bK 2 Z.TV Z.Sj ["_law_kinds","_law_cell"] awW:=by
 have jU:=FW (P:=P) (w:=w) (base:=base) T
 refine T.kG.fn.ok MK (fun vs H Q E h=>?_) (fun bg A outer s H vs Q E hr h=>?_)
 ·obtain⟨a,ks,c,rfl,_⟩:=h
  rfl
 ·obtain⟨a,ks,c,rfl,ha,hl,k⟩:=h
  refine⟨_,(aH (Mw (i:=2) (j:=3) rfl MK.nd rfl rfl (by decide) rfl rfl (aj (aP jU (hr.mono (by decide)) rfl T.dH.mg T.dH.fn.kp T.dH.bd .nil aG (aj (pv 1) (aj aD (aj aD aq)))) (aj (bB dI rfl T.cW dh (aj (pv 0) aq)) aq)) rfl)
   (aH (bY (PW.pt (ji (cG gv (pv 3) aD (bI _)) (jP (cG gv (pv 2) aD (bI _))))) (aJ (aY (kj o7 rfl T.gU iJ (aj (pv 0) aq)))) b8)
   (aH (Mw (i:=4) (j:=5) rfl MK.nd rfl rfl (by decide) rfl rfl (aj (aP jU (hr.mono (by decide)) rfl T.dH.mg T.dH.fn.kp T.dH.bd .nil aG (aj (pv 1) (aj aD (aj (pv 3) aq)))) (aj (aP jU (hr.mono (by decide)) rfl T.dH.mg T.dH.fn.kp T.dH.bd .nil aG (aj (pv 1) (aj aD (aj (pv 3) aq)))) aq)) rfl)
   (aH (bR (i:=6) MK.nd rfl (aT rfl) (kj o7 rfl T.gU iJ (aj (pv 0) aq)))
   (aH (bY (cG Mq (pv 2) (i6 (aj aD (aj aD aq))) rfl) (aJ (Ge (i6 (aj (cX eZ (pv 0) (pv 5) (fun _ _=>rfl)) (aj (cX eZ (pv 0) (pv 4) (fun _ _=>rfl)) aq))) (yN (n:=2) rfl (i8 (Gb (pv 6) (pv 4) Hr) (i8 (Gb (pv 6) (pv 5) Hr) qy))))) b8)
   (aH (bY (cG gv (pv 2) aD (bI _)) (aJ (fX (ie gT aco acr aiP (pv 6) (aj (pv 4) aq)))) b8)
   (aH (bY (cG gv (pv 2) aD (bI _)) (aJ (aY (bM yK (bM yK (sN tL (pv 0) vA (qz (pv 4))) (dD (aj (cX ou (i6 (aj aD (aj (sO tX aD) (aj aD aq)))) (aP jU (hr.mono (by decide)) rfl T.dH.mg T.dH.fn.kp T.dH.bd .nil aG (aj (pv 1) (aj aD (aj aD aq)))) (fun _ _=>rfl)) aq))) (sN tL (pv 0) (qz (pv 4)) vA)))) b8)
   (aH (bY (cG gv (pv 2) aD (bI _)) (aJ (Ge (cX eZ (pv 0) (pv 5) (fun _ _=>rfl)) (Gb (pv 6) (pv 4) Hr))) b8)
   (aH (bY (cG gv (pv 2) aD (bI _)) (aJ (aY (aum (pv 0) (sO tX aD)))) b8)
   (aJ (aY (aje (cG gv (pv 2) aD (bI _)) (bB uM rfl T.mW oY (aj (pv 0) aq)) (pv 6))))))))))))),?_⟩
  refine⟨_,rfl,_,_,_,rfl,by decide,fun kd H1 k0 k1 s1=>?_⟩
  have zV:=s1 a _ ha
  refine⟨_,rfl,a,_,rfl,.inl (.of zV),_,_,rfl,?_⟩
  refine d9 ?_
  refine gR (fun σ' H'=>σ'=[some (.ref a),some (.int c),some (.int kd),some (.int (ks.length:Int)),none,none,none]/\H'=H1/\ks≠[]/\kd≠0) (fun k2 bA=>?_) (fun σ' H' hj=>?_)
  ·refine⟨_,rfl,rfl,_,rfl,dj (fun hc=>cJ ?_) (fun hc=>?_)⟩
   ·exact⟨_,rfl,a,_,rfl,.inl (.of zV),fun l bS=>k l ks _ (s1.upd (s1.free bS)) (s1.free bS) au (by omega)⟩
   ·refine⟨_,rfl,rfl,_,rfl,dj (fun hd=>?_) (fun hd=>?_)⟩
    ·exact⟨_,rfl,a,_,rfl,.inl (.of zV),fun l bS=>k l ks _ (s1.upd (s1.free bS)) (s1.free bS) au (by omega)⟩
    ·refine bA _ _ ⟨?_,rfl,fun z=>hc ?_,fun z=>hd ?_⟩
     ·rw[aC];rfl
     ·rw[z];rfl
     ·rw[z];rfl
  obtain⟨rfl,rfl,gM,hk0⟩:=hj
  have hlp:0<ks.length:=amK.mpr gM
  have Vc:=s1 a _ ha
  clear zV
  refine⟨_,rfl,_,rfl,_,_,_,rfl,by omega,fun cA H2 p0 p1 s2=>?_⟩
  refine⟨_,rfl,_,rfl,_,_,_,rfl,by omega,fun ot H3 q0 q1 s3=>⟨_,_,rfl,?_⟩⟩
  refine d9 ?_
  have dJ:=s1.trans (s2.trans s3)
  have KY:=dJ a _ ha
  refine⟨_,rfl,a,_,rfl,.inl (.of KY),fun fl pD=>?_⟩
  have zZ:=dJ.free pD
  have s4:=dJ.upd (o:=.lst (ks.map V.int)) zZ
  have Vy:(upd H3 fl (.lst (ks.map V.int))) fl=some (.lst (ks.map V.int)):=au
  have ha4:=s4 a _ ha
  have naf:a≠fl:=bf ha zZ
  generalize upd H3 fl (.lst (ks.map V.int))=H4 at s4 Vy ha4
  refine d9 ?_
  -- two azz
  refine gR (fun σ' H'=>∃fs:List Int,σ'=[some (.ref a),some (.int c),some (.int kd),some (.int (ks.length:Int)),some (.int cA),some (.int ot),some (.ref fl)]/\ak H H'/\H' fl=some (.lst (fs.map V.int))/\fs.length=ks.length) (fun k2 bA=>?_) (fun σ' H' hj=>?_)
  ·refine⟨_,rfl,by show 2<=aX;decide,fun t ht=>?_⟩
   have s5:=s4.upd (o:=.tup [.int 1,.int 2]) (s4.free ht)
   have uS:(upd H4 t (.tup [.int 1,.int 2])) fl=some (.lst (ks.map V.int)):=by rw[aA (bf Vy ht)];exact Vy
   refine⟨t,[.int 1,.int 2],rfl,.inr (.of au),rfl,rfl,_,rfl,dj (fun _=>?_) (fun _=>?_)⟩
   ·generalize upd H4 t (.tup [.int 1,.int 2])=H5 at s5 uS
    have ha5:=s5 a _ ha
    refine⟨_,rfl,_,rfl,a,_,_,_,rfl,rfl,.of ha5,O3 q0 (by omega),_,rfl,_,rfl,a,_,_,_,rfl,rfl,.of ha5,O3 p0 (by omega),?_⟩
    refine⟨by show 2<=aX;decide,fun p hp=>?_⟩
    have s6:=s5.upd (o:=.tup [.int (ks.getD ot.toNat 0),.int (ks.getD cA.toNat 0)]) (s5.free hp)
    have EF:(upd H5 p (.tup [.int (ks.getD ot.toNat 0),.int (ks.getD cA.toNat 0)])) fl=some (.lst (ks.map V.int)):=by rw[aA (bf uS hp)];exact uS
    refine⟨p,_,rfl,.of au,rfl,_,_,rfl,?_⟩
    generalize upd H5 p (.tup [.int (ks.getD ot.toNat 0),.int (ks.getD cA.toNat 0)])=H6 at s6 EF
    refine⟨_,rfl,_,rfl,fl,_,_,_,rfl,rfl,EF,Fe p0 (by rw[aC];omega),?_⟩
    refine⟨_,_,rfl,_,rfl,_,rfl,fl,_,_,_,rfl,rfl,au,Fe q0 (by rw[uo,aC];omega),rfl,?_⟩
    refine bA _ _ ⟨(ks.set cA.toNat (ks.getD ot.toNat 0)).set ot.toNat (ks.getD cA.toNat 0),rfl,(s6.upd zZ).upd zZ,?_,?_⟩
    ·rw[au,aas,aas]
    ·rw[uo,uo]
   ·exact bA _ _ ⟨ks,rfl,s5,uS,rfl⟩
  obtain⟨fs,rfl,s5,uS,hfs⟩:=hj
  -- one less
  refine gR (fun σ' H'=>∃fs:List Int,σ'=[some (.ref a),some (.int c),some (.int kd),some (.int (ks.length:Int)),some (.int cA),some (.int ot),some (.ref fl)]/\ak H H'/\H' fl=some (.lst (fs.map V.int))/\fs.length<=ks.length/\(kd≠3->fs.length=ks.length)) (fun k2 bA=>?_) (fun σ' H6 hj=>?_)
  ·refine⟨_,rfl,rfl,_,rfl,dj (fun hc=>?_) (fun hc=>?_)⟩
   ·refine⟨_,rfl,ir uS,_,rfl,fl,_,_,cA.toNat,.int (fs.getD cA.toNat 0),rfl,rfl,uS,by omega,by omega,?_,?_,?_⟩
    ·rw[aC,hfs];exact ane p0 (by omega)
    ·rw[dG,eX,bZ (by omega)];rfl
    ·refine bA _ _ ⟨fs.eraseIdx cA.toNat,rfl,s5.upd zZ,?_,?_,fun z=>absurd (V.int.inj (of_decide_eq_true hc)) z⟩
     ·rw[au,TQ]
     ·rw[amJ];split<;>omega
   ·exact bA _ _ ⟨fs,rfl,s5,uS,by omega,fun _=>hfs⟩
  obtain⟨fs2,rfl,s6,EF,ag3,aoO⟩:=hj
  have ha6:=s6 a _ ha
  -- one more
  refine gR (fun σ' H'=>σ'=[some (.ref a),some (.int c),some (.int kd),some (.int (ks.length:Int)),some (.int cA),some (.int ot),some (.ref fl)]/\H'=H6) (fun k2 bA=>?_) (fun σ' H' hj=>?_)
  ·refine⟨_,rfl,rfl,_,rfl,dj (fun hc=>?_) (fun hc=>?_)⟩
   ·have ep:((cA.toNat:Nat):Int)=cA:=C9 p0
    refine⟨_,rfl,_,rfl,cA,rfl,a,_,rfl,.of ha6,fun q1 m9=>?_⟩
    have s7:=s6.upd (o:=.lst (lX (ks.map V.int) none (some cA))) (s6.free m9)
    have e1:lX (ks.map V.int) none (some cA)=(ks.take cA.toNat).map V.int:=by rw[<- DZ,ep]
    rw[e1]at s7 ⊢
    have BA:(upd H6 q1 (.lst ((ks.take cA.toNat).map V.int))) q1=some (.lst ((ks.take cA.toNat).map V.int)):=au
    generalize upd H6 q1 (.lst ((ks.take cA.toNat).map V.int))=H7 at s7 BA
    refine⟨1,rfl,by show 3<=aX;decide,fun t ht=>?_⟩
    have s8:=s7.upd (o:=.tup [.int 5,.int (-1),.int 901]) (s7.free ht)
    have yf:(upd H7 t (.tup [.int 5,.int (-1),.int 901])) q1=some (.lst ((ks.take cA.toNat).map V.int)):=by rw[aA (bf BA ht)];exact BA
    have qh:(upd H7 t (.tup [.int 5,.int (-1),.int 901])) t=some (.tup ([5,-1,901].map V.int)):=au
    refine⟨_,rfl,_,_,_,rfl,by decide,fun d H9 d0 d1 s9=>?_⟩
    generalize upd H7 t (.tup [.int 5,.int (-1),.int 901])=H8 at s8 yf qh s9
    obtain⟨v,hv,eG⟩:=O4 (xs:=[5,-1,901]) d0 d1
    refine⟨t,_,_,_,rfl,rfl,.of (s9 t _ qh),eG,by show 1<=aX;decide,fun q2 hq2=>?_⟩
    have ig:=(s8.trans s9).upd (o:=.lst [.int v]) ((s8.trans s9).free hq2)
    have hc3:(upd H9 q2 (.lst [.int v])) q1=some (.lst ((ks.take cA.toNat).map V.int)):=by rw[aA (bf (s9 q1 _ yf) hq2)];exact s9 q1 _ yf
    have hc4:(upd H9 q2 (.lst [.int v])) q2=some (.lst [.int v]):=au
    generalize upd H9 q2 (.lst [.int v])=fh at ig hc3 hc4
    have U5:(10000:Nat)<=sizeLine:=by decide
    have Ac:(ks.take cA.toNat).length<=1000:=by rw[jr];omega
    refine⟨q1,q2,_,_,rfl,rfl,hc3,hc4,by rw[aC];show _+1<=_;omega,fun q3 oq=>?_⟩
    have lK:=ig.upd (o:=.lst ((ks.take cA.toNat).map V.int++[.int v])) (ig.free oq)
    have Vk:(upd fh q3 (.lst ((ks.take cA.toNat).map V.int++[.int v]))) q3=some (.lst ((ks.take cA.toNat).map V.int++[.int v])):=au
    generalize upd fh q3 (.lst ((ks.take cA.toNat).map V.int++[.int v]))=pT at lK Vk
    refine⟨_,rfl,_,rfl,cA,rfl,a,_,rfl,.of (lK a _ ha),fun q4 Ln=>?_⟩
    have e2:lX (ks.map V.int) (some cA) none=(ks.drop cA.toNat).map V.int:=by rw[<- Jd,ep]
    rw[e2]
    have mK:=lK.upd (o:=.lst ((ks.drop cA.toNat).map V.int)) (lK.free Ln)
    have hc6:(upd pT q4 (.lst ((ks.drop cA.toNat).map V.int))) q3=some (.lst ((ks.take cA.toNat).map V.int++[.int v])):=by rw[aA (bf Vk Ln)];exact Vk
    have hdl:(ks.drop cA.toNat).length<=1000:=by rw[jV];omega
    refine⟨q3,q4,_,_,rfl,rfl,hc6,au,by rw[bW,aC,aC];show _+1+_<=_;omega,fun q5 BQ=>?_⟩
    refine k q5 (ks.take cA.toNat++[v]++ks.drop cA.toNat) _ (mK.upd (mK.free BQ)) (mK.free BQ) ?_ ?_
    ·rw[au,fD,fD];rfl
    ·rw[bW,bW,jr,jV];show _+1+_<=_;omega
   ·exact bA _ _ ⟨rfl,rfl⟩
  obtain⟨rfl,rfl⟩:=hj
  refine gR (fun σ' H'=>∃fs:List Int,σ'=[some (.ref a),some (.int c),some (.int kd),some (.int (ks.length:Int)),some (.int cA),some (.int ot),some (.ref fl)]/\ak H H'/\H' fl=some (.lst (fs.map V.int))/\fs.length<=ks.length) (fun k2 bA=>?_) (fun σ' H7 hj=>?_)
  ·refine⟨_,rfl,rfl,_,rfl,dj (fun hc=>?_) (fun hc=>?_)⟩
   ·have e5:kd=5:=V.int.inj (of_decide_eq_true hc)
    have hz:=aoO (by omega)
    refine⟨_,rfl,_,rfl,a,_,_,_,rfl,rfl,.of ha6,O3 q0 (by omega),_,rfl,_,rfl,fl,_,_,_,rfl,rfl,EF,Fe p0 (by rw[aC];omega),?_⟩
    refine bA _ _ ⟨fs2.set cA.toNat (ks.getD ot.toNat 0),rfl,s6.upd zZ,?_,?_⟩
    ·rw[au,aas]
    ·rw[uo];exact ag3
   ·exact bA _ _ ⟨fs2,rfl,s6,EF,ag3⟩
  obtain⟨fs3,rfl,s7,hf7,azl⟩:=hj
  have ha7:=s7 a _ ha
  refine gR (fun σ' H'=>σ'=[some (.ref a),some (.int c),some (.int kd),some (.int (ks.length:Int)),some (.int cA),some (.int ot),some (.ref fl)]/\H'=H7) (fun k2 bA=>?_) (fun σ' H' hj=>?_)
  ·refine⟨_,rfl,rfl,_,rfl,dj (fun hc=>?_) (fun hc=>?_)⟩
   ·refine⟨_,rfl,1,rfl,rfl,a,_,rfl,.of ha7,fun l bS=>?_⟩
    refine k l ks.reverse _ (s7.upd (s7.free bS)) (s7.free bS) ?_ (by rw[amL];omega)
    rw[au,List.map_reverse]
   ·exact bA _ _ ⟨rfl,rfl⟩
  obtain⟨rfl,rfl⟩:=hj
  refine⟨_,rfl,rfl,_,rfl,dj (fun hc=>?_) (fun hc=>?_)⟩
  ·refine⟨_,rfl,a,ks,rfl,.of ha7,by omega,fun l ms bS qd _=>?_⟩
   exact k l ms _ (s7.upd (s7.free bS)) (s7.free bS) au (by rw[qd.length_eq];omega)
  ·exact⟨_,rfl,k fl fs3 _ s7 zZ hf7 (by omega)⟩
noncomputable def aw9(K:bG):Sp:=fun vs H Q _=>∃(h l:aa) (ns ks:List Int) (n:Int),vs=[.ref h,.ref l,.int n]/\H h=some (.lst (ns.map V.int))/\ns.length<=63/\H l=some (.lst (ks.map V.int))/\ks.length<=100000/\(jR ks).length<=10000/\(-(2^64)<n/\n<2^64)/\∀H',ak H H'->Q (.bl (LO ks ns n)) H'
theorem awJ{xs ys oz ms2:List Int}(p1:oz.Perm xs)(u1:oz.Pairwise (·<=·))(p2:ms2.Perm ys)(u2:ms2.Pairwise (·<=·)):decide (oz=ms2)=decide (xs.Perm ys):=by
 by_cases h:xs.Perm ys
 ·rw[decide_eq_true h,decide_eq_true (PySem.W.ksm_same ((p1.trans h).trans p2.symm) u1 u2)]
 ·rw[decide_eq_false h,decide_eq_false fun(e:oz=ms2)=>h (p1.symm.trans (e▸p2))]
theorem MW{xs ys oz ms2:List Int}(p1:oz.Perm xs)(u1:xs.length<64->oz.Pairwise (·<=·))(p2:ms2.Perm ys)(u2:ys.length<64->ms2.Pairwise (·<=·))(hy:ys.length<64):decide (oz=ms2)=decide (xs.Perm ys):=by
 rcases IG xs.length 64 with z | z
 ·exact awJ p1 (u1 z) p2 (u2 hy)
 ·have n1:¬xs.Perm ys:=fun h=>by have:=h.length_eq;omega
  have n2:¬oz=ms2:=fun h=>by
   have a:=p1.length_eq
   have b:=p2.length_eq
   rw[h]at a
   omega
  rw[decide_eq_false n1,decide_eq_false n2]
theorem Ho:bU ["_law_heap_here","_law_kinds","_law_apart","_law_seen","_law_at","_law_most_here","_law_many_here"] ["_law_heap_here","_law_kinds","_law_apart"] (az qH):=⟨rfl,rfl,rfl,by decide +kernel,rfl,by decide +kernel,by decide +kernel⟩
theorem atv(T:Txt K mg Z):bD P w K mg base bK 3 Z.Uf Z.SE ["_law_heap_here","_law_kinds","_law_apart"] (aw9 K):=by
 have alY:=atq (P:=P) (w:=w) (base:=base) T
 have AR:=ZI (P:=P) (w:=w) (base:=base) T
 refine T.DM.fn.ok Ho (fun vs H Q E h=>?_) (fun bg A outer s H vs Q E hr h=>?_)
 ·obtain⟨h,l,ns,ks,n,rfl,_⟩:=h
  rfl
 ·obtain⟨h,l,ns,ks,n,rfl,hh,cT,hk,cE,n9,hn,k⟩:=h
  have hu:=pH hr
  have iM:=hr.units
  refine⟨_,(aH (bY (cG (qx iM) (bB uM rfl T.mW oY (aj (jz (N:=["_law_kind"]) (cap:=[none]) rfl (iA (XN:=["_law_heap_here","_law_kinds","_law_apart","_law_seen","_law_at","_law_most_here","_law_many_here"]) (xs:=(az qH).names) rfl rfl (by decide +kernel)) (gf (pv 1)) (fun _ _ _=>(cK (i:=0) (show(["_law_kind"]:List Str).Nodup by decide +kernel) rfl (aT rfl) (eF rfl))) (fun _ _ _=>(Mx (cG pL (pv 0) (sO tX aD) (bI _)))) (fun _ _ _=>(pv 0))) aq)) (bB uM rfl T.mW oY (aj (pv 0) aq)) (bI _)) (aJ (aY cP)) b8)
   (aH (bR (i:=3) Ho.nd rfl (aT rfl) Mt)
   (aH (iF iy rfl (Cr rfl T.xS (aj (bB dI rfl T.cW dh (aj (pv 1) aq)) aq)) (cK (i:=4) Ho.nd rfl (aT rfl)) (aH (bY (PW.pt (qA (aki (ajd hu (cX eZ (pv 1) (pv 4) (fun _ _=>rfl)) (pv 3))) (qA (cG pL (cX eZ (pv 1) (pv 4) (fun _ _=>rfl)) (sO tX aD) (bI _)) (vC (cG oG (bM mF (pv 4) (At hu (pv 3) (cX eZ (pv 1) (pv 4) (fun _ _=>rfl)) (fun _ _=>rfl))) (pv 2) (bI _)))))) (aJ (aY cP)) b8)
   (aJ (Gf hu (pv 3) (cX eZ (pv 1) (pv 4) (fun _ _=>rfl)) (pv 4) rfl))))
   (aH (bR (i:=5) Ho.nd rfl (eF rfl) (aP alY (hr.mono (by decide)) rfl T.DI.mg T.DI.fn.kp T.DI.bd .nil aG (aj (pv 0) aq)))
   (aH (bR (i:=6) Ho.nd rfl (aT rfl) (bB dI rfl T.cW dh (aj (jz (N:=["_law_kind","_law_count","_law_most_here"]) (cap:=[none,none,some 5]) rfl (iA (XN:=["_law_heap_here","_law_kinds","_law_apart","_law_seen","_law_at","_law_most_here","_law_many_here"]) (xs:=(az qH).names) rfl rfl (by decide +kernel)) (Cq (sJ uB A9 Dy Ci (aP AR (hr.mono (by decide)) rfl T.mV.mg T.mV.fn.kp T.mV.bd .nil aG (aj (pv 0) aq)))) (fun _ _ _=>(Mu (K:=K) (n:=2) rfl rfl (i8 (cK (i:=0) (show(["_law_kind","_law_count","_law_most_here"]:List Str).Nodup by decide +kernel) rfl (aT rfl) (eF rfl)) (i8 (cK (i:=1) (show(["_law_kind","_law_count","_law_most_here"]:List Str).Nodup by decide +kernel) rfl (aT rfl) (eF rfl)) qy)))) (fun _ _ _=>(Mx (cG gv (pv 1) (pv 2) (bI _)))) (fun _ _ _=>(pv 0))) aq)))
   (aJ (aY (fW Mq (bB dI rfl T.cW dh (aj (pv 1) aq)) (dD (aj (bB dI rfl T.cW dh (aj (pv 0) aq)) (aj (bM g9 (bM oH (bM mF (pv 5) aD) (pv 2)) (pv 6)) aq))) rfl)))))))),?_⟩
  refine⟨_,rfl,l,rfl,⟨_,.of hk⟩,LS (fun σ=>∃v,σ=[v]) Fg (by rw[aC];omega) ⟨none,rfl⟩ (.of hk) ?_ ?_⟩
  ·rintro i x σ' H' k2 r hx ⟨v0,rfl⟩ sm bA sy
   obtain⟨m,hm,rfl⟩:=j7 hx
   refine⟨_,rfl,1,rfl,rfl,_,rfl,?_⟩
   rw[CP]
   refine dj (fun hc=>⟨_,rfl,bA _ _ _ (if_pos hc) ⟨_,rfl⟩ (ak.refl _)⟩) (fun hc=>sy _ _ (if_neg hc) ⟨_,rfl⟩ (ak.refl _))
  intro D H2 hD s2 hA
  rw[alb]at hA
  refine⟨D,_,rfl,.of hA,by omega,fun q1 oz m9 sP up1=>?_⟩
  have s3:ak H (upd H2 q1 (.lst (oz.map V.int))):=s2.upd (s2.free m9)
  refine⟨_,rfl,h,_,rfl,.of (s3 h _ hh),by omega,fun q2 ms2 hq2 sQ AD=>?_⟩
  have nq:q1≠q2:=bf au hq2
  have s4:ak H (upd (upd H2 q1 (.lst (oz.map V.int))) q2 (.lst (ms2.map V.int))):=s3.upd (s3.free hq2)
  refine⟨_,_,ju (.of (by rw[aA nq];exact au)),ju (.of au),shaped_ints _,shaped_ints _,_,rfl,?_⟩
  rw[Jm,MW sP up1 sQ AD (by omega)]
  generalize upd (upd H2 q1 (.lst (oz.map V.int))) q2 (.lst (ms2.map V.int))=H4 at s4
  unfold LO at k
  cases hq:decide ((jR ks).Perm ns) with
  |false=>
   rw[hq,iQ]at k
   exact cJ (k H4 s4)
  |true=>
   rw[hq,iu]at k
   refine bH ?_
   intro d hd
   have K2:H d=none:=s4.free hd
   have s5:ak H (upd H4 d (.dK [])):=s4.upd K2
   refine⟨_,rfl,l,_,rfl,.inl (.of (s5 l _ hk)),_,rfl,by rw[aC];omega,by rw[aC];omega,?_⟩
   have en:(((ks.map V.int).length:Int)).toNat=ks.length:=by rw[aC];omega
   rw[en]
   refine En (lo:=0) (n:=ks.length) (fun i σ H2=>(∃v4:Option V,σ=[some (.ref h),some (.ref l),some (.int n),some (.ref d),v4,none,none])/\ak H H2/\H2 d=some (.dK (kvs (jQ ks i)))/\∀j,j<i->near ks n j=false)
    ⟨⟨none,rfl⟩,s5,au,fun j hj=>absurd hj (ab8 _)⟩ (fun i σ H2 uX hP=>?_) (fun σ H2 hP=>?_)
   ·obtain⟨⟨v4,rfl⟩,s6,K1,cR⟩:=hP
    have kM:=s6 l _ hk
    have eG:j0 (ks.map V.int) (0+(i:Int))=some (.int (ks.getD i 0)):=p6 i (by omega) uX
    refine gR (fun σ' H'=>σ'=[some (.ref h),some (.ref l),some (.int n),some (.ref d),some (.int (0+(i:Int))),none,none]/\H'=H2/\near ks n i=false) (fun k2 bA=>?_) (fun σ' H' hz=>?_)
    ·have hv:gj (kvs (jQ ks i)) (cN (ks.getD i 0):Key)=(get (jQ ks i) (ks.getD i 0)).map V.int:=oN _ _
     refine⟨_,rfl,_,rfl,l,_,_,_,rfl,rfl,.of kM,eG,_,rfl,d,_,rfl,gm.k (k:=cN (ks.getD i 0)) K1,_,rfl,?_⟩
     rw[hv]
     cases hg:get (jQ ks i) (ks.getD i 0) with
     |none=>
      refine bH (bH (bA _ _ ⟨rfl,rfl,?_⟩))
      unfold near
      rw[hg]
      simp
     |some y=>
      have g:gm H2 d (.int (ks.getD i 0)) (some (.int y)):=by
       have:=gm.k (k:=cN (ks.getD i 0)) K1
       rw[hv,hg]at this
       exact this
      refine cJ ?_
      refine⟨_,rfl,_,rfl,l,_,_,_,rfl,rfl,.of kM,eG,1,rfl,rfl,_,rfl,?_⟩
      rw[CP]
      refine dj (fun h1=>?_) (fun h1=>bH (bA _ _ ⟨rfl,rfl,?_⟩))
      ·refine⟨_,rfl,_,rfl,_,rfl,_,rfl,l,_,_,_,rfl,rfl,.of kM,eG,d,_,rfl,g,_,_,rfl,rfl,_,rfl,_,_,rfl,rfl,_,rfl,?_⟩
       refine dj (fun h2=>?_) (fun h2=>bA _ _ ⟨rfl,rfl,?_⟩)
       ·have e:oW ks n=false:=by
         cases hb:oW ks n with
         |false=>rfl
         |true=>
          have:=DQ.mp hb i uX
          unfold near at this
          have pe:decide (ks.getD i 0≠-1)=true:=h1
          have pq:decide ((i:Int)-y<n)=true:=decide_eq_true (by have:=of_decide_eq_true h2;omega)
          rw[hg,pe]at this
          simp only[IL,ux,iu,pq]at this
          cases this
        rw[e,iQ]at k
        exact k _ s6
       ·unfold near
        rw[hg]
        have pq:¬decide ((i:Int)-y<n)=true:=fun z=>h2 (decide_eq_true (by have:=of_decide_eq_true z;omega))
        simp only[IL,ux,iu]
        cases hq2:decide ((i:Int)-y<n) with
        |true=>exact absurd hq2 pq
        |false=>simp
      ·unfold near
       cases hq2:decide (ks.getD i 0≠-1) with
       |true=>exact absurd hq2 h1
       |false=>rfl
    obtain⟨rfl,rfl,gM⟩:=hz
    refine⟨_,rfl,_,rfl,_,rfl,_,rfl,l,_,_,_,rfl,rfl,.of kM,eG,d,_,rfl,uc.k (k:=cN (ks.getD i 0)) K1 (pQ (by rw[Fy];have:=aaq ks i;omega)),⟨_,rfl⟩,s6.upd K2,?_,fun j hj=>?_⟩
    ·rw[au,Ct,MR,Int.zero_add]
    ·rcases IG j i with z | z
     ·exact cR j z
     ·have:j=i:=by omega
      rw[this];exact gM
   ·obtain⟨⟨v4,rfl⟩,s6,K1,cR⟩:=hP
    rw[DQ.mpr cR,iu]at k
    refine⟨_,rfl,h,ns,rfl,.of (s6 h _ hh),by omega,fun H7 s7=>?_⟩
    have Z9:=s6.trans s7
    refine⟨_,rfl,h,ns,rfl,.of (Z9 h _ hh),by omega,fun d2 H8 jw s8 h8=>⟨xg h8,d2,_,rfl,rfl,h8,fun v hv=>?_⟩⟩
    have s08:=Z9.trans s8
    have j9:d2≠v:=bf h8 hv
    refine⟨v,d2,_,rfl,au,by rw[aA j9];exact h8,fun o=>?_⟩
    have s09:ak H (upd (upd H8 v (jY "dict_items" v d2)) d2 (.cC o (.dK (kvs (bh ns))))):=(s08.upd (s08.free hv)).upd (Z9.free jw)
    have m7:=nD ns
    refine LR (fun σ=>∃v w,σ=[v,w,some (.int (most ns))]) (fun q=>if decide (q.2=most ns)=true then some (.int q.1)else none) (by omega) ⟨none,none,rfl⟩ au ?_ ?_
    ·rintro i q σ' H' t k2 r hq2 ⟨v1,v2,rfl⟩ sm ht bA sy
     refine⟨t,_,rfl,.of au,rfl,_,_,rfl,_,_,rfl,rfl,?_⟩
     refine⟨_,rfl,_,rfl,rfl,_,rfl,?_⟩
     rw[qW]
     refine dj (fun hc=>⟨_,rfl,bA _ _ _ (if_pos hc) ⟨_,_,rfl⟩ ((ak.refl _).upd ht)⟩) (fun hc=>sy _ _ (if_neg hc) ⟨_,_,rfl⟩ ((ak.refl _).upd ht))
    intro D2 H9 hD2 sm Bw
    have MI:=s09.trans sm
    have aoc:((bh ns).filterMap fun q=>if decide (q.2=most ns)=true then some (V.int q.1)else none).length=tW ns:=by
     unfold tW
     induction (bh ns) with
     |nil=>rfl
     |cons q l ih=>
      rw[nK,Iz]
      by_cases hx:decide (q.2=most ns)=true
      ·simp only[hx,if_true]
       rw[gF,gF,ih]
      ·simp only[hx,if_false]
       exact ih
    refine⟨D2,_,rfl,.inl (.of Bw),?_⟩
    rw[aoc]
    refine⟨_,rfl,l,_,rfl,.inl (.of (MI l _ hk)),_,rfl,h,_,rfl,.inl (.of (MI h _ hh)),_,rfl,_,_,rfl,rfl,_,rfl,_,_,rfl,rfl,.inr hn,_,rfl,_,_,rfl,rfl,by show 2<=aX;decide,fun q BP=>?_⟩
    refine⟨q,_,rfl,.inl (.of au),rfl,rfl,?_⟩
    have k3:=k _ (MI.upd (o:=.lst [.int ((ns.map V.int).length:Int),.int ((most ns-1)*n+(tW ns:Int))]) (MI.free BP))
    rw[<- Ws]at k3
    have e1:((ns.map V.int).length:Int)=(ns.length:Int):=by rw[aC]
    have e2:((ks.map V.int).length:Int)=(ks.length:Int):=by rw[aC]
    rw[e1]at k3 ⊢
    rw[e2]
    exact k3
theorem lO.set{C:aa}{H:Hp}{p l c:aa}{ks:List Int}{xs ys:List V}(h:lO C H p l ks)(hc:H c=some (.lst xs))(n:l≠c):lO C (upd H c (.lst ys)) p l ks:=by
 obtain⟨dx,e⟩:=h.ob
 exact⟨⟨dx,by rw[aA (kh e hc (fun z=>by cases z))];exact e⟩,by rw[aA n];exact h.lst⟩
theorem alo{ks:List Int}(h:0<ks.length)(v:Int):fO (ks++[v])=(fO ks&&decide (ks.getD (ks.length-1) 0≠v)):=by
 have g:∀i,i<ks.length->(ks++[v]).getD i 0=ks.getD i 0:=fun i hi=>by
  rw[eX,eX,nM hi]
 have gl:(ks++[v]).getD ks.length 0=v:=by
  rw[eX,nN (br _)]
  simp
 rw[rB,nI,xj,xj,decide_eq_true_iff]
 constructor
 ·intro hu
  refine⟨fun i hi=>?_,?_⟩
  ·have:=hu i (by rw[bW];simp;omega)
   rwa[g i (by omega),g (i+1) hi]at this
  ·have:=hu (ks.length-1) (by rw[bW];simp;omega)
   rw[g _ (by omega),show ks.length-1+1=ks.length by omega,gl]at this
   exact this
 ·rintro⟨h1,h2⟩ i hi
  rw[bW]at hi
  simp at hi
  by_cases z:i+1<ks.length
  ·rw[g i (by omega),g (i+1) z]
   exact h1 i z
  ·have e:i=ks.length-1:=by omega
   rw[g i (by omega),show i+1=ks.length by omega,gl,e]
   exact h2
theorem akw{ks ns:List Int}:((decide (ks.Perm ns)&&fO ks)&&(decide (1<(ks.length:Int))&&!decide (ks.getD 0 0=ks.getD (ks.length-1) 0)))=tH ks ns:=by
 unfold tH
 by_cases hp:ks.Perm ns
 ·have hl:=hp.length_eq
  rw[decide_eq_true hp]
  by_cases h2:2<=ks.length
  ·rw[decide_eq_true (show(1:Int)<ks.length by omega),decide_eq_false (show ¬ns.length<2 by omega)]
   have:decide (ks.getD (ks.length-1) 0≠ks.getD 0 0)=!decide (ks.getD 0 0=ks.getD (ks.length-1) 0):=by
    by_cases e:ks.getD 0 0=ks.getD (ks.length-1) 0
    ·rw[decide_eq_true e,decide_eq_false (show ¬ks.getD (ks.length-1) 0≠ks.getD 0 0 from fun w=>w e.symm)];rfl
    ·rw[decide_eq_false e,decide_eq_true (show ks.getD (ks.length-1) 0≠ks.getD 0 0 from fun z=>e z.symm)];rfl
   rw[this]
   simp
  ·rw[decide_eq_false (show ¬(1:Int)<ks.length by omega),decide_eq_true (show ns.length<2 by omega)]
   simp
 ·rw[decide_eq_false hp];simp
theorem auZ{ks ns:List Int}:(decide (ks.Perm ns)&&(decide (1<(ks.length:Int))&&fO (ks++ks.take 1)))=tH ks ns:=by
 rw[<- akw]
 by_cases h2:2<=ks.length
 ·obtain⟨x,r,rfl⟩:∃x r,ks=x::r:=by
   cases ks with
   |nil=>simp at h2
   |cons x r=>exact⟨x,r,rfl⟩
  have e:(x::r).take 1=[x]:=rfl
  rw[e,alo (by simp)]
  have:decide ((x::r).getD ((x::r).length-1) 0≠x)=!decide ((x::r).getD 0 0=(x::r).getD ((x::r).length-1) 0):=by
   show decide ((x::r).getD ((x::r).length-1) 0≠x)=!decide (x=(x::r).getD ((x::r).length-1) 0)
   by_cases z:x=(x::r).getD ((x::r).length-1) 0
   ·rw[decide_eq_true z,decide_eq_false (show ¬(x::r).getD ((x::r).length-1) 0≠x from fun w=>w z.symm)];rfl
   ·rw[decide_eq_false z,decide_eq_true (show(x::r).getD ((x::r).length-1) 0≠x from fun w=>z w.symm)];rfl
  rw[this]
  cases decide ((x::r).Perm ns)<;>cases fO (x::r)<;>cases decide (1<((x::r).length:Int))<;>simp
 ·rw[decide_eq_false (show ¬(1:Int)<ks.length by omega)]
  simp
theorem auY{ks:List Int}(h:2<=ks.length)(hu:fO ks=true)(hr:ks.getD (ks.length-1) 0≠ks.getD 0 0)(k:Int):2*ks.count k<=ks.length:=by
 obtain⟨x,y,r,rfl⟩:∃x y r,ks=x::y::r:=by
  match ks,h with
  |x::y::r,_=>exact⟨x,y,r,rfl⟩
 have h1:fO ((x::y::r)++[x])=true:=by
  rw[alo (by simp),hu]
  exact decide_eq_true hr
 by_cases z:x=k
 ·have:=aaP k _ _ (br _) h1
  rw[zj,bW]at this
  have e:[x].count k=1:=by rw[z];simp
  rw[e]at this
  simp only[abQ]at this
  omega
 ·have:=aaP k _ _ (br _) (alp hu).2.1
  rw[NW]
  simp only[gF]at this ⊢
  have e:(if(x == k)=true then 1 else 0)=0:=by simp[z]
  rw[e]
  omega
theorem Ou.only{CR CM:aa}{ns ks:List Int}{H H':Hp}{p:aa}(h2:2<=ns.length)(hp:ks.Perm ns)(hu:fO ks=true)(hr:ks.getD (ks.length-1) 0≠ks.getD 0 0)(h:Ou CR CM ns H H' p):∃l ms,H l=none/\lO CR H' p l ms/\ms.Perm ns:=by
 rcases h with⟨l,ms,h1,h3,h4,_⟩ | ⟨kd,_,hm⟩
 ·exact⟨l,ms,h1,h3,h4⟩
 ·have:=auY (by rw[hp.length_eq];exact h2) hu hr kd
  rw[hp.count_eq,hp.length_eq]at this
  omega
theorem aqU{ns:List Int}{x:Int}:decide (1<w6 x ns)=decide (1<2*(ns.count x:Int)-(ns.length:Int)):=by
 have:w6 x ns=2*(ns.count x:Int)-(ns.length:Int):=by unfold w6;omega
 rw[this]
theorem aqV{ns:List Int}{x:Int}:(!decide (ns.length<2)&&decide (0<w6 x ns))=(decide (0<2*(ns.count x:Int)-(ns.length:Int))&&decide (1<(ns.length:Int))):=by
 have:w6 x ns=2*(ns.count x:Int)-(ns.length:Int):=by unfold w6;omega
 rw[this]
 by_cases h:ns.length<2
 ·rw[decide_eq_true h,decide_eq_false (show ¬(1:Int)<ns.length by omega)];simp
 ·rw[decide_eq_false h,decide_eq_true (show(1:Int)<ns.length by omega)];simp
theorem rP(b:Bool):(b == b)=true:=by cases b<;>rfl
noncomputable def aw7(TB:aa):Sp:=fun vs H Q _=>∃(h:aa) (ns:List Int) (c:Int),vs=[.ref h,.int c]/\H h=some (.lst (ns.map V.int))/\ns.length<=63/\(∀n∈ns,0<=n/\n<=999)/\nR TB H/\∀H',ak H H'->Q (.bl true) H'
theorem qI:bU ["_law_heap_here","_law_cell","_law_told","_law_kinds","_law_handed","_law_row","_law_ring","_law_due","_law_kind","_law_more"] ["_law_heap_here","_law_cell"] (az we):=⟨rfl,rfl,rfl,by decide +kernel,rfl,by decide +kernel,by decide +kernel⟩
theorem atu(T:Txt K mg Z):bD P w K mg base bK 6 Z.Ud Z.Sz ["_law_heap_here","_law_cell"] (aw7 Z.qO):=by
 have amr:=at6 (P:=P) (w:=w) (base:=base) T
 have xw:=Ml (P:=P) (w:=w) (base:=base) T
 have AQ:=ZF (P:=P) (w:=w) (base:=base) T
 have xu:=ZE (P:=P) (w:=w) (base:=base) T
 have aby:=atw (P:=P) (w:=w) (base:=base) T
 have HZ:=aiY (P:=P) (w:=w) (base:=base) T
 have jE:=FY (P:=P) (w:=w) (base:=base) T
 have AO:=aiX (P:=P) (w:=w) (base:=base) T
 have abz:=atV (P:=P) (w:=w) (base:=base) T
 have ue:=Mj (P:=P) (w:=w) (base:=base) T
 have alQ:=ati (P:=P) (w:=w) (base:=base) T
 have Nz:=aiU (P:=P) (w:=w) (base:=base) T
 refine T.DL.fn.ok qI (fun vs H Q E h=>?_) (fun bg A outer s H vs Q E hr h=>?_)
 ·obtain⟨h,ns,c,rfl,_⟩:=h
  rfl
 ·obtain⟨h,ns,c,rfl,hh,hl,hb,hT,k⟩:=h
  have iM:=hr.units
  refine⟨_,(aH (bR (i:=2) qI.nd rfl (aT rfl) (aP amr (hr.mono (by decide)) rfl T.unlike.mg T.unlike.fn.kp T.unlike.bd .nil aG (aj (pv 0) aq)))
   (aH (bR (i:=3) qI.nd rfl (aT rfl) (aP xw (hr.mono (by decide)) rfl T.kG.mg T.kG.fn.kp T.kG.bd .nil aG (aj (aje (dm (bB ad7 rfl T.j3 boot_isinstance (aj (pv 2) (aj (yM (v:=.ref Z.gK) rfl T.Cf rfl) aq)))) (eK (pv 2) rfl) (kj o7 rfl T.gU iJ (aj (pv 0) aq))) (aj (pv 1) aq))))
   (aH (bR (i:=4) qI.nd rfl (aT rfl) (kj o7 rfl T.gU iJ (aj (pv 3) aq)))
   (aH (Mw (i:=5) (j:=6) rfl qI.nd rfl rfl (by decide) rfl rfl (aj (iO T.E5 AQ (hr.mono (by decide)) rfl T.Cf T.Ba.bd .nil aG (aj (pv 4) aq)) (aj (iO T.Ag xu (hr.mono (by decide)) rfl T.yE T.xM.bd .nil aG (aj (pv 4) aq)) aq)) rfl)
   (aH (fX (ie gT pZ PySem.F.type_list_append oA (pv 4) (aj aD aq)))
   (aH (bY (PW.pt (ji (cG (qx iM) (eK (pv 5) rfl) (pv 3) (bI _)) (jP (cG (qx iM) (eK (pv 6) rfl) (pv 3) (bI _))))) (aJ (aY cP)) b8)
   (aH (bR (i:=7) qI.nd rfl (aT rfl) (gO (fW (ai' iM) (bB uM rfl T.mW oY (aj (pv 3) aq)) (bB uM rfl T.mW oY (aj (pv 0) aq)) (bI _)) (iZ (aP aby (hr.mono (by decide)) rfl T.xO.mg T.xO.fn.kp T.xO.bd .nil aG (aj (pv 3) aq)))))
   (aH (bY (eT (dm (aP jE (hr.mono (by decide)) rfl T.cZ.mg T.cZ.fn.kp T.cZ.bd .nil aG (aj (kT (pv 5) T.sG T.KW HZ (hr.mono (by decide)) T.Dz.bd .nil aG (aj (pv 0) aq)) (aj (pv 7) aq))))) (aJ (aY cP)) b8)
   (aH (bR (i:=7) qI.nd rfl (aT rfl) (gO (pv 7) (gO (fW mD (bB dI rfl T.cW dh (aj (pv 3) aq)) aD (bI _)) (iZ (fW pL (cX eZ (pv 3) aD (fun _ _=>rfl)) (cX eZ (pv 3) (sO tX aD) (fun _ _=>rfl)) (bI _))))))
   (aH (bY (eT (dm (aP jE (hr.mono (by decide)) rfl T.cZ.mg T.cZ.fn.kp T.cZ.bd .nil aG (aj (kT (pv 6) T.ni T.Bx AO (hr.mono (by decide)) T.zD.bd .nil aG (aj (pv 0) aq)) (aj (pv 7) aq))))) (aJ (aY cP)) b8)
   (aH (bY (PW.pt (qA (cG mD (bB dI rfl T.cW dh (aj (pv 0) aq)) aD (bI _)) (vC (dm (bB ad7 rfl T.j3 boot_isinstance (aj (aP abz (hr.mono (by decide)) rfl T.yQ.mg T.yQ.fn.kp T.yQ.bd .nil aG (aj (pv 0) aq)) (aj (yM (v:=.ref Z.gJ) rfl T.yE rfl) aq))))))) (aH (bR (i:=3) qI.nd rfl (aT rfl) (aP xw (hr.mono (by decide)) rfl T.kG.mg T.kG.fn.kp T.kG.bd .nil aG (aj (eK (aP abz (hr.mono (by decide)) rfl T.yQ.mg T.yQ.fn.kp T.yQ.bd .nil aG (aj (pv 0) aq)) rfl) (aj (bM Cp (pv 1) aD) aq))))
   (aH (bR (i:=7) qI.nd rfl (aT rfl) (gO (fW (ai' iM) (bB uM rfl T.mW oY (aj (pv 3) aq)) (bB uM rfl T.mW oY (aj (pv 0) aq)) (bI _)) (gO (fW mD (bB dI rfl T.cW dh (aj (pv 3) aq)) aD (bI _)) (iZ (aP aby (hr.mono (by decide)) rfl T.xO.mg T.xO.fn.kp T.xO.bd .nil aG (aj (bM yK (pv 3) (sN tL (pv 3) vA (qz aD))) aq))))))
   (aJ (bY (eT (dm (aP jE (hr.mono (by decide)) rfl T.cZ.mg T.cZ.fn.kp T.cZ.bd .nil aG (aj (kT (iO T.Ag xu (hr.mono (by decide)) rfl T.yE T.xM.bd .nil aG (aj (pv 3) aq)) T.ni T.Bx AO (hr.mono (by decide)) T.zD.bd .nil aG (aj (pv 0) aq)) (aj (pv 7) aq))))) (aJ (aY cP)) b8)))) b8)
   (aH (iF iy rfl (gf (bM yK (dD (aj aD (aj aD (aj aD (aj (sO tX aD) aq))))) (sN tL (pv 0) vA (qz aD)))) (cK (i:=8) qI.nd rfl (aT rfl)) (aH (bR (i:=9) qI.nd rfl (aT rfl) (bM mF (bM oH aD (ie gT acn acq Zk (pv 0) (aj (pv 8) aq))) (bB dI rfl T.cW dh (aj (pv 0) aq))))
   (aH (bY (PW.pt (ji (eT (dm (aP jE (hr.mono (by decide)) rfl T.cZ.mg T.cZ.fn.kp T.cZ.bd .nil aG (aj (kT (iO T.Af ue (hr.mono (by decide)) rfl T.Ak T.xF.bd .nil aG (aj (pv 8) aq)) T.pK T.agT alQ (hr.mono (by decide)) T.Oa.bd .nil aG (aj (pv 0) aq)) (aj (fW mD (pv 9) aD (bI _)) aq))))) (jP (cG pL (eK (iO T.Af ue (hr.mono (by decide)) rfl T.Ak T.xF.bd .nil aG (aj (pv 8) aq)) rfl) (pv 8) (bI _))))) (aJ (aY cP)) b8)
   (aJ (bY (eT (dm (aP jE (hr.mono (by decide)) rfl T.cZ.mg T.cZ.fn.kp T.cZ.bd .nil aG (aj (kT (iO T.Af ue (hr.mono (by decide)) rfl T.Ak T.xF.bd .nil aG (aj (pv 8) aq)) T.pK T.U' Nz (hr.mono (by decide)) T.IE.bd .nil aG (aj (pv 0) aq)) (aj (gO (fW mD (pv 9) aD (bI _)) (iZ (fW mD (bB dI rfl T.cW dh (aj (pv 0) aq)) aD (bI _)))) aq))))) (aJ (aY cP)) b8)))))
   (aJ (aY cP)))))))))))))),?_⟩
  refine⟨_,rfl,h,ns,rfl,hh,hl,hb,hT,fun p0 H1 s1 Lj RW=>?_⟩
  have tyR:∀ {H':Hp} {q dq:aa} {fs},H' q=some (.ins Z.gK dq fs)->kF K H' (.ref q) (.ref Z.gK):=fun h=>.ins h T.sG T.HE.ha T.HE.hn T.HE.htk T.HE.hm
  have tyG:∀ {H':Hp} {q dq:aa} {fs},H' q=some (.ins Z.gJ dq fs)->kF K H' (.ref q) (.ref Z.gJ):=fun h=>.ins h T.ni T.HD.ha T.HD.hn T.HD.htk T.HD.hm
  have tyM:∀ {H':Hp} {q dq:aa} {fs},H' q=some (.ins Z.fH dq fs)->kF K H' (.ref q) (.ref Z.fH):=fun h=>.ins h T.pK T.HC.ha T.HC.hn T.HC.htk T.HC.hm
  refine d9 ?_
  refine gR (fun σ' H'=>∃(kl:aa) (ks:List Int),σ'=[some (.ref h),some (.int c),some (.ref p0),some (.ref kl),none,none,none,none,none,none]/\ak H H'/\H' kl=some (.lst (ks.map V.int))/\ks.length<=64) (fun k2 bA=>?_) (fun σ' H2 hj=>?_)
  ·rcases RW with⟨lk,ks,_,KD,qd,hun⟩ | ⟨kd,MD,hm⟩
   ·obtain⟨⟨dx,m8⟩,uY⟩:=id KD
    have VG:=qd.length_eq
    refine⟨_,rfl,_,_,_,_,rfl,tyR m8,T.Cy,true,rfl,cJ ?_⟩
    refine⟨_,rfl,p0,_,dx,_,_,rfl,m8,T.sG,T.Ck,kR _,?_⟩
    refine⟨_,rfl,lk,ks,c,rfl,uY,by omega,fun l ms H2 s2 _ h2 hms=>?_⟩
    exact bA _ _ ⟨l,ms,rfl,s1.trans s2,h2,by omega⟩
   ·obtain⟨dx,m8⟩:=id MD
    refine⟨_,rfl,_,_,_,_,rfl,tyM m8,T.Cv,false,rfl,bH ?_⟩
    refine⟨_,rfl,h,_,rfl,.inl (.of (s1 h _ hh)),fun l0 bS=>?_⟩
    have s2:=s1.upd (o:=.lst (ns.map V.int)) (s1.free bS)
    refine⟨_,rfl,l0,ns,c,rfl,au,by omega,fun l ms H2 s3 _ h2 hms=>?_⟩
    exact bA _ _ ⟨l,ms,rfl,s2.trans s3,h2,by omega⟩
  obtain⟨kl,ks,rfl,s2,bA,VI⟩:=hj
  clear RW s1 Lj
  have BF:=s2 h _ hh
  refine⟨_,rfl,kl,_,rfl,.inl (.of bA),fun hd uV=>?_⟩
  have n1:kl≠hd:=bf bA uV
  have uW:=s2.free uV
  have s3:=s2.upd (o:=.lst (ks.map V.int)) uW
  have fC:(upd H2 hd (.lst (ks.map V.int))) kl=some (.lst (ks.map V.int)):=by rw[aA n1];exact bA
  have mh:(upd H2 hd (.lst (ks.map V.int))) hd=some (.lst (ks.map V.int)):=au
  generalize upd H2 hd (.lst (ks.map V.int))=H3 at s3 fC mh
  refine d9 ?_
  refine⟨_,rfl,?_⟩
  intro pr D0 EU yg nx1
  refine⟨pr,D0,hd,ks,rfl,au,iD EU yg mh,by omega,fun lr H4 ao2 Le KR=>⟨rfl,?_⟩⟩
  have s4:ak H3 H4:=iN (ak.refl _) EU yg ao2
  have VO:H3 lr=none:=nk (ak.refl _) Le
  have mZ:=s4 hd _ mh
  refine⟨_,rfl,?_⟩
  intro pg zN ahd yh nx2
  refine⟨pg,zN,hd,ks,rfl,au,iD ahd yh mZ,by omega,fun lg H5 VH apf KG=>⟨rfl,_,_,rfl,?_⟩⟩
  have s5:ak H4 H5:=iN (ak.refl _) ahd yh VH
  have ape:H4 lg=none:=nk (ak.refl _) apf
  have m5:=s5 hd _ mZ
  have KR5:=KR.same s5
  have s35:=s4.trans s5
  have jB:=s3.trans s35
  refine d9 ?_
  refine⟨_,rfl,ir m5,hd,_,_,rfl,rfl,m5,by rw[aC];exact AA (by omega),?_⟩
  have s6:=jB.upd (o:=.lst (ks.map V.int++[.int 0])) uW
  have rF:=KR5.set (ys:=ks.map V.int++[.int 0]) m5 (dB (bf mh VO))
  have De:=KG.set (ys:=ks.map V.int++[.int 0]) m5 (dB (bf mZ ape))
  have kM:(upd H5 hd (.lst (ks.map V.int++[.int 0]))) kl=some (.lst (ks.map V.int)):=by rw[aA n1];exact s35 kl _ fC
  generalize upd H5 hd (.lst (ks.map V.int++[.int 0]))=H6 at s6 rF De kM
  refine d9 ?_
  obtain⟨dr,V1⟩:=id rF.ob
  obtain⟨dg,apy⟩:=id De.ob
  refine⟨_,rfl,pr,_,dr,_,_,rfl,V1,T.sG,T.Ck,kR _,_,rfl,_,_,ju (.of rF.lst),ju (.of kM),shaped_ints ks,shaped_ints ks,_,rfl,?_⟩
  show if(!jI (.list (ks.map iH)) (.list (ks.map iH)))=true then _ else _
  rw[CH (shaped_ints ks)]
  refine bH ?_
  refine⟨_,rfl,pg,_,dg,_,_,rfl,apy,T.ni,T.yF,kR _,_,rfl,_,_,ju (.of De.lst),ju (.of kM),shaped_ints ks,shaped_ints ks,_,rfl,?_⟩
  show if(!jI (.list (ks.map iH)) (.list (ks.map iH)))=true then _ else _
  rw[CH (shaped_ints ks)]
  refine bH (Aq ?_)
  refine gR (fun σ' H'=>σ'=[some (.ref h),some (.int c),some (.ref p0),some (.ref kl),some (.ref hd),some (.ref pr),some (.ref pg),some (.bl (Az ks ns)),none,none]/\ak H6 H') (fun k2 bA=>?_) (fun σ' H7 hj=>?_)
  ·refine⟨_,rfl,kl,ks,rfl,.of kM,by omega,fun q1 m1 m9 sP up1=>?_⟩
   have r7:ak H6 (upd H6 q1 (.lst (m1.map V.int))):=(ak.refl H6).upd m9
   refine⟨_,rfl,h,ns,rfl,.of (r7 h _ (s6 h _ hh)),by omega,fun q2 m2 hq2 sQ AD=>?_⟩
   have nq:q1≠q2:=bf au hq2
   have r8:ak H6 (upd (upd H6 q1 (.lst (m1.map V.int))) q2 (.lst (m2.map V.int))):=r7.upd (r7.free hq2)
   have qe:(upd (upd H6 q1 (.lst (m1.map V.int))) q2 (.lst (m2.map V.int))) q1=some (.lst (m1.map V.int)):=by rw[aA nq];exact au
   have yu:(upd (upd H6 q1 (.lst (m1.map V.int))) q2 (.lst (m2.map V.int))) q2=some (.lst (m2.map V.int)):=au
   generalize upd (upd H6 q1 (.lst (m1.map V.int))) q2 (.lst (m2.map V.int))=H8 at r8 qe yu
   refine⟨_,_,ju (.of qe),ju (.of yu),shaped_ints _,shaped_ints _,?_⟩
   refine⟨_,rfl,?_⟩
   show if jI (.list (m1.map iH)) (.list (m2.map iH))=true then _ else _
   rw[Jm,MW sP up1 sQ AD (by omega)]
   cases hq:decide (ks.Perm ns) with
   |false=>
    refine bH (bA _ _ ⟨?_,r8⟩)
    unfold Az
    rw[hq]
    rfl
   |true=>
    refine cJ ?_
    refine⟨_,rfl,kl,ks,rfl,r8 kl _ kM,by omega,fun H9 r9=>bA _ _ ⟨?_,r8.trans r9⟩⟩
    unfold Az
    rw[hq]
    rfl
  obtain⟨rfl,r7⟩:=hj
  have Dh:=rF.same r7
  have KG7:=De.same r7
  have se:=r7 kl _ kM
  have s7:=s6.trans r7
  obtain⟨dr7,apC⟩:=id Dh.ob
  refine⟨_,rfl,pr,dr7,_,rfl,apC,vg _ (by decide +kernel),_,rfl,pr,lr,h,ks,ns,rfl,Dh,by omega,s7 h _ hh,by omega,fun H8 r8=>?_⟩
  refine⟨_,rfl,_,_,rfl,?_⟩
  rw[rP]
  refine⟨_,rfl,bH (Aq ?_)⟩
  have NT:=KG7.same r8
  have pF:=r8 kl _ se
  have s8:=s7.trans r8
  -- the ring's due
  refine gR (fun σ' H'=>σ'=[some (.ref h),some (.int c),some (.ref p0),some (.ref kl),some (.ref hd),some (.ref pr),some (.ref pg),some (.bl (tH ks ns)),none,none]/\H'=H8) (fun k2 bA=>?_) (fun σ' H9 hj=>?_)
  ·rw[<- akw]at bA
   refine⟨_,rfl,_,rfl,?_⟩
   show if(decide (ks.Perm ns)&&fO ks)=true then _ else _
   cases hq:(decide (ks.Perm ns)&&fO ks) with
   |false=>
    rw[hq]at bA
    exact bH (bA _ _ ⟨rfl,rfl⟩)
   |true=>
    rw[hq]at bA
    refine cJ ?_
    refine⟨_,rfl,kl,_,rfl,.inl (.of pF),_,_,rfl,rfl,_,rfl,dj (fun hc=>?_) (fun hc=>?_)⟩
    ·have d8:(1:Int)<(ks.length:Int):=by have:=of_decide_eq_true hc;rwa[aC]at this
     rw[decide_eq_true d8]at bA
     refine⟨_,rfl,kl,_,_,_,rfl,rfl,.of pF,p6 0 rfl (by omega),_,rfl,1,rfl,kl,_,_,_,rfl,rfl,.of pF,adW (by omega),rfl,?_⟩
     have e:(!decide (V.int (ks.getD 0 0)=V.int (ks.getD (ks.length-1) 0)))=!decide (ks.getD 0 0=ks.getD (ks.length-1) 0):=by
      by_cases z:ks.getD 0 0=ks.getD (ks.length-1) 0
      ·rw[z];simp
      ·rw[decide_eq_false z,decide_eq_false fun q=>z (V.int.inj q)]
     rw[e]
     exact bA _ _ ⟨rfl,rfl⟩
    ·have d8:¬(1:Int)<(ks.length:Int):=fun z=>hc (decide_eq_true (by rw[aC];exact z))
     rw[decide_eq_false d8]at bA
     exact bA _ _ ⟨rfl,rfl⟩
  obtain⟨rfl,rfl⟩:=hj
  obtain⟨dg8,apz⟩:=id NT.ob
  refine⟨_,rfl,pg,dg8,_,rfl,apz,vg _ (by decide +kernel),_,rfl,pg,lg,h,ks,ns,rfl,NT,by omega,s8 h _ hh,by omega,fun fh gQ=>?_⟩
  refine⟨_,rfl,_,_,rfl,?_⟩
  rw[rP]
  refine⟨_,rfl,bH (Aq ?_)⟩
  have ig:=s8.trans gQ
  clear rF De kM Dh KG7 se NT pF
  refine gR (fun σ' H'=>∃v3 v7:Option V,σ'=[some (.ref h),some (.int c),some (.ref p0),v3,some (.ref hd),some (.ref pr),some (.ref pg),v7,none,none]/\ak H H') (fun k2 bA=>?_) (fun σ' pT hj=>?_)
  ·refine⟨_,rfl,h,_,rfl,.inl (.of (ig h _ hh)),_,_,rfl,rfl,_,rfl,dj (fun hc=>?_) (fun hc=>bH (bA _ _ ⟨_,_,rfl,ig⟩))⟩
   have Bv:2<=ns.length:=by have:=of_decide_eq_true hc;rw[aC]at this;omega
   refine⟨_,rfl,h,ns,rfl,ig h _ hh,hl,hb,hT.same ig,Bv,fun p2 pT kq mj RG=>?_⟩
   have lK:=ig.trans kq
   rcases RG with⟨lk,ks2,_,KD,qd,hun,VL⟩ | ⟨kd,MD,hm⟩
   ·obtain⟨⟨dx,m8⟩,uY⟩:=id KD
    refine⟨_,_,_,_,rfl,tyG m8,T.Cw,true,rfl,cJ ?_⟩
    refine⟨_,rfl,h,ns,rfl,lK h _ hh,hl,hb,hT.same lK,Bv,fun p3 xz kU kP RG2=>?_⟩
    obtain⟨lk3,ms3,_,KD3,ahe⟩:=RG2.only Bv qd hun VL
    obtain⟨⟨TJ,hp5⟩,hk5⟩:=id KD3
    have mK:=lK.trans kU
    refine⟨p3,_,TJ,_,_,rfl,hp5,T.ni,T.yF,kR _,?_⟩
    refine⟨_,rfl,_,_,rfl,rfl,⟨by decide,by decide⟩,lk3,ms3,_,rfl,hk5,by rw[ahe.length_eq];omega,fun k3 j8 kC i9 azm VE ao6=>?_⟩
    have Hi:=mK.trans i9
    have azo:j8.length<=64:=by rw[ahe.length_eq]at ao6;omega
    refine d9 ?_
    refine gR (fun σ' H'=>σ'=[some (.ref h),some (.int c),some (.ref p0),some (.ref k3),some (.ref hd),some (.ref pr),some (.ref pg),some (.bl (tH j8 ns)),none,none]/\ak kC H') (fun k3' fC=>?_) (fun σ' xA hj=>?_)
    ·refine⟨_,rfl,k3,j8,rfl,.of VE,by omega,fun q1 m1 m9 sP up1=>?_⟩
     have r7:ak kC (upd kC q1 (.lst (m1.map V.int))):=(ak.refl kC).upd m9
     refine⟨_,rfl,h,ns,rfl,.of (r7 h _ (Hi h _ hh)),by omega,fun q2 m2 hq2 sQ AD=>?_⟩
     have nq:q1≠q2:=bf au hq2
     have r8:ak kC (upd (upd kC q1 (.lst (m1.map V.int))) q2 (.lst (m2.map V.int))):=r7.upd (r7.free hq2)
     have qe:(upd (upd kC q1 (.lst (m1.map V.int))) q2 (.lst (m2.map V.int))) q1=some (.lst (m1.map V.int)):=by rw[aA nq];exact au
     have yu:(upd (upd kC q1 (.lst (m1.map V.int))) q2 (.lst (m2.map V.int))) q2=some (.lst (m2.map V.int)):=au
     generalize upd (upd kC q1 (.lst (m1.map V.int))) q2 (.lst (m2.map V.int))=H8 at r8 qe yu
     refine⟨_,_,ju (.of qe),ju (.of yu),shaped_ints _,shaped_ints _,?_⟩
     refine⟨_,rfl,?_⟩
     show if jI (.list (m1.map iH)) (.list (m2.map iH))=true then _ else _
     rw[Jm,MW sP up1 sQ AD (by omega)]
     rw[<- auZ]at fC
     cases hq:decide (j8.Perm ns) with
     |false=>
      rw[hq]at fC
      exact bH (fC _ _ ⟨rfl,r8⟩)
     |true=>
      rw[hq]at fC
      refine cJ ?_
      have pF:=r8 k3 _ VE
      refine⟨_,rfl,k3,_,rfl,.inl (.of pF),_,_,rfl,rfl,_,rfl,dj (fun hc=>?_) (fun hc=>?_)⟩
      ·have d8:(1:Int)<(j8.length:Int):=by have:=of_decide_eq_true hc;rwa[aC]at this
       rw[decide_eq_true d8]at fC
       refine⟨_,rfl,_,rfl,1,rfl,k3,_,rfl,.of pF,fun q3 oq=>?_⟩
       have e3:lX (j8.map V.int) none (some 1)=(j8.take 1).map V.int:=DZ j8 1
       rw[e3]
       have r9:=r8.upd (o:=.lst ((j8.take 1).map V.int)) (r8.free oq)
       have hk9:(upd H8 q3 (.lst ((j8.take 1).map V.int))) k3=some (.lst (j8.map V.int)):=by rw[aA (bf pF oq)];exact pF
       refine⟨k3,q3,_,_,rfl,rfl,hk9,au,?_,fun q4 Ln=>?_⟩
       ·rw[aC,aC,jr]
        have:(1000:Nat)<=sizeLine:=by decide
        omega
       have gQ:=r9.upd (o:=.lst (j8.map V.int++(j8.take 1).map V.int)) (r9.free Ln)
       refine⟨q4,j8++j8.take 1,rfl,?_,by rw[bW,jr];omega,fun xA lJ=>fC _ _ ⟨rfl,gQ.trans lJ⟩⟩
       rw[au,fD]
      ·have d8:¬(1:Int)<(j8.length:Int):=fun z=>hc (decide_eq_true (by rw[aC];exact z))
       rw[decide_eq_false d8]at fC
       exact fC _ _ ⟨rfl,r8⟩
    obtain⟨rfl,lJ⟩:=hj
    have CC:=Hi.trans lJ
    have aoY:=lJ k3 _ VE
    refine⟨_,rfl,?_⟩
    intro pz dz hpz hdz nz
    refine⟨pz,dz,k3,j8,rfl,au,iD hpz hdz aoY,by omega,fun lz C6 n8 lz1 KZ=>⟨rfl,?_⟩⟩
    have pN:ak xA C6:=iN (ak.refl _) hpz hdz n8
    have sS:=CC.trans pN
    obtain⟨dz2,hz2⟩:=id KZ.ob
    refine⟨pz,dz2,_,rfl,hz2,vg _ (by decide +kernel),_,rfl,pz,lz,h,j8,ns,rfl,KZ,by omega,sS h _ hh,by omega,fun NO mJ=>?_⟩
    refine⟨_,rfl,_,_,rfl,?_⟩
    rw[rP]
    exact⟨_,rfl,bH (bA _ _ ⟨_,_,rfl,sS.trans mJ⟩)⟩
   ·obtain⟨dx,m8⟩:=id MD
    exact⟨_,_,_,_,rfl,tyM m8,T.Cu,false,rfl,bH (bA _ _ ⟨_,_,rfl,lK⟩)⟩
  obtain⟨v3,v7,rfl,lK⟩:=hj
  refine⟨1,rfl,by show 4<=aX;decide,fun q1 m9=>?_⟩
  have mK:=lK.upd (o:=.lst ([5,900,7,-1].map V.int)) (lK.free m9)
  have qe:(upd pT q1 (.lst ([5,900,7,-1].map V.int))) q1=some (.lst ([5,900,7,-1].map V.int)):=au
  refine⟨_,rfl,2,rfl,h,_,rfl,.of (mK h _ hh),fun q2 hq2=>?_⟩
  have e2:lX (ns.map V.int) none (some 2)=(ns.take 2).map V.int:=DZ ns 2
  rw[e2]
  have Hi:=mK.upd (o:=.lst ((ns.take 2).map V.int)) (mK.free hq2)
  have apE:(upd (upd pT q1 (.lst ([5,900,7,-1].map V.int))) q2 (.lst ((ns.take 2).map V.int))) q1=some (.lst ([5,900,7,-1].map V.int)):=by rw[aA (bf qe hq2)];exact qe
  refine⟨q1,q2,_,_,rfl,rfl,apE,au,?_,fun q3 oq=>?_⟩
  ·rw[aC,aC,jr]
   have:(1000:Nat)<=sizeLine:=by decide
   show 4+_<=_
   omega
  have CC:=Hi.upd (o:=.lst ([5,900,7,-1].map V.int++(ns.take 2).map V.int)) (Hi.free oq)
  refine⟨q3,rfl,⟨_,.of au⟩,nX (K:=K) (a:=q3) (xs:=([5,900,7,-1]++ns.take 2).map V.int) (fun i σ H2=>∃v8 v9:Option V,σ=[some (.ref h),some (.int c),some (.ref p0),v3,some (.ref hd),some (.ref pr),some (.ref pg),v7,v8,v9]/\ak H H2/\H2 q3=some (.lst (([5,900,7,-1]++ns.take 2).map V.int)))
   ⟨none,none,rfl,CC,by rw[fD];exact au⟩ (fun i σ H2 _ ⟨_,_,_,_,h4⟩=>.of h4) ?_ (fun σ H2 ⟨_,_,e,s2,_⟩=>k H2 s2)⟩
  rintro i y σ C6 hy ⟨v8,v9,rfl,sS,Ev⟩
  obtain⟨x,hx,rfl⟩:=j7 hy
  have K6:=sS h _ hh
  refine⟨_,rfl,ir K6,_,rfl,h,ns,x,rfl,rfl,.of K6,_,_,rfl,rfl,.inl ⟨by decide,by decide⟩,_,rfl,h,_,rfl,.inl (.of K6),_,_,rfl,rfl,?_⟩
  refine d9 ?_
  refine gR (fun σ' H'=>σ'=[some (.ref h),some (.int c),some (.ref p0),v3,some (.ref hd),some (.ref pr),some (.ref pg),v7,some (.int x),some (.int (2*(ns.count x:Int)-(ns.length:Int)))]/\ak C6 H') (fun k2 bA=>?_) (fun σ' C7 hj=>?_)
  ·refine⟨_,rfl,?_⟩
   intro pa da hpa hda npa
   refine⟨pa,da,x,rfl,au,fun NO ao3 Mpa=>⟨rfl,?_⟩⟩
   have rpa:ak C6 NO:=iN (ak.refl _) hpa hda ao3
   obtain⟨ea,opa⟩:=id Mpa
   refine⟨pa,ea,_,rfl,opa,FE _ (by decide +kernel),_,rfl,pa,h,x,ns,rfl,Mpa,rpa h _ K6,by omega,fun C7 Av=>?_⟩
   refine⟨_,rfl,_,_,rfl,rfl,_,_,rfl,?_⟩
   rw[aqU]
   have el:((ns.map V.int).length:Int)=(ns.length:Int):=by rw[aC]
   rw[el,rP]
   refine⟨_,rfl,bH ?_⟩
   refine⟨_,rfl,?_⟩
   intro pb db VY nZ npb
   refine⟨pb,db,x,rfl,au,fun NP ao4 Mpb=>⟨rfl,?_⟩⟩
   have rpb:ak C7 NP:=iN (ak.refl _) VY nZ ao4
   obtain⟨eb,opb⟩:=id Mpb
   refine⟨pb,_,eb,_,_,rfl,opb,T.pK,T.Cj,LY _,_,rfl,rfl,_,rfl,?_⟩
   rw[decide_eq_true (rfl:V.int x=V.int x)]
   refine bH (bA _ _ ⟨?_,(rpa.trans Av).trans rpb⟩)
   rw[<- el]
   rfl
  obtain⟨rfl,Av⟩:=hj
  have s17:=sS.trans Av
  have aoQ:=s17 h _ hh
  refine⟨_,rfl,?_⟩
  intro pc dc hpc hdc npc
  refine⟨pc,dc,x,rfl,au,fun NP ao5 Mpc=>⟨rfl,?_⟩⟩
  have MG:ak C7 NP:=iN (ak.refl _) hpc hdc ao5
  obtain⟨ec,opc⟩:=id Mpc
  refine⟨pc,ec,_,rfl,opc,FE _ (by decide +kernel),_,rfl,pc,h,x,ns,rfl,Mpc,MG h _ aoQ,by omega,fun H19 Z6=>?_⟩
  have s19:=(s17.trans MG).trans Z6
  rw[aqV]
  refine⟨_,rfl,_,_,rfl,rfl,_,rfl,?_⟩
  cases hq:decide (0<2*(ns.count x:Int)-(ns.length:Int)) with
  |false=>
   refine bH ⟨_,_,rfl,_,rfl,?_⟩
   exact bH ⟨_,_,rfl,s19,((Av.trans MG).trans Z6) q3 _ Ev⟩
  |true=>
   refine cJ ?_
   refine⟨_,rfl,h,_,rfl,.inl (.of (s19 h _ hh)),_,_,rfl,rfl,_,_,rfl,?_⟩
   have el:((ns.map V.int).length:Int)=(ns.length:Int):=by rw[aC]
   rw[el,iu,rP]
   exact⟨_,rfl,bH ⟨_,_,rfl,s19,((Av.trans MG).trans Z6) q3 _ Ev⟩⟩
noncomputable def aw0(TB:aa):Sp:=fun vs H Q _=>∃(h:aa) (ns:List Int) (c:Int),vs=[.ref h,.int c]/\H h=some (.lst (ns.map V.int))/\ns.length<=63/\(∀n∈ns,0<=n/\n<=999)/\nR TB H/\∀H',ak H H'->Q (.bl true) H'
theorem aox{ns ks:List Int}{n:Int}(g:Ib ns ks n)(hl:ns.length<=63)(h0:1<=n)(h1:n<=10):ks.length<=999:=by
 rcases g.len with h | h
 ·omega
 ·have:=aq0 (ns:=ns) (n:=n) (by omega) hl
  omega
theorem CD:bU ["_law_heap_here","_law_cell","_law_apart","_law_kinds","_law_handed","_law_answer","_law_number"] ["_law_heap_here","_law_cell"] (az vX):=⟨rfl,rfl,rfl,by decide +kernel,rfl,by decide +kernel,by decide +kernel⟩
theorem atm(T:Txt K mg Z):bD P w K mg base bK 6 Z.TZ Z.So ["_law_heap_here","_law_cell"] (aw0 Z.qO):=by
 have jU:=FW (P:=P) (w:=w) (base:=base) T
 have amo:=atX (P:=P) (w:=w) (base:=base) T
 have xw:=Ml (P:=P) (w:=w) (base:=base) T
 have ND:=aiZ (P:=P) (w:=w) (base:=base) T
 have alS:=atk (P:=P) (w:=w) (base:=base) T
 have al2:=atv (P:=P) (w:=w) (base:=base) T
 have jE:=FY (P:=P) (w:=w) (base:=base) T
 refine T.DE.fn.ok CD (fun vs H Q E h=>?_) (fun bg A outer s H vs Q E hr h=>?_)
 ·obtain⟨h,ns,c,rfl,_⟩:=h
  rfl
 ·obtain⟨h,ns,c,rfl,hh,hl,hb,hT,k⟩:=h
  have iM:=hr.units
  refine⟨_,(aH (bR (i:=2) CD.nd rfl (aT rfl) (bM g9 aD (aP jU (hr.mono (by decide)) rfl T.dH.mg T.dH.fn.kp T.dH.bd .nil aG (aj (pv 1) (aj aD (aj aD aq))))))
   (aH (bR (i:=3) CD.nd rfl (aT rfl) (aP xw (hr.mono (by decide)) rfl T.kG.mg T.kG.fn.kp T.kG.bd .nil aG (aj (eK (aP amo (hr.mono (by decide)) rfl T.Hw.mg T.Hw.fn.kp T.Hw.bd .nil aG (aj (pv 0) (aj (pv 2) aq))) rfl) (aj (pv 1) aq))))
   (aH (bR (i:=4) CD.nd rfl (aT rfl) (kj o7 rfl T.gU iJ (aj (pv 3) aq)))
   (aH (bR (i:=5) CD.nd rfl (aT rfl) (iO T.Wd ND (hr.mono (by decide)) rfl T.Y4 T.IS.bd .nil aG (aj (pv 4) aq)))
   (aH (fX (ie gT pZ PySem.F.type_list_append oA (pv 4) (aj aD aq)))
   (aH (bY (cG (qx iM) (eK (pv 5) rfl) (pv 3) (bI _)) (aJ (aY cP)) b8)
   (aH (iF iy rfl (ZU (i6 (aj (pv 2) (aj (bM g9 (pv 2) aD) (aj aD aq))))) (cK (i:=6) CD.nd rfl (aT rfl)) (aJ (bY (eT (dm (aP jE (hr.mono (by decide)) rfl T.cZ.mg T.cZ.fn.kp T.cZ.bd .nil aG (aj (kT (pv 5) T.sH T.agV alS (hr.mono (by decide)) T.Ov.bd .nil aG (aj (pv 0) (aj (pv 6) aq))) (aj (aP al2 (hr.mono (by decide)) rfl T.DM.mg T.DM.fn.kp T.DM.bd .nil aG (aj (pv 0) (aj (pv 3) (aj (pv 6) aq)))) aq))))) (aJ (aY cP)) b8)))
   (aJ (aY cP))))))))),?_⟩
  refine⟨_,rfl,_,_,_,rfl,by decide,fun r H1 r0 r1 s1=>⟨_,_,rfl,rfl,?_⟩⟩
  refine d9 ?_
  have hn1:1<=1+r/\1+r<=1000:=⟨by omega,by omega⟩
  refine⟨_,rfl,_,rfl,h,ns,_,rfl,s1 h _ hh,hl,hb,hn1,hT.same s1,fun p0 lk ks0 H2 s2 Lj azr KD G=>?_⟩
  obtain⟨⟨dx,m8⟩,uY⟩:=id KD
  have hg:=aox G hl (by omega) (by omega)
  have dX:=s1.trans s2
  refine⟨p0,_,dx,_,_,rfl,m8,T.sH,T.vm,kR _,?_⟩
  refine⟨_,rfl,lk,ks0,c,rfl,uY,by omega,fun kl ks H3 s3 azn fC VI=>?_⟩
  have dJ:=dX.trans s3
  refine d9 ?_
  refine⟨_,rfl,kl,_,rfl,.inl (.of fC),fun hd uV=>?_⟩
  have n1:kl≠hd:=bf fC uV
  have uW:=dJ.free uV
  have s4:=dJ.upd (o:=.lst (ks.map V.int)) uW
  have ag5:(upd H3 hd (.lst (ks.map V.int))) kl=some (.lst (ks.map V.int)):=by rw[aA n1];exact fC
  have mZ:(upd H3 hd (.lst (ks.map V.int))) hd=some (.lst (ks.map V.int)):=au
  generalize upd H3 hd (.lst (ks.map V.int))=H4 at s4 ag5 mZ
  refine d9 ?_
  refine⟨_,rfl,?_⟩
  intro pr D0 EU yg nx1
  refine⟨pr,D0,hd,ks,rfl,au,iD EU yg mZ,by omega,fun lr H5 VH Le KR=>⟨rfl,?_⟩⟩
  have r5:ak H4 H5:=iN (ak.refl _) EU yg VH
  have VO:H4 lr=none:=nk (ak.refl _) Le
  have m5:=r5 hd _ mZ
  have s5:=s4.trans r5
  refine d9 ?_
  refine⟨_,rfl,ir m5,hd,_,_,rfl,rfl,m5,by rw[aC];exact pQ (by omega),?_⟩
  have s6:=s5.upd (o:=.lst (ks.map V.int++[.int 0])) uW
  have rF:=KR.set (ys:=ks.map V.int++[.int 0]) m5 (dB (bf mZ VO))
  have kM:(upd H5 hd (.lst (ks.map V.int++[.int 0]))) kl=some (.lst (ks.map V.int)):=by rw[aA n1];exact r5 kl _ ag5
  generalize upd H5 hd (.lst (ks.map V.int++[.int 0]))=H6 at s6 rF kM
  refine d9 ?_
  obtain⟨dr,V1⟩:=id rF.ob
  refine⟨_,rfl,pr,_,dr,_,_,rfl,V1,T.sH,T.vm,kR _,_,rfl,_,_,ju (.of rF.lst),ju (.of kM),shaped_ints ks,shaped_ints ks,_,rfl,?_⟩
  show if(!jI (.list (ks.map iH)) (.list (ks.map iH)))=true then _ else _
  rw[CH (shaped_ints ks)]
  refine bH (Aq ?_)
  refine⟨_,rfl,_,rfl,_,_,rfl,rfl,by show 3<=aX;decide,fun t ht=>?_⟩
  have s7:=s6.upd (o:=.tup ([1+r,1+r+1,1].map V.int)) (s6.free ht)
  have se:(upd H6 t (.tup ([1+r,1+r+1,1].map V.int))) kl=some (.lst (ks.map V.int)):=by rw[aA (bf kM ht)];exact kM
  have r7:ak H6 (upd H6 t (.tup ([1+r,1+r+1,1].map V.int))):=(ak.refl H6).upd ht
  have Dh:=rF.same r7
  have Ab:(upd H6 t (.tup ([1+r,1+r+1,1].map V.int))) t=some (.tup ([1+r,1+r+1,1].map V.int)):=au
  refine⟨t,rfl,⟨_,.of Ab⟩,agA (K:=K) (a:=t) (xs:=[1+r,1+r+1,1].map V.int) (fun i σ H2=>∃v6:Option V,σ=[some (.ref h),some (.int c),some (.int (1+r)),some (.ref kl),some (.ref hd),some (.ref pr),v6]/\ak H H2/\H2 kl=some (.lst (ks.map V.int))/\lO Z.iz H2 pr lr ks/\H2 t=some (.tup ([1+r,1+r+1,1].map V.int)))
   ⟨none,rfl,s7,se,Dh,Ab⟩ (fun i σ H2 _ ⟨_,_,_,_,_,h4⟩=>.of h4) ?_ (fun σ H2 ⟨_,e,s2,_⟩=>k H2 s2)⟩
  rintro i y σ H8 hy ⟨v6,rfl,s8,pF,NU,qh⟩
  obtain⟨n,hn,rfl⟩:=j7 hy
  have yq:1<=n/\n<=10:=by
   have hm:=eB hn
   simp only[dY,zm,or_false]at hm
   omega
  obtain⟨dr8,apD⟩:=id NU.ob
  refine⟨_,rfl,pr,dr8,_,rfl,apD,vg _ (by decide +kernel),_,rfl,_,rfl,pr,lr,h,ks,ns,n,rfl,NU,by omega,s8 h _ hh,hl,⟨by omega,by omega⟩,fun H9 r9=>?_⟩
  have s9:=s8.trans r9
  have hth:(jR ks).length<=10000:=fP (IB _ _) (by omega)
  refine⟨_,rfl,_,rfl,_,rfl,h,kl,ns,ks,n,rfl,s9 h _ hh,hl,r9 kl _ pF,by omega,hth,⟨by omega,by omega⟩,fun fh gQ=>?_⟩
  refine⟨_,_,rfl,?_⟩
  rw[avF yq.1,rP]
  exact⟨_,rfl,bH ⟨_,rfl,s9.trans gQ,(r9.trans gQ) kl _ pF,NU.same (r9.trans gQ),(r9.trans gQ) t _ qh⟩⟩
noncomputable def aw5:Sp:=fun vs H Q _=>∃(h a l:aa) (ts:List aa) (ns:List Int) (ps:List (Int×Int)) (ls:List Int),vs=[.ref h,.ref a,.ref l]/\H h=some (.lst (ns.map V.int))/\ns.length<=63/\jH H a ts ps/\ps.length<=400/\H l=some (.lst (ls.map V.int))/\ls.length<=200/\
 ∀H',ak H H'->Q (.bl (Ht ps ls ns)) H'
theorem at9{ls:List Int}(h:2<=ls.length):decide (dist ls=1)=decide (ls.count (ls.getD 0 0)=ls.length):=by
 rw[rB,decide_eq_true_iff,decide_eq_true_iff,anR,amw]
 have h0:ls.getD 0 0∈ls:=by
  rw[eX,bZ (by omega)]
  exact A5 _
 constructor
 ·rintro⟨_,h1⟩ b hb
  exact h1 _ h0 b hb
 ·intro h1
  exact⟨fun z=>by rw[z]at h;simp at h,fun x hx y hy=>(h1 x hx).symm.trans (h1 y hy)⟩
theorem ang(ps:List (Int×Int)):(ps.any fun p=>decide (p.1=p.2))=!ps.all xh:=by
 induction ps with
 |nil=>rfl
 |cons p ps ih=>
  rw[A0,Ir,ih]
  unfold xh
  by_cases e:p.1=p.2
  ·rw[decide_eq_true e,decide_eq_false (show ¬p.1≠p.2 from fun z=>z e)];rfl
  ·rw[decide_eq_false e,decide_eq_true (show p.1≠p.2 from e)];rfl
theorem range_any{α:Type}(ps:List α)(d:α)(f:α->Bool):((bT ps.length).any fun i=>f (ps.getD i d))=ps.any f:=by
 rw[rB,A1,A1]
 constructor
 ·rintro⟨i,hi,e⟩
  have j4:=iG.mp hi
  rw[eX,bZ j4]at e
  exact⟨_,A5 j4,e⟩
 ·rintro⟨x,hx,e⟩
  obtain⟨i,hi,rfl⟩:=IA hx
  refine⟨i,iG.mpr hi,?_⟩
  rw[eX,bZ hi]
  exact e
theorem aah:bU ["_law_heap_here","_law_pairs","_law_left","_law_things","_law_pair"] ["_law_heap_here","_law_pairs","_law_left"] (az qG):=⟨rfl,rfl,rfl,by decide +kernel,rfl,by decide +kernel,by decide +kernel⟩
theorem atr(T:Txt K mg Z):bD P w K mg base bK 1 Z.Ub Z.Sx ["_law_heap_here","_law_pairs","_law_left"] aw5:=by
 refine T.DJ.fn.ok aah (fun vs H Q E h=>?_) (fun bg A outer s H vs Q E hr h=>?_)
 ·obtain⟨h,a,l,ts,ns,ps,ls,rfl,_⟩:=h
  rfl
 ·obtain⟨h,a,l,ts,ns,ps,ls,rfl,hh,cT,ha,cE,hl,n9,k⟩:=h
  have iM:=hr.units
  have bC:=ha.2.1
  refine⟨_,(aH (bR (i:=3) aah.nd rfl (aT rfl) (kj o7 rfl T.gU iJ (aj (pv 2) aq)))
   (aH (iF iy rfl (gf (pv 1)) (cK (i:=4) aah.nd rfl (aT rfl)) (aJ (fX (ie gT zw PySem.F.type_list_extend aiO (pv 3) (aj (pv 4) aq)))))
   (aH (bY (PW.pt (ji (cG (qx iM) (bB uM rfl T.mW oY (aj (pv 3) aq)) (bB uM rfl T.mW oY (aj (pv 0) aq)) (bI _)) (jP (dm (bB (ad6 rfl) rfl T.O5 boot_any (aj (jz (N:=["_law_pair"]) (cap:=[none]) rfl (iA (XN:=["_law_heap_here","_law_pairs","_law_left","_law_things","_law_pair"]) (xs:=(az qG).names) rfl rfl (by decide +kernel)) (gf (pv 1)) (fun _ _ _=>(cK (i:=0) (show(["_law_pair"]:List Str).Nodup by decide +kernel) rfl (aT rfl) (eF rfl))) (fun _ _ _=>jO) (fun _ _ _=>(fW gv (cX (ahr (K:=K) rfl) (pv 0) aD (fun _ _=>rfl)) (cX (ahr (K:=K) rfl) (pv 0) aD (fun _ _=>rfl)) (bI _)))) aq)))))) (aJ (aY cP)) b8)
   (aJ (aY (ajg (fW oG (bB dI rfl T.cW dh (aj (pv 2) aq)) aD (bI _)) (iZ (gO (fW gv (bB QF rfl T.cW dh (aj (kj (QG rfl) rfl T.IY boot_set (aj (pv 2) aq)) aq)) aD (bI _)) (iZ (bB (zJ rfl) rfl T.xR Bh (aj (jz (N:=["_law_pair","_law_left"]) (cap:=[none,some 2]) rfl (iA (XN:=["_law_heap_here","_law_pairs","_law_left","_law_things","_law_pair"]) (xs:=(az qG).names) rfl rfl (by decide +kernel)) (gf (pv 1)) (fun _ _ _=>(cK (i:=0) (show(["_law_pair","_law_left"]:List Str).Nodup by decide +kernel) rfl (aT rfl) (eF rfl))) (fun _ _ _=>jO) (fun _ _ _=>(fW (aja (K:=K) rfl) (cX (Wv (K:=K) rfl) (pv 1) aD (fun _ _=>rfl)) (pv 0) rfl))) aq))))))))))),?_⟩
  refine⟨_,rfl,l,_,rfl,.inl (.of hl),fun d pC=>?_⟩
  have s1:ak H (upd H d (.lst (ls.map V.int))):=(ak.refl H).upd pC
  refine d9 ?_
  refine⟨_,rfl,a,rfl,⟨_,.of (s1 a _ ha.1)⟩,nX (K:=K) (a:=a) (xs:=ts.map V.ref) (fun i σ H2=>∃v:Option V,σ=[some (.ref h),some (.ref a),some (.ref l),some (.ref d),v]/\ak H H2/\H2 d=some (.lst ((ls++jv (ps.take i)).map V.int)))
   ⟨none,rfl,s1,by rw[au];simp[jv]⟩ (fun i σ H2 _ ⟨_,_,s2,_⟩=>.of (s2 a _ ha.1)) ?_ ?_⟩
  ·rintro i x σ H2 hx ⟨v,rfl,s2,h2⟩
   obtain⟨t,ht,rfl⟩:=oJ hx
   obtain⟨p,hp⟩:=nY bC ht
   have mw:ps.take (i+1)=ps.take i++[p]:=by rw[jW,hp];rfl
   refine⟨_,rfl,ir h2,_,rfl,d,t,_,_,rfl,rfl,h2,.of (s2 t _ (ha.2.2 i t p ht hp)),?_,?_⟩
   ·rw[aC,bW,Em,jr]
    have:(2000:Nat)<=sizeLine:=by decide
    show _+2<=_
    omega
   ·refine⟨_,rfl,s2.upd pC,?_⟩
    rw[au,mw,agq,<- fZ,fD (l₁:=ls++jv (ps.take i))]
    rfl
  rintro σ H2 ⟨v,rfl,s2,h2⟩
  rw[aC,bC,mS]at h2
  have pD:=Em ps
  refine d9 ?_
  refine⟨_,rfl,d,ls++jv ps,rfl,.of h2,by rw[bW];omega,fun q1 m1 m9 sP up1=>?_⟩
  have r7:ak H2 (upd H2 q1 (.lst (m1.map V.int))):=(ak.refl H2).upd m9
  refine⟨_,rfl,h,ns,rfl,.of (r7 h _ (s2 h _ hh)),by omega,fun q2 m2 hq2 sQ AD=>?_⟩
  have nq:q1≠q2:=bf au hq2
  have r8:ak H2 (upd (upd H2 q1 (.lst (m1.map V.int))) q2 (.lst (m2.map V.int))):=r7.upd (r7.free hq2)
  have qe:(upd (upd H2 q1 (.lst (m1.map V.int))) q2 (.lst (m2.map V.int))) q1=some (.lst (m1.map V.int)):=by rw[aA nq];exact au
  have yu:(upd (upd H2 q1 (.lst (m1.map V.int))) q2 (.lst (m2.map V.int))) q2=some (.lst (m2.map V.int)):=au
  generalize upd (upd H2 q1 (.lst (m1.map V.int))) q2 (.lst (m2.map V.int))=H8 at r8 qe yu
  refine⟨_,_,ju (.of qe),ju (.of yu),shaped_ints _,shaped_ints _,_,rfl,?_⟩
  show if(!jI (.list (m1.map iH)) (.list (m2.map iH)))=true then _ else _
  rw[Jm,MW sP up1 sQ AD (by omega)]
  have ep:decide ((ls++jv ps).Perm ns)=decide ((jv ps++ls).Perm ns):=by
   by_cases z:(jv ps++ls).Perm ns
   ·rw[decide_eq_true z,decide_eq_true (lF.trans z)]
   ·rw[decide_eq_false z,decide_eq_false fun q=>z (lF.trans q)]
  rw[ep]
  have s8:=s2.trans r8
  unfold Ht at k
  cases hq:decide ((jv ps++ls).Perm ns) with
  |false=>
   rw[hq,iQ,HV]at k
   exact cJ (k H8 s8)
  |true=>
  rw[hq,iu]at k
  refine bH ?_
  have Vd:=ha.same s8
  refine⟨_,rfl,a,rfl,⟨_,.of Vd.1⟩,Fv (fun σ=>∃v,σ=[v]) (fun i=>.bl (decide ((ps.getD i (0,0)).1=(ps.getD i (0,0)).2))) (by rw[aC];omega) ⟨none,rfl⟩ (.of Vd.1) ?_ ?_⟩
  ·rintro i x σ' H' k2 r hx ⟨v,rfl⟩ sm hk
   obtain⟨t,ht,rfl⟩:=oJ hx
   obtain⟨p,hp⟩:=nY bC ht
   rw[getD_at hp]at hk
   have yw:=sm t _ (Vd.2.2 i t p ht hp)
   refine⟨_,rfl,t,_,_,_,rfl,rfl,.of yw,iV (j:=0) rfl,_,rfl,t,_,_,_,rfl,rfl,.of yw,iV (j:=1) rfl,rfl,?_⟩
   rw[qW]
   exact hk _ _ ⟨_,rfl⟩ (ak.refl _)
  intro D H9 hD r9 hA
  have s9:=s8.trans r9
  refine⟨.ref D,_,rfl,AB hA,?_⟩
  rw[adI,aC,bC]
  have ea:((bT ps.length).any fun i=>decide ((ps.getD i (0,0)).1=(ps.getD i (0,0)).2))=!ps.all xh:=by
   rw[<- ang]
   exact range_any ps (0,0) fun p=>decide (p.1=p.2)
  rw[ea]
  cases hu:ps.all xh with
  |false=>
   rw[hu,iQ]at k
   exact⟨_,rfl,cJ (k H9 s9)⟩
  |true=>
  rw[hu,iu]at k
  refine⟨_,rfl,bH (Me ?_)⟩
  have hl9:=s9 l _ hl
  have ha9:=ha.same s9
  refine⟨_,rfl,l,_,rfl,.inl (.of hl9),_,_,rfl,rfl,_,rfl,dj (fun hc=>?_) (fun hc=>?_)⟩
  ·have d8:ls.length<2:=by
    have:=of_decide_eq_true hc
    rw[aC]at this
    omega
   unfold ki at k
   rw[if_pos d8]at k
   exact k H9 s9
  ·have d8:¬ls.length<2:=fun q=>hc (decide_eq_true (by rw[aC];omega))
   unfold ki at k
   rw[if_neg d8]at k
   refine⟨_,rfl,l,ls,rfl,.of hl9,by omega,fun q S BP=>?_⟩
   have gQ:ak H9 (upd H9 q (.set S (dist ls))):=(ak.refl H9).upd BP
   have ahf:(upd H9 q (.set S (dist ls))) q=some (.set S (dist ls)):=au
   generalize upd H9 q (.set S (dist ls))=fh at gQ ahf
   refine⟨q,S,_,rfl,ahf,rfl,_,rfl,?_⟩
   have e:decide (V.int (dist ls:Int)=V.int 1)=decide (ls.count (ls.getD 0 0)=ls.length):=by
    rw[qW,<- at9 (by omega)]
    by_cases z:dist ls=1
    ·rw[z];rfl
    ·rw[decide_eq_false z,decide_eq_false (by omega)]
   rw[e]
   have ig:=s9.trans gQ
   cases hq:decide (ls.count (ls.getD 0 0)=ls.length) with
   |false=>
    rw[hq,iQ]at k
    exact bH (k fh ig)
   |true=>
    rw[hq,iu]at k
    refine cJ ?_
    have Vb:=ha.same ig
    have Ld:=ig l _ hl
    refine⟨_,rfl,a,rfl,⟨_,.of Vb.1⟩,Fv (fun σ=>∃v,σ=[v,some (.ref l)]) (fun i=>.bl (EA (ls.getD 0 0) (ps.getD i (0,0)))) (by rw[aC];omega) ⟨none,rfl⟩ (.of Vb.1) ?_ ?_⟩
    ·rintro i x σ' H' k2 r hx ⟨v,rfl⟩ sm hk
     obtain⟨t,ht,rfl⟩:=oJ hx
     obtain⟨p,hp⟩:=nY bC ht
     rw[getD_at hp]at hk
     have fM:=hk [some (.ref t),some (.ref l)] H' ⟨_,rfl⟩ (ak.refl _)
     unfold EA at fM
     rw[<- Ws]at fM
     exact⟨_,rfl,l,_,_,_,rfl,rfl,.of (sm l _ Ld),p6 0 rfl (by omega),_,rfl,t,_,rfl,.inr (.of (sm t _ (Vb.2.2 i t p ht hp))),rfl,rfl,fM⟩
    ·intro D2 H' hD2 sm Bw
     refine⟨.ref D2,_,rfl,AB Bw,?_⟩
     rw[DO,aC,bC,range_all]
     exact k H' (ig.trans sm)
noncomputable def gu(H:Hp):List aa->List (Int×Int)->Prop
 | [],[]=>True
 |t::ts,p::ps=>H t=some (.tup [.int p.1,.int p.2])/\gu H ts ps
 |_,_=>False
theorem gu.mono{H H':Hp}(h:∀t p q,H t=some (.tup [.int p,.int q])->H' t=some (.tup [.int p,.int q])):∀ {ts:List aa} {ps:List (Int×Int)},gu H ts ps->gu H' ts ps
 | [],[],_=>trivial
 |t::ts,p::rs,⟨h1,h2⟩=>⟨h _ _ _ h1,h2.mono h⟩
 | [],_::_,h=>h.elim
 |_::_,[],h=>h.elim
theorem gu.same{H H':Hp}{ts:List aa}{ps:List (Int×Int)}(h:gu H ts ps)(s:ak H H'):gu H' ts ps:=h.mono fun _ _ _ e=>s _ _ e
theorem gu.set{H:Hp}{l:aa}{xs ys:List V}{ts:List aa}{ps:List (Int×Int)}(h:gu H ts ps)(hl:H l=some (.lst xs)):gu (upd H l (.lst ys)) ts ps:=h.mono fun t p q e=>by
 rw[aA (kh e hl (fun z=>by cases z))]
 exact e
theorem gu.len{H:Hp}:∀ {ts:List aa} {ps:List (Int×Int)},gu H ts ps->ts.length=ps.length
 | [],[],_=>rfl
 |_::_,_::_,⟨_,h2⟩=>congrArg (· + 1) h2.len
 | [],_::_,h=>h.elim
 |_::_,[],h=>h.elim
theorem gu.snoc{H:Hp}{t:aa}{p:Int×Int}(ht:H t=some (.tup [.int p.1,.int p.2])):∀ {ts:List aa} {ps:List (Int×Int)},gu H ts ps->gu H (ts++[t]) (ps++[p])
 | [],[],_=>⟨ht,trivial⟩
 |_::_,_::_,⟨h1,h2⟩=>⟨h1,h2.snoc ht⟩
 | [],_::_,h=>h.elim
 |_::_,[],h=>h.elim
theorem gu.last{H:Hp}:∀ {ts:List aa} {ps:List (Int×Int)},gu H ts ps->ts≠[]->∃(t:aa) (p:Int×Int),ts[ts.length-1]?=some t/\H t=some (.tup [.int p.1,.int p.2])/\gu H ts.dropLast ps.dropLast
 | [],_,_,h=>absurd rfl h
 | [t],[p],⟨h1,_⟩,_=>⟨t,p,rfl,h1,trivial⟩
 |t::u::ts,p::q::ps,⟨h1,h2⟩,_=>by
  obtain⟨t2,p2,e1,e2,e3⟩:=gu.last h2 (abI _ _)
  refine⟨t2,p2,?_,e2,?_⟩
  ·simpa using e1
  ·rw[amx (abI _ _),amx (abI _ _)]
   exact⟨h1,e3⟩
 |_::_,[],h,_=>h.elim
 | [_],_::_::_,⟨_,h⟩,_=>h.elim
 |_::_::_,[_],⟨_,h⟩,_=>h.elim
theorem gu.get{H:Hp}:∀ {ts:List aa} {ps:List (Int×Int)} {j:Nat} {t:aa} {p:Int×Int},gu H ts ps->ts[j]?=some t->ps[j]?=some p->H t=some (.tup [.int p.1,.int p.2])
 | [],[],j,t,p,_,h,_=>by simp at h
 |_::_,_::_,0,t,p,⟨h1,_⟩,h,h'=>by
  cases(cY h:_=t)
  cases(cY h':_=p)
  exact h1
 |_::ts,_::rs,j+1,t,p,⟨_,h2⟩,h,h'=>h2.get (ts:=ts) (ps:=rs) (j:=j) h h'
 | [],_::_,_,_,_,h,_,_=>h.elim
 |_::_,[],_,_,_,h,_,_=>h.elim
theorem gu.prs{H:Hp}{a:aa}{ts:List aa}{ps:List (Int×Int)}(h:gu H ts ps)(ha:H a=some (.lst (ts.map V.ref))):jH H a ts ps:=⟨ha,h.len,fun _ _ _ h1 h2=>h.get h1 h2⟩
theorem alf{H:Hp}:∀ {ts:List aa} {ps:List (Int×Int)},ts.length=ps.length->(∀(j:Nat) (t:aa) (p:Int×Int),ts[j]?=some t->ps[j]?=some p->H t=some (.tup [.int p.1,.int p.2]))->gu H ts ps
 | [],[],_,_=>trivial
 |t::ts,p::ps,hl,h=>⟨h 0 t p rfl rfl,alf (by simpa using hl) fun j t' p' h1 h2=>h (j+1) t' p' h1 h2⟩
 | [],_::_,hl,_=>by cases hl
 |_::_,[],hl,_=>by cases hl
theorem uy.set{C:aa}{H:Hp}{p b m d:aa}{us:List aa}{ps:List (Int×Int)}{ls:List Int}{xs ys:List V}(h:uy C H p b m us ps ls)(hd:H d=some (.lst xs))(n1:b≠d)(n2:m≠d):uy C (upd H d (.lst ys)) p b m us ps ls:=by
 obtain⟨dx,e⟩:=h.ob
 refine⟨⟨dx,by rw[aA (kh e hd (fun z=>by cases z))];exact e⟩,⟨by rw[aA n1];exact h.prs.1,h.prs.2.1,fun j t q h1 h2=>?_⟩,by rw[aA n2];exact h.nj⟩
 have:=h.prs.2.2 j t q h1 h2
 rw[aA (kh this hd (fun z=>by cases z))]
 exact this
theorem TN(l:List Du):jI (.list l) (.list [])=l.isEmpty:=by
 cases l<;>simp[jI,IP]
theorem jH.dat{H:Hp}{a:aa}{ts:List aa}{ps:List (Int×Int)}(h:jH H a ts ps):gS K H (.list (ps.map pr)) (.ref a):=anO (.of h.1) h.2.1 fun j t p h1 h2=>.of (h.2.2 j t p h1 h2)
structure Dt(H H':Hp)(pl ll:aa)(ts:List aa)(ps:List (Int×Int))(ls:List Int)(n m:Nat):Prop where
 sm:ak H H'
 pr:H' pl=some (.lst (ts.map V.ref))
 tu:gu H' ts ps
 lf:H' ll=some (.lst (ls.map V.int))
 ne:pl≠ll
 hp:ps.length<=n
 hl:ls.length<=m
noncomputable def aw6:Sp:=fun vs H Q _=>∃(h:aa) (ns:List Int) (c:Int),vs=[.ref h,.int c]/\H h=some (.lst (ns.map V.int))/\ns.length<=63/\(∀n∈ns,0<=n/\n<=999)/\∀H',ak H H'->Q (.bl true) H'
theorem Aw:bU ["_law_heap_here","_law_cell","_law_told","_law_pairs","_law_left","_law_way","_law_handed","_law_answer"] ["_law_heap_here","_law_cell"] (az wc):=⟨rfl,rfl,rfl,by decide +kernel,rfl,by decide +kernel,by decide +kernel⟩
theorem att(T:Txt K mg Z):bD P w K mg base bK 7 Z.Uc Z.Sy ["_law_heap_here","_law_cell"] aw6:=by
 have amm:=atU (P:=P) (w:=w) (base:=base) T
 have xw:=Ml (P:=P) (w:=w) (base:=base) T
 have jU:=FW (P:=P) (w:=w) (base:=base) T
 have NC:=aiW (P:=P) (w:=w) (base:=base) T
 have alR:=atj (P:=P) (w:=w) (base:=base) T
 have alZ:=atr (P:=P) (w:=w) (base:=base) T
 have jE:=FY (P:=P) (w:=w) (base:=base) T
 refine T.DK.fn.ok Aw (fun vs H Q E h=>?_) (fun bg A outer s H vs Q E hr h=>?_)
 ·obtain⟨h,ns,c,rfl,_⟩:=h
  rfl
 ·obtain⟨h,ns,c,rfl,hh,hl,hb,k⟩:=h
  have iM:=hr.units
  refine⟨_,(aH (bR (i:=2) Aw.nd rfl (aT rfl) (aP amm (hr.mono (by decide)) rfl T.paired.mg T.paired.fn.kp T.paired.bd .nil aG (aj (pv 0) aq)))
   (aH (Mw (i:=3) (j:=4) rfl Aw.nd rfl rfl (by decide) rfl rfl (aj (kj o7 rfl T.gU iJ (aj (eK (pv 2) rfl) aq)) (aj (aP xw (hr.mono (by decide)) rfl T.kG.mg T.kG.fn.kp T.kG.bd .nil aG (aj (eK (pv 2) rfl) (aj (pv 1) aq))) aq)) rfl)
   (aH (bR (i:=5) Aw.nd rfl (aT rfl) (aP jU (hr.mono (by decide)) rfl T.dH.mg T.dH.fn.kp T.dH.bd .nil aG (aj (pv 1) (aj aD (aj aD aq)))))
   (aH (bY (PW.pt (qA (cG gv (pv 5) aD (bI _)) (vC (cG (qx iM) (pv 3) (dD aq) (bI _))))) (aJ (bR (i:=4) Aw.nd rfl (aT rfl) (bM yK (pv 4) (kj o7 rfl T.gU iJ (aj (sJ gT aco acr aqT (pv 3)) aq))))) b8)
   (aH (bY (PW.pt (qA (cG gv (pv 5) aD (bI _)) (vC (cG (qx iM) (pv 3) (dD aq) (bI _))))) (aJ (Ge (aun (cX eZ (pv 3) aD (fun _ _=>rfl)) (sO tX aD)) (Gb (pv 3) aD Hr))) b8)
   (aH (bY (PW.pt (qA (cG gv (pv 5) aD (bI _)) (vC (cG mD (bB dI rfl T.cW dh (aj (pv 3) aq)) aD (bI _))))) (aJ (auE (pv 3) aD (dD (aj (i6 (aj (cX ou (cX eZ (pv 3) aD (fun _ _=>rfl)) aD (fun _ _=>rfl)) (aj (cX ou (cX eZ (pv 3) aD (fun _ _=>rfl)) aD (fun _ _=>rfl)) aq))) (aj (i6 (aj (cX ou (cX eZ (pv 3) aD (fun _ _=>rfl)) aD (fun _ _=>rfl)) (aj (cX ou (cX eZ (pv 3) aD (fun _ _=>rfl)) aD (fun _ _=>rfl)) aq))) aq))))) b8)
   (aH (bY (cG gv (pv 5) aD (bI _)) (aJ (fX (ie gT pZ PySem.F.type_list_append oA (pv 3) (aj (i6 (aj aD (aj aD aq))) aq)))) b8)
   (aH (bR (i:=6) Aw.nd rfl (aT rfl) (dD (aj (kj o7 rfl T.gU iJ (aj (pv 3) aq)) (aj (kj o7 rfl T.gU iJ (aj (pv 4) aq)) aq))))
   (aH (bR (i:=7) Aw.nd rfl (aT rfl) (iO T.Wc NC (hr.mono (by decide)) rfl T.Y3 T.IM.bd .nil aG (aj (cX eZ (pv 6) aD (fun _ _=>rfl)) (aj (cX eZ (pv 6) aD (fun _ _=>rfl)) aq))))
   (aH (fX (ie gT pZ PySem.F.type_list_append oA (cX eZ (pv 6) aD (fun _ _=>rfl)) (aj (i6 (aj aD (aj aD aq))) aq)))
   (aH (fX (ie gT pZ PySem.F.type_list_append oA (cX eZ (pv 6) aD (fun _ _=>rfl)) (aj aD aq)))
   (aH (bY (PW.pt (ji (cG (qx iM) (eK (pv 7) rfl) (pv 3) (bI _)) (jP (cG (qx iM) (eK (pv 7) rfl) (pv 4) (bI _))))) (aJ (aY cP)) b8)
   (aJ (aY (aP jE (hr.mono (by decide)) rfl T.cZ.mg T.cZ.fn.kp T.cZ.bd .nil aG (aj (kT (pv 7) T.nh T.agU alR (hr.mono (by decide)) T.Oj.bd .nil aG (aj (pv 0) aq)) (aj (aP alZ (hr.mono (by decide)) rfl T.DJ.mg T.DJ.fn.kp T.DJ.bd .nil aG (aj (pv 0) (aj (pv 3) (aj (pv 4) aq)))) aq))))))))))))))))),?_⟩
  refine⟨_,rfl,h,ns,rfl,hh,hl,hb,?_⟩
  intro p0 b m us vB ls0 H1 s1 Lj EB EN L8 PD G
  have bC:=G.len
  obtain⟨dx,ho⟩:=id PD.ob
  refine d9 ?_
  refine⟨_,rfl,p0,_,dx,_,_,rfl,ho,T.nh,T.Ao,FH _ _,b,_,rfl,.inl (.of PD.prs.1),fun pl jx=>?_⟩
  have r2:ak H1 (upd H1 pl (.lst (us.map V.ref))):=(ak.refl H1).upd jx
  have Lk:(upd H1 pl (.lst (us.map V.ref))) pl=some (.lst (us.map V.ref)):=au
  have Ll:=s1.free jx
  generalize upd H1 pl (.lst (us.map V.ref))=H2 at r2 Lk
  have Ds:=PD.same r2
  obtain⟨zN,Li⟩:=id Ds.ob
  refine⟨_,rfl,p0,_,zN,_,_,rfl,Li,T.nh,T.An,FG _ _,_,rfl,m,ls0,c,rfl,Ds.nj,by omega,fun l1 FI H3 r3 Ld h3 BH=>⟨_,_,rfl,?_⟩⟩
  refine d9 ?_
  refine⟨_,rfl,_,_,_,rfl,by decide,fun wy H4 w0 w1 r4=>?_⟩
  refine d9 ?_
  have MA:=r3.trans r4
  have cu:Dt H H4 pl l1 us vB FI 31 64:=⟨s1.trans (r2.trans MA),MA pl _ Lk,(alf Ds.prs.2.1 Ds.prs.2.2).same MA,r4 l1 _ h3,bf Lk Ld,by omega,by omega⟩
  clear Ds PD G MA r3 r4 h3 Lk r2 ho Li
  -- one pair to yX is left
  refine gR (fun σ' H'=>∃(ll:aa) (ts:List aa) (ps:List (Int×Int)) (ls:List Int),σ'=[some (.ref h),some (.int c),some (.ref p0),some (.ref pl),some (.ref ll),some (.int wy),none,none]/\Dt H H' pl ll ts ps ls 31 66) (fun k2 bA=>?_) (fun σ' H5 hj=>?_)
  ·have stay:∀H',ak H4 H'->k2 [some (.ref h),some (.int c),some (.ref p0),some (.ref pl),some (.ref l1),some (.int wy),none,none] H':=fun H' r=>bA _ _ ⟨l1,us,vB,FI,rfl,cu.sm.trans r,r pl _ cu.pr,cu.tu.same r,r l1 _ cu.lf,cu.ne,cu.hp,by have:=cu.hl;omega⟩
   refine⟨_,rfl,rfl,_,rfl,dj (fun hc=>?_) (fun hc=>bH (stay _ (ak.refl _)))⟩
   refine⟨_,rfl,by show 0<=aX;decide,fun e he=>?_⟩
   have r5:ak H4 (upd H4 e (.lst [])):=(ak.refl H4).upd he
   have d2:gS K (upd H4 e (.lst [])) (.list []) (.ref e):=ju (ns:=[]) (.of au)
   generalize upd H4 e (.lst [])=H5 at r5 d2
   have nF:=cu.tu.same r5
   have pM:=r5 pl _ cu.pr
   refine⟨_,_,(nF.prs pM).dat,d2,Hu vB,shaped_ints [],_,rfl,?_⟩
   show if(!jI (.list (vB.map pr)) (.list []))=true then _ else _
   rw[TN]
   by_cases hz:vB=[]
   ·have e0:(!(vB.map pr).isEmpty)=false:=by rw[hz];rfl
    rw[e0]
    exact bH (stay _ r5)
   ·have e0:(!(vB.map pr).isEmpty)=true:=by
     cases vB with
     |nil=>exact absurd rfl hz
     |cons _ _=>rfl
    rw[e0]
    refine cJ ?_
    have mz:us≠[]:=fun z=>hz (abN.mp (by rw[<- nF.len,z];rfl))
    obtain⟨t,p,e1,e2,e3⟩:=nF.last mz
    refine⟨_,rfl,_,rfl,ir pM,pl,_,.ref t,rfl,rfl,pM,?_,?_⟩
    ·rw[aC,dG,e1];rfl
    rw[<- List.map_dropLast]
    have lf6:(upd H5 pl (.lst (us.dropLast.map V.ref))) l1=some (.lst (FI.map V.int)):=by rw[aA (dB cu.ne)];exact r5 l1 _ cu.lf
    have tu6:=e3.set (ys:=us.dropLast.map V.ref) pM
    have t6:(upd H5 pl (.lst (us.dropLast.map V.ref))) t=some (.tup [.int p.1,.int p.2]):=by rw[aA (kh e2 pM (fun z=>by cases z))];exact e2
    have s6:ak H (upd H5 pl (.lst (us.dropLast.map V.ref))):=(cu.sm.trans r5).upd Ll
    have Z3:(upd H5 pl (.lst (us.dropLast.map V.ref))) pl=some (.lst (us.dropLast.map V.ref)):=au
    generalize upd H5 pl (.lst (us.dropLast.map V.ref))=H6 at lf6 tu6 t6 s6 Z3
    refine⟨t,_,rfl,.inr (.of t6),fun q hq=>?_⟩
    have r7:ak H6 (upd H6 q (.lst [.int p.1,.int p.2])):=(ak.refl H6).upd hq
    refine⟨l1,q,_,_,rfl,rfl,r7 l1 _ lf6,au,?_,fun nw hnw=>?_⟩
    ·rw[aC]
     have:=cu.hl
     have:(1000:Nat)<=sizeLine:=by decide
     show _+2<=_
     omega
    have r8:=r7.upd (o:=.lst (FI.map V.int++[.int p.1,.int p.2])) (r7.free hnw)
    refine bA _ _ ⟨nw,us.dropLast,vB.dropLast,FI++[p.1,p.2],rfl,s6.trans r8,r8 pl _ Z3,tu6.same r8,?_,bf (r7 pl _ Z3) hnw,by rw[amI];have:=cu.hp;omega,by rw[bW];have:=cu.hl;simp;omega⟩
    rw[au,fD]
    rfl
  obtain⟨ll,ts,ps,ls,rfl,cU⟩:=hj
  clear cu
  -- a pair turned round
  refine gR (fun σ' H'=>∃(ts:List aa) (ps:List (Int×Int)),σ'=[some (.ref h),some (.int c),some (.ref p0),some (.ref pl),some (.ref ll),some (.int wy),none,none]/\Dt H H' pl ll ts ps ls 31 66) (fun k2 bA=>?_) (fun σ' H6 hj=>?_)
  ·have stay:∀H',ak H5 H'->k2 [some (.ref h),some (.int c),some (.ref p0),some (.ref pl),some (.ref ll),some (.int wy),none,none] H':=fun H' r=>bA _ _ ⟨ts,ps,rfl,cU.sm.trans r,r pl _ cU.pr,cU.tu.same r,r ll _ cU.lf,cU.ne,cU.hp,cU.hl⟩
   refine⟨_,rfl,rfl,_,rfl,dj (fun hc=>?_) (fun hc=>bH (stay _ (ak.refl _)))⟩
   refine⟨_,rfl,by show 0<=aX;decide,fun e he=>?_⟩
   have r5:ak H5 (upd H5 e (.lst [])):=(ak.refl H5).upd he
   have d2:gS K (upd H5 e (.lst [])) (.list []) (.ref e):=ju (ns:=[]) (.of au)
   generalize upd H5 e (.lst [])=H6 at r5 d2
   have nF:=cU.tu.same r5
   have pM:=r5 pl _ cU.pr
   refine⟨_,_,(nF.prs pM).dat,d2,Hu ps,shaped_ints [],_,rfl,?_⟩
   show if(!jI (.list (ps.map pr)) (.list []))=true then _ else _
   rw[TN]
   match ts,ps,nF,pM,cU,stay,bA with
   | [],[],nF,pM,cU,stay,bA=>exact bH (stay _ r5)
   |t::ts,p::ps,nF,pM,cU,stay,bA=>
    refine cJ ?_
    refine⟨_,rfl,pl,_,_,_,rfl,rfl,.of pM,iV (j:=0) rfl,1,rfl,rfl,t,_,_,rfl,.of nF.1,fun q hq=>?_⟩
    have r7:ak H6 (upd H6 q (.tup [.int p.2,.int p.1])):=(ak.refl H6).upd hq
    have hq7:(upd H6 q (.tup [.int p.2,.int p.1])) q=some (.tup [.int p.2,.int p.1]):=au
    generalize upd H6 q (.tup [.int p.2,.int p.1])=H7 at r7 hq7
    have Cs:=r7 pl _ pM
    refine⟨_,rfl,pl,_,_,_,rfl,rfl,Cs,Fe (mR 0) (by simp),?_⟩
    have yH:=cU.ne
    refine bA _ _ ⟨q::ts,(p.2,p.1)::ps,rfl,(cU.sm.trans (r5.trans r7)).upd Ll,by rw[au];rfl,(show gu _ (q::ts) ((p.2,p.1)::ps) from⟨hq7,(nF.2.same r7)⟩).set Cs,by rw[aA (dB yH)];exact(r5.trans r7) ll _ cU.lf,yH,cU.hp,cU.hl⟩
   | [],_::_,nF,_,_,_,_=>exact nF.elim
   |_::_,[],nF,_,_,_,_=>exact nF.elim
  obtain⟨ts,ps,rfl,ez⟩:=hj
  clear cU
  refine gR (fun σ' H'=>∃(ts:List aa) (ps:List (Int×Int)),σ'=[some (.ref h),some (.int c),some (.ref p0),some (.ref pl),some (.ref ll),some (.int wy),none,none]/\Dt H H' pl ll ts ps ls 31 66) (fun k2 bA=>?_) (fun σ' H7 hj=>?_)
  ·refine⟨_,rfl,rfl,_,rfl,dj (fun hc=>?_) (fun hc=>bH (bA _ _ ⟨ts,ps,rfl,ez⟩))⟩
   refine⟨_,rfl,pl,_,rfl,.inl (.of ez.pr),_,_,rfl,rfl,_,rfl,dj (fun hd=>?_) (fun hd=>bA _ _ ⟨ts,ps,rfl,ez⟩)⟩
   have zY:2<=ts.length:=by
    have:=of_decide_eq_true hd
    rw[aC]at this
    omega
   match ts,ps,ez,zY,bA with
   |t::u::ts,p::q::ps,ez,_,bA=>
    have ht:=ez.tu.1
    have hu':=ez.tu.2.1
    refine⟨_,rfl,pl,_,_,_,rfl,rfl,.of ez.pr,iV (j:=0) rfl,t,_,_,_,rfl,rfl,.of ht,iV (j:=0) rfl,_,rfl,pl,_,_,_,rfl,rfl,.of ez.pr,iV (j:=1) rfl,u,_,_,_,rfl,rfl,.of hu',iV (j:=0) rfl,by show 2<=aX;decide,fun t1 V4=>?_⟩
    have r7:ak H6 (upd H6 t1 (.tup [.int p.1,.int q.1])):=(ak.refl H6).upd V4
    have ahj:(upd H6 t1 (.tup [.int p.1,.int q.1])) t1=some (.tup [.int p.1,.int q.1]):=au
    generalize upd H6 t1 (.tup [.int p.1,.int q.1])=H7 at r7 ahj
    have Cs:=r7 pl _ ez.pr
    refine⟨_,rfl,pl,_,_,_,rfl,rfl,.of Cs,iV (j:=0) rfl,t,_,_,_,rfl,rfl,.of (r7 t _ ht),iV (j:=1) rfl,_,rfl,pl,_,_,_,rfl,rfl,.of Cs,iV (j:=1) rfl,u,_,_,_,rfl,rfl,.of (r7 u _ hu'),iV (j:=1) rfl,by show 2<=aX;decide,fun t2 jM=>?_⟩
    have r8:ak H7 (upd H7 t2 (.tup [.int p.2,.int q.2])):=(ak.refl H7).upd jM
    have ahk:(upd H7 t2 (.tup [.int p.2,.int q.2])) t2=some (.tup [.int p.2,.int q.2]):=au
    generalize upd H7 t2 (.tup [.int p.2,.int q.2])=H8 at r8 ahk
    refine⟨by show 2<=aX;decide,fun lq hlq=>?_⟩
    have r9:ak H8 (upd H8 lq (.lst [.ref t1,.ref t2])):=(ak.refl H8).upd hlq
    have ag6:(upd H8 lq (.lst [.ref t1,.ref t2])) lq=some (.lst [.ref t1,.ref t2]):=au
    have nlq:pl≠lq:=bf (r8 pl _ Cs) hlq
    generalize upd H8 lq (.lst [.ref t1,.ref t2])=H9 at r9 ag6
    have MB:=(r7.trans r8).trans r9
    have pr9:=MB pl _ ez.pr
    have U5:(1000:Nat)<=sizeLine:=by decide
    have apA:=ez.hp
    have Ac:=ez.tu.len
    refine⟨_,rfl,pl,_,2,lq,_,rfl,rfl,rfl,pr9,ag6,nlq,by decide,by rw[aC,gF,gF];omega,?_,?_⟩
    ·rw[aC]
     show _+2<=_
     omega
    have yH:=ez.ne
    refine bA _ _ ⟨t1::t2::ts,(p.1,q.1)::(p.2,q.2)::ps,rfl,(ez.sm.trans MB).upd Ll,by rw[au];rfl,(show gu H9 (t1::t2::ts) ((p.1,q.1)::(p.2,q.2)::ps) from⟨(r8.trans r9) t1 _ ahj,r9 t2 _ ahk,ez.tu.2.2.same MB⟩).set pr9,by rw[aA (dB yH)];exact MB ll _ ez.lf,yH,apA,ez.hl⟩
   | [],_,_,h2,_=>simp at h2
   | [_],_,_,h2,_=>simp at h2
   |_::_::_,[],ez,_,_=>exact ez.tu.elim
   |_::_::_,[_],ez,_,_=>exact ez.tu.2.elim
  obtain⟨ts3,ps3,rfl,gg⟩:=hj
  clear ez
  refine gR (fun σ' H'=>∃(ts:List aa) (ps:List (Int×Int)),σ'=[some (.ref h),some (.int c),some (.ref p0),some (.ref pl),some (.ref ll),some (.int wy),none,none]/\Dt H H' pl ll ts ps ls 32 66) (fun k2 bA=>?_) (fun σ' H8 hj=>?_)
  ·refine⟨_,rfl,rfl,_,rfl,dj (fun hc=>?_) (fun hc=>bA _ _ ⟨ts3,ps3,rfl,gg.sm,gg.pr,gg.tu,gg.lf,gg.ne,by have:=gg.hp;omega,gg.hl⟩)⟩
   refine⟨_,rfl,ir gg.pr,by show 2<=aX;decide,fun t ht=>?_⟩
   have r8:ak H7 (upd H7 t (.tup [.int 5,.int 5])):=(ak.refl H7).upd ht
   have mw:(upd H7 t (.tup [.int 5,.int 5])) t=some (.tup [.int 5,.int 5]):=au
   generalize upd H7 t (.tup [.int 5,.int 5])=H8 at r8 mw
   have pr8:=r8 pl _ gg.pr
   have hp7:=gg.hp
   have yH:=gg.ne
   refine⟨pl,_,_,rfl,rfl,pr8,by rw[aC,gg.tu.len];exact pQ (by omega),?_⟩
   refine bA _ _ ⟨ts3++[t],ps3++[(5,5)],rfl,(gg.sm.trans r8).upd Ll,by rw[au,fD];rfl,((gg.tu.same r8).snoc (p:=(5,5)) mw).set pr8,by rw[aA (dB yH)];exact r8 ll _ gg.lf,yH,by rw[bW];simp;omega,gg.hl⟩
  obtain⟨ts,ps,rfl,gh⟩:=hj
  clear gg
  have hp8:=gh.hp
  have hl8:=gh.hl
  -- yX is handed in
  refine⟨_,rfl,pl,_,rfl,.inl (.of gh.pr),fun h1 K5=>?_⟩
  have r9:ak H8 (upd H8 h1 (.lst (ts.map V.ref))):=(ak.refl H8).upd K5
  have a9:(upd H8 h1 (.lst (ts.map V.ref))) h1=some (.lst (ts.map V.ref)):=au
  have n1:pl≠h1:=bf gh.pr K5
  have n1':ll≠h1:=bf gh.lf K5
  have f1:=gh.sm.free K5
  generalize upd H8 h1 (.lst (ts.map V.ref))=H9 at r9 a9
  refine⟨_,rfl,ll,_,rfl,.inl (.of (r9 ll _ gh.lf)),fun h2 BF=>?_⟩
  have gQ:ak H9 (upd H9 h2 (.lst (ls.map V.int))):=(ak.refl H9).upd BF
  have a10:(upd H9 h2 (.lst (ls.map V.int))) h2=some (.lst (ls.map V.int)):=au
  have n2:pl≠h2:=bf (r9 pl _ gh.pr) BF
  have n2':ll≠h2:=bf (r9 ll _ gh.lf) BF
  have n12:h1≠h2:=bf a9 BF
  have f2:=gh.sm.free (r9.free BF)
  generalize upd H9 h2 (.lst (ls.map V.int))=fh at gQ a10
  refine⟨by show 2<=aX;decide,fun hd uV=>?_⟩
  have kq:ak fh (upd fh hd (.lst [.ref h1,.ref h2])):=(ak.refl fh).upd uV
  have a11:(upd fh hd (.lst [.ref h1,.ref h2])) hd=some (.lst [.ref h1,.ref h2]):=au
  have n3:h1≠hd:=bf (gQ h1 _ a9) uV
  have n4:h2≠hd:=bf a10 uV
  generalize upd fh hd (.lst [.ref h1,.ref h2])=pT at kq a11
  have akl:=(r9.trans gQ).trans kq
  have b1:=(gQ.trans kq) h1 _ a9
  have b2:=kq h2 _ a10
  refine d9 ?_
  refine⟨_,rfl,hd,_,_,_,rfl,rfl,.of a11,iV (j:=0) rfl,_,rfl,hd,_,_,_,rfl,rfl,.of a11,iV (j:=1) rfl,?_⟩
  intro x uN hx dW yI
  have ayD:=gh.tu.same akl
  have auD:jH (upd (upd pT uN (.own x)) x (.ins Z.gI uN [])) h1 ts ps:=(ayD.mono fun t p q e=>iD hx dW e).prs (iD hx dW b1)
  refine⟨x,uN,h1,h2,ts,ps,ls,rfl,au,auD,by omega,iD hx dW b2,by omega,fun bb mm uu xz aoX By hmm azw PD=>⟨rfl,?_⟩⟩
  have kU:ak pT xz:=iN (ak.refl _) hx dW aoX
  have Br:pT bb=none:=nk (ak.refl _) By
  have fmm:pT mm=none:=nk (ak.refl _) hmm
  have a12:=kU hd _ a11
  have c1:=kU h1 _ b1
  have c2:=kU h2 _ b2
  refine d9 ?_
  refine⟨_,rfl,hd,_,_,_,rfl,rfl,.of a12,iV (j:=0) rfl,ir c1,by show 2<=aX;decide,fun tt yw=>?_⟩
  have i9:ak xz (upd xz tt (.tup [.int 1,.int 2])):=(ak.refl xz).upd yw
  generalize upd xz tt (.tup [.int 1,.int 2])=kC at i9
  refine⟨h1,_,_,rfl,rfl,i9 h1 _ c1,by rw[aC,gh.tu.len];exact pQ (by omega),?_⟩
  have acg:=(PD.same i9).set (ys:=ts.map V.ref++[.ref tt]) (i9 h1 _ c1) (dB (bf b1 Br)) (dB (bf b1 fmm))
  have MC:=(akl.trans kU).trans i9
  have CC:ak H (upd kC h1 (.lst (ts.map V.ref++[.ref tt]))):=(gh.sm.trans MC).upd f1
  have ajk:(upd kC h1 (.lst (ts.map V.ref++[.ref tt]))) pl=some (.lst (ts.map V.ref)):=by rw[aA n1];exact MC pl _ gh.pr
  have aiK:(upd kC h1 (.lst (ts.map V.ref++[.ref tt]))) ll=some (.lst (ls.map V.int)):=by rw[aA n1'];exact MC ll _ gh.lf
  have alg:=(gh.tu.same MC).set (ys:=ts.map V.ref++[.ref tt]) (i9 h1 _ c1)
  have agZ:(upd kC h1 (.lst (ts.map V.ref++[.ref tt]))) hd=some (.lst [.ref h1,.ref h2]):=by rw[aA (dB n3)];exact i9 hd _ a12
  have uL:(upd kC h1 (.lst (ts.map V.ref++[.ref tt]))) h2=some (.lst (ls.map V.int)):=by rw[aA (dB n12)];exact i9 h2 _ c2
  generalize upd kC h1 (.lst (ts.map V.ref++[.ref tt]))=xA at acg CC ajk aiK alg agZ uL
  refine d9 ?_
  refine⟨_,rfl,hd,_,_,_,rfl,rfl,.of agZ,iV (j:=1) rfl,ir uL,h2,_,_,rfl,rfl,uL,by rw[aC];exact pQ (by omega),?_⟩
  have Dr:=acg.set (ys:=ls.map V.int++[.int 0]) uL (dB (bf b2 Br)) (dB (bf b2 fmm))
  have sS:ak H (upd xA h2 (.lst (ls.map V.int++[.int 0]))):=CC.upd f2
  have ZV:(upd xA h2 (.lst (ls.map V.int++[.int 0]))) pl=some (.lst (ts.map V.ref)):=by rw[aA n2];exact ajk
  have YX:(upd xA h2 (.lst (ls.map V.int++[.int 0]))) ll=some (.lst (ls.map V.int)):=by rw[aA n2'];exact aiK
  have aaK:=alg.set (ys:=ls.map V.int++[.int 0]) uL
  generalize upd xA h2 (.lst (ls.map V.int++[.int 0]))=C6 at Dr sS ZV YX aaK
  refine d9 ?_
  obtain⟨R0,ZC⟩:=id Dr.ob
  refine⟨_,rfl,x,_,R0,_,_,rfl,ZC,T.nh,T.Ao,FH _ _,_,rfl,_,_,Dr.prs.dat,(aaK.prs ZV).dat,Hu ps,Hu ps,_,rfl,?_⟩
  show if(!jI (.list (ps.map pr)) (.list (ps.map pr)))=true then _ else _
  rw[CH (Hu ps)]
  refine bH ?_
  refine⟨_,rfl,x,_,R0,_,_,rfl,ZC,T.nh,T.An,FG _ _,_,rfl,_,_,ju (.of Dr.nj),ju (.of YX),shaped_ints ls,shaped_ints ls,_,rfl,?_⟩
  show if(!jI (.list (ls.map iH)) (.list (ls.map iH)))=true then _ else _
  rw[CH (shaped_ints ls)]
  refine bH (Me ?_)
  refine⟨_,rfl,x,R0,_,rfl,ZC,aqC _ _ (by decide +kernel) (by decide +kernel),_,rfl,x,bb,mm,h,uu,ps,ls,ns,rfl,Dr,by omega,by omega,sS h _ hh,by omega,fun NO mJ=>?_⟩
  refine⟨_,rfl,_,rfl,_,rfl,h,pl,ll,ts,ns,ps,ls,rfl,mJ h _ (sS h _ hh),hl,(aaK.prs ZV).same mJ,by omega,mJ ll _ YX,by omega,fun C7 Av=>?_⟩
  refine⟨_,_,rfl,?_⟩
  rw[rP]
  exact k C7 ((sS.trans mJ).trans Av)
theorem akL{gs:List (List Int)}{ns:List Int}{n:Int}{g:List Int}(hg:g∈gs)(h:iY n g=false):Ay gs ns n=false:=by
 unfold Ay
 have:gs.all (iY n)=false:=by
  cases q:gs.all (iY n) with
  |false=>rfl
  |true=>rw[kD.mp q g hg]at h;cases h
 rw[this,iQ]
theorem aov{l:List (Int×Int)}(nd:(l.map (·.1)).Nodup){k v:Int}(h:get l k=some v):(k,v)∈l:=by
 have hk:k∈l.map (·.1):=L4.mpr (by rw[h];rfl)
 obtain⟨p,hp,rfl⟩:=oO.mp hk
 have:=get_mem nd hp
 rw[h]at this
 cases this
 exact hp
theorem Left.any{ns xs:List Int}{l:List (Int×Int)}(h:Left ns xs l):(l.any fun q=>decide (q.2<0))=!mC xs ns:=by
 cases hq:mC xs ns with
 |true=>
  show _=false
  rw[Bool.eq_false_iff]
  intro z
  obtain⟨q,hqm,hqc⟩:=A1.mp z
  have:=h.nn (FA.mp hq) hqm
  have:=of_decide_eq_true hqc
  omega
 |false=>
  show _=true
  rw[A1]
  have hn:¬ ∀k,xs.count k<=ns.count k:=fun z=>by rw[FA.mpr z]at hq;cases hq
  obtain⟨k,hk⟩:=Classical.not_forall.mp hn
  have e:=h.val k
  cases hg:get l k with
  |none=>
   rw[hg]at e
   simp at e
   omega
  |some v=>
   rw[hg]at e
   simp at e
   exact⟨(k,v),aov h.nd hg,decide_eq_true (by show v<0;omega)⟩
noncomputable def xy(H:Hp)(b:aa)(us:List aa)(gs:List (List Int)):Prop:=H b=some (.lst (us.map V.ref))/\us.length=gs.length/\∀(j:Nat) (t:aa) (g:List Int),us[j]?=some t->gs[j]?=some g->H t=some (.lst (g.map V.int))
theorem xy.same{H H':Hp}{b:aa}{us:List aa}{gs:List (List Int)}(h:xy H b us gs)(s:ak H H'):xy H' b us gs:=⟨s _ _ h.1,h.2.1,fun j t g h1 h2=>s _ _ (h.2.2 j t g h1 h2)⟩
theorem agk(a b:Int):decide (V.int a=V.int b)=decide (a=b):=qW a b
noncomputable def aw1:Sp:=fun vs H Q _=>∃(h b:aa) (us:List aa) (ns:List Int) (gs:List (List Int)) (n:Int),vs=[.ref h,.ref b,.int n]/\H h=some (.lst (ns.map V.int))/\ns.length<=63/\xy H b us gs/\gs.length<=100/\(∀g∈gs,g.length<=100)/\gs.flatten.length<=500/\(1<=n/\n<=100)/\
 ∀H',ak H H'->Q (.bl (Ay gs ns n)) H'
theorem Hl:bU ["_law_heap_here","_law_groups","_law_size","_law_left","_law_group","_law_kind","_law_more"] ["_law_heap_here","_law_groups","_law_size"] (az qE):=⟨rfl,rfl,rfl,by decide +kernel,rfl,by decide +kernel,by decide +kernel⟩
theorem atn(T:Txt K mg Z):bD P w K mg base bK 2 Z.T6 Z.Sq ["_law_heap_here","_law_groups","_law_size"] aw1:=by
 have AR:=ZI (P:=P) (w:=w) (base:=base) T
 refine T.DF.fn.ok Hl (fun vs H Q E h=>?_) (fun bg A outer s H vs Q E hr h=>?_)
 ·obtain⟨h,b,us,ns,gs,n,rfl,_⟩:=h
  rfl
 ·obtain⟨h,b,us,ns,gs,n,rfl,hh,hl,hG,hg1,BE,hg3,hn,k⟩:=h
  have hu:=pH hr
  have iM:=hr.units
  have bC:=hG.2.1
  refine⟨_,(aH (bR (i:=3) Hl.nd rfl (aT rfl) (aP AR (hr.mono (by decide)) rfl T.mV.mg T.mV.fn.kp T.mV.bd .nil aG (aj (pv 0) aq)))
   (aH (iF iy rfl (gf (pv 1)) (cK (i:=4) Hl.nd rfl (aT rfl)) (aH (bY (PW.pt (ji (cG pL (bB dI rfl T.cW dh (aj (pv 4) aq)) (pv 2) (bI _)) (jP (cG pL (bB QF rfl T.cW dh (aj (kj (QG rfl) rfl T.IY boot_set (aj (pv 4) aq)) aq)) (pv 2) (bI _))))) (aJ (aY cP)) b8)
   (aJ (iF iy rfl (gf (pv 4)) (cK (i:=5) Hl.nd rfl (aT rfl)) (aJ (Gf hu (pv 3) (pv 5) (bM mF (Ms hu (pv 3) (pv 5) aD ⟨rfl,rfl,rfl,rfl⟩) aD) rfl))))))
   (aH (bY (dm (bB (ad6 rfl) rfl T.O5 boot_any (aj (jz (N:=["_law_kind","_law_many_here"]) (cap:=[none,none]) rfl (iA (XN:=["_law_heap_here","_law_groups","_law_size","_law_left","_law_group","_law_kind","_law_more"]) (xs:=(az qE).names) rfl rfl (by decide +kernel)) (Cq (sJ uB A9 Dy Ci (pv 3))) (fun _ _ _=>(Mu (K:=K) (n:=2) rfl rfl (i8 (cK (i:=0) (show(["_law_kind","_law_many_here"]:List Str).Nodup by decide +kernel) rfl (aT rfl) (eF rfl)) (i8 (cK (i:=1) (show(["_law_kind","_law_many_here"]:List Str).Nodup by decide +kernel) rfl (aT rfl) (eF rfl)) qy)))) (fun _ _ _=>jO) (fun _ _ _=>(fW oG (pv 1) aD (bI _)))) aq))) (aJ (aY cP)) b8)
   (aH (bR (i:=6) Hl.nd rfl (eF rfl) (bM g9 (bB dI rfl T.cW dh (aj (pv 1) aq)) aD))
   (aJ (aY (fW oG (bB (QH rfl) rfl T.IZ boot_sum (aj (jz (N:=["_law_kind","_law_many_here","_law_more"]) (cap:=[none,none,some 6]) rfl (iA (XN:=["_law_heap_here","_law_groups","_law_size","_law_left","_law_group","_law_kind","_law_more"]) (xs:=(az qE).names) rfl rfl (by decide +kernel)) (Cq (sJ uB A9 Dy Ci (aP AR (hr.mono (by decide)) rfl T.mV.mg T.mV.fn.kp T.mV.bd .nil aG (aj (pv 0) aq)))) (fun _ _ _=>(Mu (K:=K) (n:=2) rfl rfl (i8 (cK (i:=0) (show(["_law_kind","_law_many_here","_law_more"]:List Str).Nodup by decide +kernel) rfl (aT rfl) (eF rfl)) (i8 (cK (i:=1) (show(["_law_kind","_law_many_here","_law_more"]:List Str).Nodup by decide +kernel) rfl (aT rfl) (eF rfl)) qy)))) (fun _ _ _=>jO) (fun _ _ _=>(bB (QE rfl) rfl T.IX boot_min (aj (pv 1) (aj (pv 2) aq))))) aq)) (bM oH (pv 6) (pv 2)) (bI _)))))))),?_⟩
  refine⟨_,rfl,h,ns,rfl,.of hh,by omega,fun d H1 pC s1 hd1=>?_⟩
  refine d9 ?_
  refine⟨_,rfl,b,rfl,⟨_,.of (s1 b _ hG.1)⟩,nX (K:=K) (a:=b) (xs:=us.map V.ref) (fun j σ H2=>(∃v4 v5:Option V,σ=[some (.ref h),some (.ref b),some (.int n),some (.ref d),v4,v5,none])/\ak H H2/\(∀g∈gs.take j,iY n g=true)/\∃nj,H2 d=some (.dK (kvs nj))/\Left ns (gs.take j).flatten nj)
   ⟨⟨_,_,rfl⟩,s1,(fun g hg=>by simp at hg),bh ns,hd1,by simpa using Left.start ns⟩ (fun j σ H2 _ h=>.of (h.2.1 b _ hG.1)) ?_ ?_⟩
  ·rintro j x σ H2 hx ⟨⟨v4,v5,rfl⟩,s2,cR,nj,jw,LF⟩
   obtain⟨t,ht,rfl⟩:=oJ hx
   obtain⟨g,hg⟩:=nY bC ht
   have yj:=eB hg
   have uT:=BE g yj
   have jM:=s2 t _ (hG.2.2 j t g ht hg)
   have htk:gs.take (j+1)=gs.take j++[g]:=by rw[jW,hg];rfl
   refine gR (fun σ' H'=>σ'=[some (.ref h),some (.ref b),some (.int n),some (.ref d),some (.ref t),v5,none]/\ak H2 H'/\iY n g=true) (fun k2 bA=>?_) (fun σ' H3 hj=>?_)
   ·refine⟨_,rfl,t,_,rfl,.inl (.of jM),_,rfl,rfl,_,rfl,?_⟩
    rw[agk,aC]
    cases hq:decide ((g.length:Int)=n) with
    |false=>
     have VS:iY n g=false:=by unfold iY;rw[hq];rfl
     refine cJ (cJ ?_)
     have:=k H2 s2
     rw[akL yj VS]at this
     exact this
    |true=>
     refine bH ?_
     refine⟨_,rfl,t,g,rfl,.of jM,by omega,fun sa S hsa=>?_⟩
     have r3:ak H2 (upd H2 sa (.set S (dist g))):=(ak.refl H2).upd hsa
     refine⟨sa,S,_,rfl,au,_,rfl,rfl,_,rfl,?_⟩
     generalize upd H2 sa (.set S (dist g))=H3 at r3
     rw[agk]
     have EJ:(g.length:Int)=n:=of_decide_eq_true hq
     cases hq2:decide (((dist g:Nat):Int)=n) with
     |false=>
      have VS:iY n g=false:=by
       unfold iY
       have:decide g.Nodup=false:=decide_eq_false fun z=>by
        have:=(Ji g).mpr z
        have:=of_decide_eq_false hq2
        omega
       rw[this,HV]
      refine cJ ?_
      have:=k H3 (s2.trans r3)
      rw[akL yj VS]at this
      exact this
     |true=>
      refine bH (bA _ _ ⟨rfl,r3,?_⟩)
      unfold iY
      rw[hq,decide_eq_true ((Ji g).mp (by have:=of_decide_eq_true hq2;omega))]
      rfl
   obtain⟨rfl,r3,hig⟩:=hj
   have s3:=s2.trans r3
   have mh:=r3 d _ jw
   refine⟨_,rfl,t,rfl,⟨_,.of (r3 t _ jM)⟩,nX (K:=K) (a:=t) (xs:=g.map V.int) (fun i2 σ H4=>(∃v5:Option V,σ=[some (.ref h),some (.ref b),some (.int n),some (.ref d),some (.ref t),v5,none])/\ak H H4/\∃nj,H4 d=some (.dK (kvs nj))/\Left ns ((gs.take j).flatten++g.take i2) nj)
    ⟨⟨_,rfl⟩,s3,nj,mh,by simpa using LF⟩ (fun i2 σ H4 _ h=>.of (h.2.1 t _ (hG.2.2 j t g ht hg))) ?_ ?_⟩
   ·rintro i2 x σ H4 pJ ⟨⟨v5',rfl⟩,s4,Fz,mZ,Di⟩
    obtain⟨kd,Lc,rfl⟩:=j7 pJ
    have apT:g.take (i2+1)=g.take i2++[kd]:=by rw[jW,Lc];rfl
    refine⟨_,rfl,d,rfl,.inl ⟨_,.inl mZ⟩,_,rfl,_,gm.k (k:=cN kd) mZ,?_⟩
    have hgv:(gj (kvs Fz) (cN kd:Key)).getD (V.int 0)=V.int ((get Fz kd).getD 0):=by
     rw[oN]
     cases get Fz kd<;>rfl
    rw[hgv]
    have VL:=Di.len
    have azk:((gs.take j).flatten++g.take i2).length<=600:=by
     have e2:(gs.take j).flatten.length<=gs.flatten.length:=by
      conv=>rhs;rw[<- oR j gs,xB,bW]
      omega
     rw[bW,jr]
     omega
    refine⟨_,_,rfl,rfl,_,rfl,_,rfl,d,_,rfl,uc.k (k:=cN kd) mZ (AA (by rw[Fy];omega)),?_⟩
    refine⟨⟨_,rfl⟩,s4.upd pC,_,by rw[au,Ct],?_⟩
    rw[apT,<- fZ]
    exact Di.step kd
   ·rintro σ H4 ⟨⟨v5',rfl⟩,s4,Fz,mZ,Di⟩
    rw[aC,mS]at Di
    refine⟨⟨_,_,rfl⟩,s4,?_,Fz,mZ,?_⟩
    ·intro g' hg'
     rw[htk]at hg'
     rcases lQ.mp hg' with z | z
     ·exact cR g' z
     ·rw[gb.mp z];exact hig
    ·rw[htk,xB]
     simpa using Di
  rintro σ H2 ⟨⟨v4,v5,rfl⟩,s2,cR,nj,jw,LF⟩
  rw[aC,bC,mS]at LF cR
  have aoC:gs.all (iY n)=true:=kD.mpr cR
  unfold Ay at k
  rw[aoC,iu]at k
  refine d9 ?_
  refine⟨_,rfl,xg jw,d,_,rfl,rfl,jw,fun v hv=>?_⟩
  have j9:d≠v:=bf jw hv
  refine⟨v,d,_,rfl,au,by rw[aA j9];exact jw,fun o=>?_⟩
  have s3:ak H (upd (upd H2 v (jY "dict_items" v d)) d (.cC o (.dK (kvs nj)))):=(s2.upd (s2.free hv)).upd pC
  have VL:=LF.len
  refine LR (fun σ=>∃v w,σ=[v,w]) (fun q=>some (.bl (decide (q.2<0)))) (by omega) ⟨none,none,rfl⟩ au ?_ ?_
  ·rintro j q σ' H' t k2 r hq ⟨v1,v2,rfl⟩ sm ht hk sy
   refine⟨t,_,rfl,.of au,rfl,_,_,rfl,_,_,rfl,rfl,?_⟩
   exact⟨_,rfl,_,_,rfl,rfl,hk _ _ _ rfl ⟨_,_,rfl⟩ ((ak.refl _).upd ht)⟩
  intro D H4 hD r4 hA
  rw[zQ]at hA
  have s4:=s3.trans r4
  refine⟨.ref D,_,rfl,AB hA,_,rfl,?_⟩
  rw[adI,LF.any]
  cases hq:mC gs.flatten ns with
  |false=>
   rw[hq,iQ]at k
   exact cJ (k H4 s4)
  |true=>
  rw[hq,iu]at k
  refine bH (Aq ?_)
  refine⟨_,rfl,b,_,rfl,.inl (.of (s4 b _ hG.1)),_,_,rfl,rfl,?_⟩
  have e1:(((us.map V.ref).length:Nat):Int)=(gs.length:Int):=by rw[aC,bC]
  rw[e1]
  refine⟨_,rfl,h,ns,rfl,.of (s4 h _ hh),by omega,fun d2 H5 aoI r5 m5=>⟨xg m5,d2,_,rfl,rfl,m5,fun v2 V9=>?_⟩⟩
  have aqZ:d2≠v2:=bf m5 V9
  refine⟨v2,d2,_,rfl,au,by rw[aA aqZ];exact m5,fun o2=>?_⟩
  have s6:ak H (upd (upd H5 v2 (jY "dict_items" v2 d2)) d2 (.cC o2 (.dK (kvs (bh ns))))):=((s4.trans r5).upd ((s4.trans r5).free V9)).upd (s4.free aoI)
  have m7:=nD ns
  refine LR (fun σ=>∃v w,σ=[v,w,some (.int ((gs.length:Int)+1))]) (fun q=>some (.int (mn ((gs.length:Int)+1) q.2))) (by omega) ⟨none,none,rfl⟩ au ?_ ?_
  ·rintro i q σ' H' t k2 r hq ⟨v1,v2,rfl⟩ sm ht hk sy
   refine⟨t,_,rfl,.of au,rfl,_,_,rfl,_,_,rfl,rfl,?_⟩
   exact⟨_,rfl,_,rfl,_,_,rfl,hk _ _ _ rfl ⟨_,_,rfl⟩ ((ak.refl _).upd ht)⟩
  intro D2 H7 hD2 r7 Bw
  rw[zQ]at Bw
  have U1:H7 D2=some (.lst ((((bh ns).map (·.2)).map (mn ((gs.length:Int)+1))).map V.int)):=by rw[Bw,lE,lE];rfl
  refine⟨.ref D2,_,rfl,⟨D2,rfl,.inl (.of U1)⟩,?_⟩
  refine⟨_,rfl,_,rfl,_,_,rfl,rfl,.inl ⟨by omega,by omega⟩,_,_,rfl,rfl,?_⟩
  have e2:decide (jA ns ((gs.length:Int)+1)<((gs.length:Int)+1)*n)=!decide (((gs.length:Int)+1)*n<=jA ns ((gs.length:Int)+1)):=by
   by_cases z:((gs.length:Int)+1)*n<=jA ns ((gs.length:Int)+1)
   ·rw[decide_eq_true z,decide_eq_false (by omega)];rfl
   ·rw[decide_eq_false z,decide_eq_true (by omega)];rfl
  have:=k H7 (s6.trans r7)
  rw[<- e2]at this
  exact this
theorem aiD{a:aa}{us:List aa}{gs:List (List Int)}{σ:L2.St}{H1:Hp}{Q:VK}(hG:xy H1 a us gs)(hl:gs.length<=1000)
  (q:∀(D:aa) (ws:List aa) (H':Hp),ak H1 H'->H1 D=none->ws.Nodup->D∉ws->(∀w∈ws,H1 w=none)->xy H' D ws gs->Q (.ref D) H') :
  lP [none] (Bs 0) ak' (tCB (fun xs H Q=>∃p ys,xs=[V.ref p]/\(dO K H p ys\/gc K H p ys)/\∀(l:aa),H l=none->Q (V.ref l) (upd H l (HO.lst ys))) (aaG (aaI 0) M8)) σ Q (rE K a) H1:=by
 obtain⟨ha,bC,eG⟩:=hG
 refine YU (fun σ=>∃v,σ=[v]) (fun i aE D H'=>∃ws:List aa,aE=ws.map V.ref/\ws.length=i/\ws.Nodup/\(∀u∈ws,H1 u=none/\u≠D/\H' u≠none)/\∀(j:Nat) (t:aa) (g:List Int),ws[j]?=some t->gs[j]?=some g->H' t=some (.lst (g.map V.int)))
  (by rw[aC];omega) ⟨none,rfl⟩ (.of ha) (fun D hD=>⟨[],rfl,rfl,Dm,fun u h=>by simp at h,fun j t p h=>by simp at h⟩) ?_ ?_ ?_ ?_
 ·rintro i aE D H' ⟨ws,rfl,e,_⟩
  rw[aC];omega
 ·rintro i aE D H' Ie ⟨ws,rfl,e,nd,fu,f⟩ kp
  refine⟨ws,rfl,e,nd,fun u hu=>⟨(fu u hu).1,(fu u hu).2.1,?_⟩,fun j t p h1 h2=>kp t _ (fu t (eB h1)).2.1 (f j t p h1 h2)⟩
  obtain⟨_,n1,n2⟩:=fu u hu
  cases hq:H' u with
  |none=>exact absurd hq n2
  |some o=>rw[kp u o n1 hq];exact fun z=>nomatch z
 ·rintro i x aE D σ' H' k2 r hx ⟨v,rfl⟩ sm hD hA ⟨ws,rfl,e,nd,fu,f⟩ hk
  obtain⟨t,ht,rfl⟩:=oJ hx
  obtain⟨g,n5⟩:=nY bC ht
  refine⟨_,rfl,t,_,rfl,.inl (.of (sm t _ (eG i t g ht n5))),fun u hu=>?_⟩
  have s2:ak H' (upd H' u (.lst (g.map V.int))):=(ak.refl H').upd hu
  have h2:(upd H' u (.lst (g.map V.int))) u=some (.lst (g.map V.int)):=au
  refine hk _ _ _ ⟨_,rfl⟩ s2 ⟨ws++[u],by rw[fD];rfl,by rw[bW,e];rfl,?_,?_,fun j t' p' h1 h3=>?_⟩
  ·rw[ID]
   refine⟨nd,by simp,fun y hy z hz=>?_⟩
   rw[gb.mp hz]
   intro q
   exact(fu y hy).2.2 (q▸hu)
  ·intro y hy
   rcases lQ.mp hy with q | q
   ·obtain⟨n0,n1,n2⟩:=fu y q
    refine⟨n0,n1,?_⟩
    cases hq:H' y with
    |none=>exact absurd hq n2
    |some o=>rw[s2 y o hq];exact fun z=>nomatch z
   ·rw[gb.mp q]
    exact⟨sm.free hu,(fun z=>by rw[z,hA]at hu;cases hu),by rw[h2];exact(fun z=>nomatch z)⟩
  ·by_cases hj:j<ws.length
   ·rw[nM hj]at h1
    exact s2 _ _ (f j t' p' h1 h3)
   ·have n6:j=ws.length:=by
     have:=(iw.mp h1).1
     rw[bW]at this
     simp at this
     omega
    subst n6
    rw[nN (br _)]at h1
    simp at h1
    subst h1
    rw[e,n5]at h3
    cases h3
    exact h2
 ·rintro aE D σ' H' hD sm hA ⟨ws,rfl,e,nd,fu,f⟩
  rw[aC]at e
  exact q D ws H' sm hD nd (fun z=>(fu D z).2.1 rfl) (fun u hu=>(fu u hu).1) ⟨hA,by omega,f⟩
noncomputable def dQ(H:Hp):List aa->List (List Int)->Prop
 | [],[]=>True
 |t::ts,g::gs=>H t=some (.lst (g.map V.int))/\dQ H ts gs
 |_,_=>False
theorem dQ.mono{H H':Hp}:∀ {ts:List aa} {gs:List (List Int)},dQ H ts gs->(∀(t:aa) (g:List Int),t∈ts->H t=some (.lst (g.map V.int))->H' t=some (.lst (g.map V.int)))->dQ H' ts gs
 | [],[],_,_=>trivial
 |t::ts,g::gs,⟨h1,h2⟩,h=>⟨h t g (by simp) h1,h2.mono fun u w hu=>h u w (by simp[hu])⟩
 | [],_::_,h,_=>h.elim
 |_::_,[],h,_=>h.elim
theorem dQ.same{H H':Hp}{ts:List aa}{gs:List (List Int)}(h:dQ H ts gs)(s:ak H H'):dQ H' ts gs:=h.mono fun t g _ e=>s _ _ e
theorem dQ.upd{H:Hp}{a:aa}{o:HO}{ts:List aa}{gs:List (List Int)}(h:dQ H ts gs)(n:a∉ts):dQ (L2.upd H a o) ts gs:=h.mono fun t g ht e=>by
 rw[aA (show t≠a from fun z=>n (by rw[<- z];exact ht))]
 exact e
theorem dQ.len{H:Hp}:∀ {ts:List aa} {gs:List (List Int)},dQ H ts gs->ts.length=gs.length
 | [],[],_=>rfl
 |_::_,_::_,⟨_,h2⟩=>congrArg (· + 1) h2.len
 | [],_::_,h=>h.elim
 |_::_,[],h=>h.elim
theorem dQ.get{H:Hp}:∀ {ts:List aa} {gs:List (List Int)} {j:Nat} {t:aa},dQ H ts gs->ts[j]?=some t->∃g,gs[j]?=some g/\H t=some (.lst (g.map V.int))
 | [],[],j,t,_,h=>by simp at h
 |_::_,g::_,0,t,⟨h1,_⟩,h=>by
  cases(cY h:_=t)
  exact⟨g,rfl,h1⟩
 |_::ts,_::rs,j+1,t,⟨_,h2⟩,h=>h2.get (ts:=ts) (gs:=rs) (j:=j) h
 | [],_::_,_,_,h,_=>h.elim
 |_::_,[],_,_,h,_=>h.elim
theorem dQ.at{H:Hp}{ts:List aa}{gs:List (List Int)}(h:dQ H ts gs){j:Nat}{t:aa}{g:List Int}(h1:ts[j]?=some t)(h2:gs[j]?=some g):H t=some (.lst (g.map V.int)):=by
 obtain⟨g',e1,e2⟩:=h.get h1
 rw[h2]at e1
 cases e1
 exact e2
theorem dQ.lZ{H:Hp}{a:aa}{ts:List aa}{gs:List (List Int)}(h:dQ H ts gs)(ha:H a=some (.lst (ts.map V.ref))):xy H a ts gs:=⟨ha,h.len,fun _ _ _ h1 h2=>h.at h1 h2⟩
theorem KE{H:Hp}:∀ {ts:List aa} {gs:List (List Int)},ts.length=gs.length->(∀(j:Nat) (t:aa) (g:List Int),ts[j]?=some t->gs[j]?=some g->H t=some (.lst (g.map V.int)))->dQ H ts gs
 | [],[],_,_=>trivial
 |t::ts,g::gs,hl,h=>⟨h 0 t g rfl rfl,KE (by simpa using hl) fun j t' g' h1 h2=>h (j+1) t' g' h1 h2⟩
 | [],_::_,hl,_=>by cases hl
 |_::_,[],hl,_=>by cases hl
theorem dQ.snoc{H:Hp}{t:aa}{g:List Int}(ht:H t=some (.lst (g.map V.int))):∀ {ts:List aa} {gs:List (List Int)},dQ H ts gs->dQ H (ts++[t]) (gs++[g])
 | [],[],_=>⟨ht,trivial⟩
 |_::_,_::_,⟨h1,h2⟩=>⟨h1,h2.snoc ht⟩
 | [],_::_,h=>h.elim
 |_::_,[],h=>h.elim
theorem dQ.erase{H:Hp}:∀ {ts:List aa} {gs:List (List Int)} (j:Nat),dQ H ts gs->dQ H (ts.eraseIdx j) (gs.eraseIdx j)
 | [],[],j,_=>(trivial:dQ H [] [])
 |_::_,_::_,0,⟨_,h2⟩=>h2
 |_::ts,_::gs,j+1,⟨h1,h2⟩=>by
  rw[Iv,Iv]
  exact⟨h1,h2.erase j⟩
 | [],_::_,_,h=>h.elim
 |_::_,[],_,h=>h.elim
theorem dQ.put{H:Hp}{t:aa}{g:List Int}(ht:H t=some (.lst (g.map V.int))):∀ {ts:List aa} {gs:List (List Int)} (j:Nat),dQ H ts gs->dQ H (ts.set j t) (gs.set j g)
 | [],[],j,_=>trivial
 |_::_,_::_,0,⟨_,h2⟩=>⟨ht,h2⟩
 |_::ts,_::gs,j+1,⟨h1,h2⟩=>⟨h1,h2.put ht j⟩
 | [],_::_,_,h=>h.elim
 |_::_,[],_,h=>h.elim
noncomputable def gl(g:List Int):PyData:=.list (g.map iH)
theorem afh{H:Hp}:∀ {ts:List aa} {gs:List (List Int)},dQ H ts gs->lC K H (gs.map gl) (ts.map V.ref)
 | [],[],_=>by simp[lC]
 |t::ts,g::gs,⟨h1,h2⟩=>by
  rw[dM,dM]
  unfold lC
  exact⟨_,_,rfl,ju (.of h1),afh h2⟩
 | [],_::_,h=>h.elim
 |_::_,[],h=>h.elim
theorem Tv{H:Hp}{a:aa}{ts:List aa}{gs:List (List Int)}(h:dQ H ts gs)(ha:H a=some (.lst (ts.map V.ref))):gS K H (.list (gs.map gl)) (.ref a):=by
 unfold gS
 exact⟨a,_,rfl,.of ha,afh h⟩
theorem aix:∀gs:List (List Int),uz (gs.map gl)=true/\uA (gs.map gl)<=1
 | []=>by simp[uz,uA]
 |g::gs=>by
  obtain⟨h1,h2⟩:=aix gs
  obtain⟨k1,k2⟩:=YS g
  rw[dM]
  have c:(gl g).canLay0=true:=by unfold gl Dv;exact k1
  have d:(gl g).depth<=1:=by unfold gl Dw;omega
  unfold uz uA
  rw[c]
  exact⟨by simp[h1],by omega⟩
theorem MU(gs:List (List Int)):xH (.list (gs.map gl))=true:=by
 obtain⟨h1,h2⟩:=aix gs
 have c:(Ol (gs.map gl)).canLay0=true:=by unfold Dv;exact h1
 have d:(Ol (gs.map gl)).depth<=64:=by unfold Dw;omega
 simp[xH,c,d]
theorem agt{B:Nat}:∀ {gs:List (List Int)},(∀g∈gs,g.length<=B)->gs.flatten.length<=gs.length*B
 | [],_=>by simp
 |g::gs,h=>by
  have h1:=h g (by simp)
  have h2:=agt (gs:=gs) fun w hw=>h w (by simp[hw])
  rw[jG,bW,gF,IK]
  omega
structure rD(H H':Hp)(a:aa)(us:List aa)(gs:List (List Int))(n B:Nat):Prop where
 sm:ak H H'
 ls:H' a=some (.lst (us.map V.ref))
 el:dQ H' us gs
 vn:a∉us
 few:gs.length<=n
 sz:∀g∈gs,g.length<=B
theorem rD.same{H H1 H2:Hp}{a:aa}{us:List aa}{gs:List (List Int)}{n B:Nat}(h:rD H H1 a us gs n B)(s:ak H1 H2):rD H H2 a us gs n B:=⟨h.sm.trans s,s _ _ h.ls,h.el.same s,h.vn,h.few,h.sz⟩
theorem rD.more{H H1:Hp}{a:aa}{us:List aa}{gs:List (List Int)}{n B n' B':Nat}(h:rD H H1 a us gs n B)(h1:n<=n')(h2:B<=B'):rD H H1 a us gs n' B':=⟨h.sm,h.ls,h.el,h.vn,fP h.few h1,fun g hg=>fP (h.sz g hg) h2⟩
noncomputable def aw2:Sp:=fun vs H Q _=>∃(h:aa) (ns:List Int) (c:Int),vs=[.ref h,.int c]/\H h=some (.lst (ns.map V.int))/\ns.length<=63/\(∀n∈ns,0<=n/\n<=999)/\∀H',ak H H'->Q (.bl true) H'
theorem wX:bU ["_law_heap_here","_law_cell","_law_size","_law_groups","_law_way","_law_at","_law_handed","_law_answer","_law_group","_law_number"] ["_law_heap_here","_law_cell"] (az qF):=⟨rfl,rfl,rfl,by decide +kernel,rfl,by decide +kernel,by decide +kernel⟩
theorem ato(T:Txt K mg Z):bD P w K mg base bK 7 Z.T7 Z.Ss ["_law_heap_here","_law_cell"] aw2:=by
 have jU:=FW (P:=P) (w:=w) (base:=base) T
 have al8:=atC (P:=P) (w:=w) (base:=base) T
 have xw:=Ml (P:=P) (w:=w) (base:=base) T
 have C2:=ZD (P:=P) (w:=w) (base:=base) T
 have Ny:=aiT (P:=P) (w:=w) (base:=base) T
 have alV:=atn (P:=P) (w:=w) (base:=base) T
 have jE:=FY (P:=P) (w:=w) (base:=base) T
 refine T.DG.fn.ok wX (fun vs H Q E h=>?_) (fun bg A outer s H vs Q E hr h=>?_)
 ·obtain⟨h,ns,c,rfl,_⟩:=h
  rfl
 ·obtain⟨h,ns,c,rfl,hh,hl,hb,k⟩:=h
  have iM:=hr.units
  refine⟨_,(aH (bR (i:=2) wX.nd rfl (aT rfl) (bM g9 aD (aP jU (hr.mono (by decide)) rfl T.dH.mg T.dH.fn.kp T.dH.bd .nil aG (aj (pv 1) (aj aD (aj aD aq))))))
   (aH (Z4 (i:=3) (N:=["_law_group"]) (cap:=[none]) rfl wX.nd rfl (aT rfl) (iA (XN:=["_law_heap_here","_law_cell","_law_size","_law_groups","_law_way","_law_at","_law_handed","_law_answer","_law_group","_law_number"]) (xs:=(az qF).names) rfl rfl (by decide +kernel)) (gf (eK (aP al8 (hr.mono (by decide)) rfl T.grouped.mg T.grouped.fn.kp T.grouped.bd .nil aG (aj (pv 0) (aj (pv 2) aq))) rfl)) (fun _ _ _=>(cK (i:=0) (show(["_law_group"]:List Str).Nodup by decide +kernel) rfl (aT rfl) (eF rfl))) (fun _ _ _=>jO) (fun _ _ _=>(kj (ad8 (K:=K) rfl) rfl T.gU iJ (aj (pv 0) aq))))
   (aH (bR (i:=4) wX.nd rfl (aT rfl) (aP jU (hr.mono (by decide)) rfl T.dH.mg T.dH.fn.kp T.dH.bd .nil aG (aj (pv 1) (aj aD (aj aD aq)))))
   (aH (bY (cG (qx iM) (pv 3) (dD aq) (bI _)) (aH (bR (i:=5) wX.nd rfl (aT rfl) (aP jU (hr.mono (by decide)) rfl T.dH.mg T.dH.fn.kp T.dH.bd .nil aG (aj (pv 1) (aj aD (aj (bB dI rfl T.cW dh (aj (pv 3) aq)) aq)))))
   (aH (bY (cG gv (pv 4) aD (bI _)) (aJ (fX (ie gT aco acr aiP (pv 3) (aj (pv 5) aq)))) b8)
   (aH (bY (cG gv (pv 4) aD (bI _)) (aJ (Ge (aP xw (hr.mono (by decide)) rfl T.kG.mg T.kG.fn.kp T.kG.bd .nil aG (aj (cX eZ (pv 3) (pv 5) (fun _ _=>rfl)) (aj (bM Cp (pv 1) aD) aq))) (Gb (pv 3) (pv 5) Hr))) b8)
   (aJ (bY (cG gv (pv 4) aD (bI _)) (aJ (fX (ie gT pZ PySem.F.type_list_append oA (pv 3) (aj (kj o7 rfl T.gU iJ (aj (cX eZ (pv 3) (pv 5) (fun _ _=>rfl)) aq)) aq)))) b8))))) b8)
   (aH (Z4 (i:=6) (N:=["_law_group"]) (cap:=[none]) rfl wX.nd rfl (aT rfl) (iA (XN:=["_law_heap_here","_law_cell","_law_size","_law_groups","_law_way","_law_at","_law_handed","_law_answer","_law_group","_law_number"]) (xs:=(az qF).names) rfl rfl (by decide +kernel)) (gf (pv 3)) (fun _ _ _=>(cK (i:=0) (show(["_law_group"]:List Str).Nodup by decide +kernel) rfl (aT rfl) (eF rfl))) (fun _ _ _=>jO) (fun _ _ _=>(kj (ad8 (K:=K) rfl) rfl T.gU iJ (aj (pv 0) aq))))
   (aH (bR (i:=7) wX.nd rfl (aT rfl) (iO T.Lr C2 (hr.mono (by decide)) rfl T.L3 T.C5.bd .nil aG (aj (pv 6) aq)))
   (aH (iF iy rfl (gf (pv 6)) (cK (i:=8) wX.nd rfl (aT rfl)) (aJ (fX (ie gT pZ PySem.F.type_list_append oA (pv 8) (aj aD aq)))))
   (aH (fX (ie gT pZ PySem.F.type_list_append oA (pv 6) (aj (dD aq) aq)))
   (aH (bY (cG (qx iM) (eK (pv 7) rfl) (pv 3) (bI _)) (aJ (aY cP)) b8)
   (aH (iF iy rfl (ZU (i6 (aj (pv 2) (aj (bM g9 (pv 2) aD) aq)))) (cK (i:=9) wX.nd rfl (aT rfl)) (aJ (bY (eT (dm (aP jE (hr.mono (by decide)) rfl T.cZ.mg T.cZ.fn.kp T.cZ.bd .nil aG (aj (kT (pv 7) T.vf T.U9 Ny (hr.mono (by decide)) T.Ic.bd .nil aG (aj (pv 0) (aj (pv 9) aq))) (aj (aP alV (hr.mono (by decide)) rfl T.DF.mg T.DF.fn.kp T.DF.bd .nil aG (aj (pv 0) (aj (pv 3) (aj (pv 9) aq)))) aq))))) (aJ (aY cP)) b8)))
   (aJ (aY cP)))))))))))),?_⟩
  refine⟨_,rfl,_,_,_,rfl,by decide,fun lu H1 z0 z1 s1=>⟨_,_,rfl,rfl,?_⟩⟩
  refine d9 ?_
  refine⟨_,rfl,_,rfl,h,ns,1+lu,rfl,s1 h _ hh,hl,hb,⟨by omega,by omega⟩,fun p0 b0 us0 kL H2 r2 Lj EB hu0 GD GG=>?_⟩
  obtain⟨⟨dx,ho⟩,lZ⟩:=id GD
  refine⟨p0,_,dx,_,_,rfl,ho,T.vf,T.Am,FF _,b0,rfl,⟨_,.of lZ.1⟩,?_⟩
  obtain⟨ag1,aoM⟩:=agu kL GG.un
  have aoN:=aok GG.lie
  have EJ:kL.length<=63:=by
   have:(kL.length:Int)*1<=(kL.length:Int)*(1+lu):=abD (by omega) (by omega)
   omega
  have uT:∀g∈kL,g.length<=4:=fun g hg=>by have:=(Wt (kD.mp GG.un g hg)).1;omega
  refine aiD ⟨lZ.1,lZ.2.1,lZ.2.2.2.2⟩ (by omega) fun gl us H3 r3 aoP nd vn apU G3=>?_
  have s2:=s1.trans r2
  have VB:H gl=none:=s2.free aoP
  have eU:rD H H3 gl us kL 63 4:=⟨s2.trans r3,G3.1,KE G3.2.1 G3.2.2,vn,EJ,uT⟩
  clear G3 GD GG lZ ho ag1 aoM aoN
  refine d9 ?_
  refine⟨_,rfl,_,_,_,rfl,by decide,fun wy H4 w0 w1 r4=>?_⟩
  refine d9 ?_
  have cu:=eU.same r4
  clear eU
  refine gR (fun σ' H'=>∃(v5:Option V) (us:List aa) (gs:List (List Int)),σ'=[some (.ref h),some (.int c),some (.int (1+lu)),some (.ref gl),some (.int wy),v5,none,none,none,none]/\rD H H' gl us gs 64 5) (fun k2 bA=>?_) (fun σ' H5 hj=>?_)
  ·refine⟨_,rfl,by show 0<=aX;decide,fun e he=>?_⟩
   have r5:ak H4 (upd H4 e (.lst [])):=(ak.refl H4).upd he
   have d2:gS K (upd H4 e (.lst [])) (.list []) (.ref e):=ju (ns:=[]) (.of au)
   generalize upd H4 e (.lst [])=H5 at r5 d2
   have cU:=cu.same r5
   refine⟨_,_,Tv cU.el cU.ls,d2,MU kL,shaped_ints [],_,rfl,?_⟩
   show if(!jI (.list (kL.map K7.gl)) (.list []))=true then _ else _
   rw[TN]
   by_cases hz:kL=[]
   ·have e0:(!(kL.map K7.gl).isEmpty)=false:=by rw[hz];rfl
    rw[e0]
    exact bH (bA _ _ ⟨_,us,kL,rfl,cU.more (by omega) (by omega)⟩)
   have e0:(!(kL.map K7.gl).isEmpty)=true:=by
    cases kL with
    |nil=>exact absurd rfl hz
    |cons _ _=>rfl
   rw[e0]
   have BO:0<kL.length:=amK.mpr hz
   have hul:=cU.el.len
   refine cJ ?_
   refine⟨_,rfl,_,rfl,gl,_,rfl,.inl (.of cU.ls),_,_,_,rfl,by rw[aC];omega,fun cA H6 a0 a1 r6=>?_⟩
   rw[aC]at a1
   have ez:=cU.same r6
   clear cU
   have haj:cA.toNat<us.length:=by omega
   refine d9 ?_
   refine gR (fun σ' H'=>∃(AE:List aa) (gs:List (List Int)),σ'=[some (.ref h),some (.int c),some (.int (1+lu)),some (.ref gl),some (.int wy),some (.int cA),none,none,none,none]/\rD H H' gl AE gs 63 4/\(wy≠1->AE=us/\gs=kL)) (fun k3 fC=>?_) (fun σ' H7 hj=>?_)
   ·refine⟨_,rfl,rfl,_,rfl,dj (fun hc=>?_) (fun hc=>fC _ _ ⟨us,kL,rfl,ez,fun _=>⟨rfl,rfl⟩⟩)⟩
    refine⟨_,rfl,ir ez.ls,_,rfl,gl,_,_,cA.toNat,.ref us[cA.toNat],rfl,rfl,ez.ls,by omega,by omega,?_,?_,?_⟩
    ·rw[aC];exact ane a0 (by omega)
    ·rw[dG,bZ haj];rfl
    refine fC _ _ ⟨us.eraseIdx cA.toNat,kL.eraseIdx cA.toNat,rfl,⟨ez.sm.upd VB,by rw[au,TQ],(ez.el.erase _).upd fun z=>ez.vn (abW z),fun z=>ez.vn (abW z),fP (List.length_eraseIdx_le _ _) EJ,fun g hg=>uT g (abW hg)⟩,fun z=>absurd (V.int.inj (of_decide_eq_true hc)) z⟩
   obtain⟨tY,gs1,rfl,gg,E1⟩:=hj
   refine gR (fun σ' H'=>∃(AE:List aa) (gs:List (List Int)),σ'=[some (.ref h),some (.int c),some (.int (1+lu)),some (.ref gl),some (.int wy),some (.int cA),none,none,none,none]/\rD H H' gl AE gs 63 5/\(wy≠1->AE.length=us.length)) (fun k3 fC=>?_) (fun σ' H8 hj=>?_)
   ·refine⟨_,rfl,rfl,_,rfl,dj (fun hc=>?_) (fun hc=>fC _ _ ⟨tY,gs1,rfl,gg.more (by omega) (by omega),fun z=>by rw[(E1 z).1]⟩)⟩
    have hw:wy=2:=V.int.inj (of_decide_eq_true hc)
    obtain⟨e1,e2⟩:=E1 (by omega)
    subst e1 e2
    have ht:tY[cA.toNat]?=some tY[cA.toNat]:=bZ haj
    obtain⟨g,hg,V6⟩:=gg.el.get ht
    have yj:=eB hg
    have eG:j0 (tY.map V.ref) cA=some (.ref tY[cA.toNat]):=by
     have q1:(tY.map V.ref)[cA.toNat]?=some (.ref tY[cA.toNat]):=by rw[dG,ht];rfl
     have q2:=iV q1
     rw[C9 a0]at q2
     exact q2
    refine⟨_,rfl,_,rfl,gl,_,_,_,rfl,rfl,.of gg.ls,eG,_,rfl,_,_,rfl,rfl,⟨by decide,by decide⟩,tY[cA.toNat],g,_,rfl,V6,by have:=uT g yj;omega,fun nl ms H8 r8 apr m7 hms=>?_⟩
    have gh:=gg.same r8
    refine⟨_,rfl,_,rfl,gl,_,_,_,rfl,rfl,gh.ls,Fe a0 (by rw[aC];omega),?_⟩
    have Zy:gl≠nl:=bf gg.ls apr
    have FP:gl∉tY.set cA.toNat nl:=fun z=>by
     rcases amN z with z | z
     ·exact gh.vn z
     ·exact Zy z
    refine fC _ _ ⟨tY.set cA.toNat nl,gs1.set cA.toNat ms,rfl,⟨gh.sm.upd VB,by rw[au,List.map_set],(gh.el.put m7 _).upd FP,FP,by rw[uo];exact EJ,fun w hw=>?_⟩,fun _=>by rw[uo]⟩
    rcases amN hw with z | z
    ·have:=uT w z;omega
    ·rw[z];have:=uT g yj;omega
   obtain⟨qR,gs2,rfl,gh,apd⟩:=hj
   clear gg E1
   refine⟨_,rfl,rfl,_,rfl,dj (fun hc=>?_) (fun hc=>bA _ _ ⟨_,qR,gs2,rfl,gh.more (by omega) (by omega)⟩)⟩
   have hw:wy=3:=V.int.inj (of_decide_eq_true hc)
   have cE:=apd (by omega)
   have aoB:cA.toNat<qR.length:=by omega
   have ht:qR[cA.toNat]?=some qR[cA.toNat]:=bZ aoB
   obtain⟨g,hg,V6⟩:=gh.el.get ht
   have yj:=eB hg
   have eG:j0 (qR.map V.ref) cA=some (.ref qR[cA.toNat]):=by
    have q1:(qR.map V.ref)[cA.toNat]?=some (.ref qR[cA.toNat]):=by rw[dG,ht];rfl
    have q2:=iV q1
    rw[C9 a0]at q2
    exact q2
   refine⟨_,rfl,ir gh.ls,_,rfl,_,rfl,gl,_,_,_,rfl,rfl,.of gh.ls,eG,qR[cA.toNat],_,rfl,.inl (.of V6),fun nl m7=>?_⟩
   have r9:ak H8 (upd H8 nl (.lst (g.map V.int))):=(ak.refl H8).upd m7
   have ahb:(upd H8 nl (.lst (g.map V.int))) nl=some (.lst (g.map V.int)):=au
   have Zy:gl≠nl:=bf gh.ls m7
   generalize upd H8 nl (.lst (g.map V.int))=H9 at r9 ahb
   have yR:=gh.same r9
   have hf9:=yR.few
   refine⟨gl,_,_,rfl,rfl,yR.ls,by rw[aC,yR.el.len];exact pQ (by omega),?_⟩
   have FP:gl∉qR++[nl]:=fun z=>by
    rcases lQ.mp z with z | z
    ·exact yR.vn z
    ·exact Zy (gb.mp z)
   refine bA _ _ ⟨_,qR++[nl],gs2++[g],rfl,yR.sm.upd VB,by rw[au,fD];rfl,(yR.el.snoc ahb).upd FP,FP,by rw[bW];simp;omega,fun w hw=>?_⟩
   rcases lQ.mp hw with z | z
   ·exact yR.sz w z
   ·rw[gb.mp z];exact yR.sz g yj
  obtain⟨v5,us,gs,rfl,cU⟩:=hj
  clear cu nd vn apU EJ uT
  have uS:=cU.few
  have EZ:=cU.sz
  have pD:gs.flatten.length<=320:=by
   have:=agt EZ
   omega
  -- handed in
  refine⟨_,rfl,gl,rfl,⟨_,.of cU.ls⟩,?_⟩
  refine aiD (cU.el.lZ cU.ls) (by omega) fun hd hs H6 r6 uW BJ aha BR G6=>?_
  have ez:=cU.same r6
  have aoR:H hd=none:=cU.sm.free uW
  have hsH:∀w∈hs,H w=none:=fun w hw=>cU.sm.free (BR w hw)
  have el6:dQ H6 hs gs:=KE G6.2.1 G6.2.2
  have aq3:gl∉hs:=fun z=>by have:=BR gl z;rw[cU.ls]at this;cases this
  have aq2:gl≠hd:=bf cU.ls uW
  have nus:∀u∈us,u∉hs/\u≠hd:=fun u hu=>by
   obtain⟨j,hj,e⟩:=IA hu
   obtain⟨g,_,hg⟩:=cU.el.get (show us[j]?=some u by rw[bZ hj,e])
   exact⟨(fun z=>by have:=BR u z;rw[hg]at this;cases this),bf hg uW⟩
  refine d9 ?_
  refine⟨_,rfl,?_⟩
  intro x uN hx dW yI
  refine⟨x,uN,hd,hs,gs,rfl,au,iD hx dW G6.1,G6.2.1,fun j t g h1 h2=>iD hx dW (G6.2.2 j t g h1 h2),by omega,fun g hg=>by have:=EZ g hg;omega,fun bb ub H7 se By hub HY=>⟨rfl,?_⟩⟩
  have r7:ak H6 H7:=iN (ak.refl _) hx dW se
  have Br:H6 bb=none:=nk (ak.refl _) By
  have fub:∀u∈ub,H6 u=none:=fun u hu=>nk (ak.refl _) (hub u hu)
  refine d9 ?_
  have Vn:=r7 hd _ G6.1
  refine⟨_,rfl,hd,rfl,⟨_,.of Vn⟩,nX (K:=K) (a:=hd) (xs:=hs.map V.ref) (fun i σ H8=>(∃v8:Option V,σ=[some (.ref h),some (.int c),some (.int (1+lu)),some (.ref gl),some (.int wy),v5,some (.ref hd),some (.ref x),v8,none])/\(∀a o,H7 a=some o->a∉hs->H8 a=some o)/\∀(j:Nat) (t:aa) (g:List Int),i<=j->hs[j]?=some t->gs[j]?=some g->H8 t=some (.lst (g.map V.int)))
   ⟨⟨_,rfl⟩,(fun a o e _=>e),fun j t g _ h1 h2=>r7 _ _ (G6.2.2 j t g h1 h2)⟩ (fun i σ H8 _ hP=>.of (hP.2.1 hd _ Vn aha)) ?_ ?_⟩
  ·rintro i y σ H8 hy ⟨⟨v8,rfl⟩,kp,ahh⟩
   obtain⟨t,ht,rfl⟩:=oJ hy
   obtain⟨g,hg⟩:=nY G6.2.1 ht
   have qh:=ahh i t g (br _) ht hg
   have hgz:=EZ g (eB hg)
   refine⟨_,rfl,ir qh,t,_,_,rfl,rfl,qh,by rw[aC];exact pQ (by omega),?_⟩
   refine⟨⟨_,rfl⟩,fun a o e n=>?_,fun j t2 g2 hj h1 h2=>?_⟩
   ·rw[aA (show a≠t from fun z=>n (by rw[z];exact eB ht))]
    exact kp a o e n
   ·have nt:t2≠t:=fun z=>by
     subst z
     obtain⟨b1,c1⟩:=iw.mp h1
     obtain⟨b2,c2⟩:=iw.mp ht
     have:=(abM BJ).mp (c1.trans c2.symm)
     omega
    rw[aA nt]
    exact ahh j t2 g2 (by omega) h1 h2
  rintro σ H8 ⟨⟨v8,rfl⟩,kp,_⟩
  have s7:=ez.sm.trans r7
  have s8:ak H H8:=fun a o e=>kp a o (s7 a o e) fun z=>by rw[hsH a z]at e;cases e
  have Vo:=kp hd _ Vn aha
  have gl8:=kp gl _ (r7 gl _ ez.ls) aq3
  have el8:dQ H8 us gs:=(ez.el.same r7).mono fun t g ht e=>kp t _ e (nus t ht).1
  obtain⟨⟨x8,uZ⟩,Bt⟩:=id HY
  have nx:x∉hs:=fun z=>by
   obtain⟨j,hj,e⟩:=IA z
   obtain⟨g,_,hg⟩:=el6.get (show hs[j]?=some x by rw[bZ hj,e])
   rw[hg]at hx
   cases hx
  have ahn:∀a,H6 a=none->a∉hs:=fun a ha z=>by
   obtain⟨j,hj,e⟩:=IA z
   obtain⟨g,_,hg⟩:=el6.get (show hs[j]?=some a by rw[bZ hj,e])
   rw[hg]at ha
   cases ha
  have ho8:=kp x _ uZ nx
  have bb8:=kp bb _ Bt.1 (ahn bb Br)
  have ub8:dQ H8 ub gs:=(KE Bt.2.1 Bt.2.2.2.2).mono fun t g ht e=>kp t _ e (ahn t (fub t ht))
  have aqY:bb≠hd:=fun z=>by rw[z,G6.1]at Br;cases Br
  have aq9:hd∉ub:=fun z=>by have:=fub hd z;rw[G6.1]at this;cases this
  refine d9 ?_
  refine⟨_,rfl,ir Vo,by show 0<=aX;decide,fun e he=>?_⟩
  have r9:ak H8 (upd H8 e (.lst [])):=(ak.refl H8).upd he
  generalize upd H8 e (.lst [])=H9 at r9
  refine⟨hd,_,_,rfl,rfl,r9 hd _ Vo,by rw[aC,G6.2.1];exact pQ (by omega),?_⟩
  have ig:ak H (upd H9 hd (.lst (hs.map V.ref++[.ref e]))):=(s8.trans r9).upd aoR
  have UY:(upd H9 hd (.lst (hs.map V.ref++[.ref e]))) gl=some (.lst (us.map V.ref)):=by rw[aA aq2];exact r9 gl _ gl8
  have TL:dQ (upd H9 hd (.lst (hs.map V.ref++[.ref e]))) us gs:=(el8.same r9).upd fun z=>(nus hd z).2 rfl
  have K3:(upd H9 hd (.lst (hs.map V.ref++[.ref e]))) x=some (.ins Z.gW x8 [("groups",.ref bb)]):=by rw[aA (kh ho8 Vo (fun z=>by cases z))];exact r9 x _ ho8
  have O9:(upd H9 hd (.lst (hs.map V.ref++[.ref e]))) bb=some (.lst (ub.map V.ref)):=by rw[aA aqY];exact r9 bb _ bb8
  have aaO:dQ (upd H9 hd (.lst (hs.map V.ref++[.ref e]))) ub gs:=(ub8.same r9).upd aq9
  generalize upd H9 hd (.lst (hs.map V.ref++[.ref e]))=fh at ig UY TL K3 O9 aaO
  refine d9 ?_
  refine⟨_,rfl,x,_,x8,_,_,rfl,K3,T.vf,T.Am,FF _,_,rfl,_,_,Tv aaO O9,Tv TL UY,MU gs,MU gs,_,rfl,?_⟩
  show if(!jI (.list (gs.map K7.gl)) (.list (gs.map K7.gl)))=true then _ else _
  rw[CH (MU gs)]
  refine bH (Aq ?_)
  have alP:zb Z.gW fh x bb ub gs:=⟨⟨x8,K3⟩,O9,Bt.2.1,Bt.2.2.1,Bt.2.2.2.1,fun j t g h1 h2=>aaO.at h1 h2⟩
  refine⟨_,rfl,_,rfl,_,_,rfl,rfl,by show 2<=aX;decide,fun tz htz=>?_⟩
  have kq:ak fh (upd fh tz (.tup ([1+lu,1+lu+1].map V.int))):=(ak.refl fh).upd htz
  have ahl:(upd fh tz (.tup ([1+lu,1+lu+1].map V.int))) tz=some (.tup ([1+lu,1+lu+1].map V.int)):=au
  refine⟨tz,rfl,⟨_,.of ahl⟩,agA (K:=K) (a:=tz) (xs:=[1+lu,1+lu+1].map V.int) (fun i σ H2=>(∃v9:Option V,σ=[some (.ref h),some (.int c),some (.int (1+lu)),some (.ref gl),some (.int wy),v5,some (.ref hd),some (.ref x),v8,v9])/\ak (upd fh tz (.tup ([1+lu,1+lu+1].map V.int))) H2)
   ⟨⟨_,rfl⟩,ak.refl _⟩ (fun i σ H2 _ ⟨_,r⟩=>.of (r tz _ ahl)) ?_ (fun σ H2 ⟨_,r⟩=>k H2 (ig.trans (kq.trans r)))⟩
  rintro i y σ xz hy ⟨⟨v9,rfl⟩,kU⟩
  obtain⟨n,hn,rfl⟩:=j7 hy
  have yq:1<=n/\n<=10:=by
   have hm:=eB hn
   simp only[dY,zm,or_false]at hm
   omega
  have Mz:=kq.trans kU
  have mK:=ig.trans Mz
  refine⟨_,rfl,x,x8,_,rfl,Mz x _ K3,aiJ _ (by decide +kernel),_,rfl,_,rfl,x,bb,h,ub,gs,ns,n,rfl,alP.same Mz,by omega,fun g hg=>(by have:=EZ g hg;omega),by omega,mK h _ hh,by omega,fun kC i9=>?_⟩
  have akk:=Mz.trans i9
  refine⟨_,rfl,_,rfl,_,rfl,h,gl,us,ns,gs,n,rfl,(ig.trans akk) h _ hh,hl,(TL.lZ UY).same akk,by omega,fun g hg=>(by have:=EZ g hg;omega),by omega,⟨by omega,by omega⟩,fun xA lJ=>?_⟩
  refine⟨_,_,rfl,?_⟩
  rw[rP]
  exact⟨_,rfl,bH ⟨⟨_,rfl⟩,kU.trans (i9.trans lJ)⟩⟩
noncomputable def FT(H:Hp)(t:aa)(gs:List (List Int))(d:Bool):Prop:=∃b us,H t=some (.tup [.ref b,.bl d])/\xy H b us gs
theorem FT.same{H H':Hp}{t:aa}{gs:List (List Int)}{d:Bool}(h:FT H t gs d)(s:ak H H'):FT H' t gs d:=by
 obtain⟨b,us,h1,h2⟩:=h
 exact⟨b,us,s _ _ h1,h2.same s⟩
noncomputable def FK(H:Hp)(t:aa)(ks:List Int)(d:Bool):Prop:=∃b,H t=some (.tup [.ref b,.bl d])/\H b=some (.lst (ks.map V.int))
theorem FK.same{H H':Hp}{t:aa}{ks:List Int}{d:Bool}(h:FK H t ks d)(s:ak H H'):FK H' t ks d:=by
 obtain⟨b,h1,h2⟩:=h
 exact⟨b,s _ _ h1,s _ _ h2⟩
noncomputable def awZ:Sp:=fun vs H Q _=>vs=[]/\∀H',ak H H'->Q (.bl true) H'
theorem Hj:bU ["_law_groups","_law_due","_law_kinds"] [] (az vW):=⟨rfl,rfl,rfl,by decide +kernel,rfl,by decide +kernel,by decide +kernel⟩
theorem atl(T:Txt K mg Z):bD P w K mg base bK 6 Z.TY Z.Sm [] awZ:=by
 have C2:=ZD (P:=P) (w:=w) (base:=base) T
 have Ny:=aiT (P:=P) (w:=w) (base:=base) T
 have jE:=FY (P:=P) (w:=w) (base:=base) T
 have AQ:=ZF (P:=P) (w:=w) (base:=base) T
 have HZ:=aiY (P:=P) (w:=w) (base:=base) T
 have xu:=ZE (P:=P) (w:=w) (base:=base) T
 have AO:=aiX (P:=P) (w:=w) (base:=base) T
 have ue:=Mj (P:=P) (w:=w) (base:=base) T
 have Nz:=aiU (P:=P) (w:=w) (base:=base) T
 refine T.DC.fn.ok Hj (fun vs H Q E h=>?_) (fun bg A outer s H vs Q E hr h=>?_)
 ·obtain⟨rfl,_⟩:=h
  rfl
 ·obtain⟨rfl,k⟩:=h
  have iM:=hr.units
  refine⟨_,(aH (iF iy rfl (gf (dD (aj (i6 (aj (dD (aj (dD (aj aD (aj aD aq))) aq)) (aj cP aq))) (aj (i6 (aj (dD (aj (dD (aj aD (aj aD aq))) aq)) (aj cP aq))) (aj (i6 (aj (dD aq) (aj cP aq))) (aj (i6 (aj (dD (aj (dD (aj aD (aj aD aq))) aq)) (aj cP aq))) (aj (i6 (aj (dD (aj (dD (aj aD (aj aD aq))) (aj (dD (aj aD (aj aD aq))) aq))) (aj cP aq))) aq))))))) (yN (n:=2) rfl (i8 (cK (i:=0) Hj.nd rfl (aT rfl)) (i8 (cK (i:=1) Hj.nd rfl (aT rfl)) qy))) (aJ (bY (eT (dm (aP jE (hr.mono (by decide)) rfl T.cZ.mg T.cZ.fn.kp T.cZ.bd .nil aG (aj (kT (iO T.Lr C2 (hr.mono (by decide)) rfl T.L3 T.C5.bd .nil aG (aj (pv 0) aq)) T.vf T.U9 Ny (hr.mono (by decide)) T.Ic.bd .nil aG (aj (dD (aj aD (aj aD (aj aD aq)))) (aj aD aq))) (aj (pv 1) aq))))) (aJ (aY cP)) b8)))
   (aH (iF iy rfl (gf (dD (aj (i6 (aj (dD (aj aD (aj aD (aj aD aq)))) (aj cP aq))) (aj (i6 (aj (dD (aj aD (aj aD (aj aD aq)))) (aj cP aq))) (aj (i6 (aj (dD (aj aD (aj aD aq))) (aj cP aq))) aq))))) (yN (n:=2) rfl (i8 (cK (i:=2) Hj.nd rfl (aT rfl)) (i8 (cK (i:=1) Hj.nd rfl (aT rfl)) qy))) (aJ (bY (PW.pt (ji (eT (dm (aP jE (hr.mono (by decide)) rfl T.cZ.mg T.cZ.fn.kp T.cZ.bd .nil aG (aj (kT (iO T.E5 AQ (hr.mono (by decide)) rfl T.Cf T.Ba.bd .nil aG (aj (pv 2) aq)) T.sG T.KW HZ (hr.mono (by decide)) T.Dz.bd .nil aG (aj (dD (aj aD (aj aD (aj aD aq)))) aq)) (aj (pv 1) aq))))) (jP (eT (dm (aP jE (hr.mono (by decide)) rfl T.cZ.mg T.cZ.fn.kp T.cZ.bd .nil aG (aj (kT (iO T.Ag xu (hr.mono (by decide)) rfl T.yE T.xM.bd .nil aG (aj (pv 2) aq)) T.ni T.Bx AO (hr.mono (by decide)) T.zD.bd .nil aG (aj (dD (aj aD (aj aD (aj aD aq)))) aq)) (aj cP aq)))))))) (aJ (aY cP)) b8)))
   (aH (bY (PW.pt (ji (eT (dm (aP jE (hr.mono (by decide)) rfl T.cZ.mg T.cZ.fn.kp T.cZ.bd .nil aG (aj (kT (iO T.Ag xu (hr.mono (by decide)) rfl T.yE T.xM.bd .nil aG (aj (dD (aj aD aq)) aq)) T.ni T.Bx AO (hr.mono (by decide)) T.zD.bd .nil aG (aj (dD (aj aD aq)) aq)) (aj cP aq))))) (jP (eT (dm (aP jE (hr.mono (by decide)) rfl T.cZ.mg T.cZ.fn.kp T.cZ.bd .nil aG (aj (kT (iO T.Ag xu (hr.mono (by decide)) rfl T.yE T.xM.bd .nil aG (aj (dD aq) aq)) T.ni T.Bx AO (hr.mono (by decide)) T.zD.bd .nil aG (aj (dD aq) aq)) (aj cP aq)))))))) (aJ (aY cP)) b8)
   (aJ (aY (gO (aP jE (hr.mono (by decide)) rfl T.cZ.mg T.cZ.fn.kp T.cZ.bd .nil aG (aj (kT (iO T.Af ue (hr.mono (by decide)) rfl T.Ak T.xF.bd .nil aG (aj aD aq)) T.pK T.U' Nz (hr.mono (by decide)) T.IE.bd .nil aG (aj (dD (aj aD aq)) aq)) (aj cP aq))) (iZ (aP jE (hr.mono (by decide)) rfl T.cZ.mg T.cZ.fn.kp T.cZ.bd .nil aG (aj (kT (iO T.E5 AQ (hr.mono (by decide)) rfl T.Cf T.Ba.bd .nil aG (aj (dD aq) aq)) T.sG T.KW HZ (hr.mono (by decide)) T.Dz.bd .nil aG (aj (dD aq) aq)) (aj cP aq)))))))))),?_⟩
  refine⟨by show 2<=aX;decide,fun qJ apK=>?_⟩
  have r1:ak H (upd H qJ (.lst [.int 5,.int 5])):=(ak.refl H).upd apK
  have adM:(upd H qJ (.lst [.int 5,.int 5])) qJ=some (.lst [.int 5,.int 5]):=au
  generalize upd H qJ (.lst [.int 5,.int 5])=G1 at r1 adM
  refine⟨by show 1<=aX;decide,fun tO apJ=>?_⟩
  have r2:ak G1 (upd G1 tO (.lst [.ref qJ])):=(ak.refl G1).upd apJ
  have adL:(upd G1 tO (.lst [.ref qJ])) tO=some (.lst [.ref qJ]):=au
  generalize upd G1 tO (.lst [.ref qJ])=G2 at r2 adL
  refine⟨by show 2<=aX;decide,fun t1 V4=>?_⟩
  have r3:ak G2 (upd G2 t1 (.tup [.ref tO,.bl false])):=(ak.refl G2).upd V4
  have at1:(upd G2 t1 (.tup [.ref tO,.bl false])) t1=some (.tup [.ref tO,.bl false]):=au
  generalize upd G2 t1 (.tup [.ref tO,.bl false])=G3 at r3 at1
  have agC:FT G3 t1 [[5,5]] false:=⟨tO,[qJ],at1,(show dQ G3 [qJ] [[5,5]] from⟨((r2).trans r3) qJ _ adM,trivial⟩).lZ ((r3) tO _ adL)⟩
  refine⟨by show 2<=aX;decide,fun qK apM=>?_⟩
  have r4:ak G3 (upd G3 qK (.lst [.int 5,.int 6])):=(ak.refl G3).upd apM
  have adO:(upd G3 qK (.lst [.int 5,.int 6])) qK=some (.lst [.int 5,.int 6]):=au
  generalize upd G3 qK (.lst [.int 5,.int 6])=G4 at r4 adO
  refine⟨by show 1<=aX;decide,fun tQ apL=>?_⟩
  have r5:ak G4 (upd G4 tQ (.lst [.ref qK])):=(ak.refl G4).upd apL
  have adN:(upd G4 tQ (.lst [.ref qK])) tQ=some (.lst [.ref qK]):=au
  generalize upd G4 tQ (.lst [.ref qK])=G5 at r5 adN
  refine⟨by show 2<=aX;decide,fun t2 jM=>?_⟩
  have r6:ak G5 (upd G5 t2 (.tup [.ref tQ,.bl true])):=(ak.refl G5).upd jM
  have at2:(upd G5 t2 (.tup [.ref tQ,.bl true])) t2=some (.tup [.ref tQ,.bl true]):=au
  generalize upd G5 t2 (.tup [.ref tQ,.bl true])=G6 at r6 at2
  have agD:FT G6 t2 [[5,6]] true:=⟨tQ,[qK],at2,(show dQ G6 [qK] [[5,6]] from⟨((r5).trans r6) qK _ adO,trivial⟩).lZ ((r6) tQ _ adN)⟩
  refine⟨by show 0<=aX;decide,fun tR apN=>?_⟩
  have r7:ak G6 (upd G6 tR (.lst [])):=(ak.refl G6).upd apN
  have adP:(upd G6 tR (.lst [])) tR=some (.lst []):=au
  generalize upd G6 tR (.lst [])=G7 at r7 adP
  refine⟨by show 2<=aX;decide,fun t3 ht3=>?_⟩
  have r8:ak G7 (upd G7 t3 (.tup [.ref tR,.bl false])):=(ak.refl G7).upd ht3
  have at3:(upd G7 t3 (.tup [.ref tR,.bl false])) t3=some (.tup [.ref tR,.bl false]):=au
  generalize upd G7 t3 (.tup [.ref tR,.bl false])=G8 at r8 at3
  have agE:FT G8 t3 [] false:=⟨tR,[],at3,(show dQ G8 [] []from trivial).lZ ((r8) tR _ adP)⟩
  refine⟨by show 2<=aX;decide,fun qL apP=>?_⟩
  have r9:ak G8 (upd G8 qL (.lst [.int 6,.int 5])):=(ak.refl G8).upd apP
  have adR:(upd G8 qL (.lst [.int 6,.int 5])) qL=some (.lst [.int 6,.int 5]):=au
  generalize upd G8 qL (.lst [.int 6,.int 5])=G9 at r9 adR
  refine⟨by show 1<=aX;decide,fun tT apO=>?_⟩
  have gQ:ak G9 (upd G9 tT (.lst [.ref qL])):=(ak.refl G9).upd apO
  have adQ:(upd G9 tT (.lst [.ref qL])) tT=some (.lst [.ref qL]):=au
  generalize upd G9 tT (.lst [.ref qL])=G10 at gQ adQ
  refine⟨by show 2<=aX;decide,fun t4 Aa=>?_⟩
  have kq:ak G10 (upd G10 t4 (.tup [.ref tT,.bl true])):=(ak.refl G10).upd Aa
  have at4:(upd G10 t4 (.tup [.ref tT,.bl true])) t4=some (.tup [.ref tT,.bl true]):=au
  generalize upd G10 t4 (.tup [.ref tT,.bl true])=G11 at kq at4
  have agF:FT G11 t4 [[6,5]] true:=⟨tT,[qL],at4,(show dQ G11 [qL] [[6,5]] from⟨((gQ).trans kq) qL _ adR,trivial⟩).lZ ((kq) tT _ adQ)⟩
  refine⟨by show 2<=aX;decide,fun qM apR=>?_⟩
  have kU:ak G11 (upd G11 qM (.lst [.int 5,.int 6])):=(ak.refl G11).upd apR
  have adT:(upd G11 qM (.lst [.int 5,.int 6])) qM=some (.lst [.int 5,.int 6]):=au
  generalize upd G11 qM (.lst [.int 5,.int 6])=G12 at kU adT
  refine⟨by show 2<=aX;decide,fun qN apS=>?_⟩
  have i9:ak G12 (upd G12 qN (.lst [.int 5,.int 6])):=(ak.refl G12).upd apS
  have adU:(upd G12 qN (.lst [.int 5,.int 6])) qN=some (.lst [.int 5,.int 6]):=au
  generalize upd G12 qN (.lst [.int 5,.int 6])=G13 at i9 adU
  refine⟨by show 2<=aX;decide,fun tU apQ=>?_⟩
  have lJ:ak G13 (upd G13 tU (.lst [.ref qM,.ref qN])):=(ak.refl G13).upd apQ
  have adS:(upd G13 tU (.lst [.ref qM,.ref qN])) tU=some (.lst [.ref qM,.ref qN]):=au
  generalize upd G13 tU (.lst [.ref qM,.ref qN])=G14 at lJ adS
  refine⟨by show 2<=aX;decide,fun t5 BW=>?_⟩
  have pN:ak G14 (upd G14 t5 (.tup [.ref tU,.bl false])):=(ak.refl G14).upd BW
  have at5:(upd G14 t5 (.tup [.ref tU,.bl false])) t5=some (.tup [.ref tU,.bl false]):=au
  generalize upd G14 t5 (.tup [.ref tU,.bl false])=G15 at pN at5
  have agG:FT G15 t5 [[5,6],[5,6]] false:=⟨tU,[qM,qN],at5,(show dQ G15 [qM,qN] [[5,6],[5,6]] from⟨(((i9).trans lJ).trans pN) qM _ adT,⟨((lJ).trans pN) qN _ adU,trivial⟩⟩).lZ ((pN) tU _ adS)⟩
  refine⟨by show 5<=aX;decide,fun L hL=>?_⟩
  have mJ:ak G15 (upd G15 L (.lst [.ref t1,.ref t2,.ref t3,.ref t4,.ref t5])):=(ak.refl G15).upd hL
  have aL:(upd G15 L (.lst [.ref t1,.ref t2,.ref t3,.ref t4,.ref t5])) L=some (.lst [.ref t1,.ref t2,.ref t3,.ref t4,.ref t5]):=au
  generalize upd G15 L (.lst [.ref t1,.ref t2,.ref t3,.ref t4,.ref t5])=Nx at mJ aL
  have agH:=agC.same (((((((((((((r4).trans r5).trans r6).trans r7).trans r8).trans r9).trans gQ).trans kq).trans kU).trans i9).trans lJ).trans pN).trans mJ)
  have agI:=agD.same ((((((((((r7).trans r8).trans r9).trans gQ).trans kq).trans kU).trans i9).trans lJ).trans pN).trans mJ)
  have agJ:=agE.same ((((((((r9).trans gQ).trans kq).trans kU).trans i9).trans lJ).trans pN).trans mJ)
  have agK:=agF.same (((((kU).trans i9).trans lJ).trans pN).trans mJ)
  have agL:=agG.same (mJ)
  have sL:ak H Nx:=((((((((((((((((r1).trans r2).trans r3).trans r4).trans r5).trans r6).trans r7).trans r8).trans r9).trans gQ).trans kq).trans kU).trans i9).trans lJ).trans pN).trans mJ)
  clear agC agD agE agF agG
  refine⟨L,rfl,⟨_,.of aL⟩,nX (K:=K) (a:=L) (xs:=[.ref t1,.ref t2,.ref t3,.ref t4,.ref t5]) (fun i σ H2=>(∃v0 v1:Option V,σ=[v0,v1,none])/\ak Nx H2)
   ⟨⟨_,_,rfl⟩,ak.refl _⟩ (fun i σ H2 _ ⟨_,r⟩=>.of (r L _ aL)) ?_ ?_⟩
  ·rintro i y σ H2 hy ⟨⟨v0,v1,rfl⟩,rr⟩
   have cR:∃(t:aa) (gs:List (List Int)) (d:Bool),y=.ref t/\FT Nx t gs d/\Ay gs [5,5,6] 2=d/\gs.length<=10/\(∀g∈gs,g.length<=10)/\gs.flatten.length<=100:=by
    match i,hy with
    | 0,hy=>exact⟨t1,_,_,(cY hy).symm,agH,by decide +kernel,by decide,by decide,by decide⟩
    | 1,hy=>exact⟨t2,_,_,(cY hy).symm,agI,by decide +kernel,by decide,by decide,by decide⟩
    | 2,hy=>exact⟨t3,_,_,(cY hy).symm,agJ,by decide +kernel,by decide,by decide,by decide⟩
    | 3,hy=>exact⟨t4,_,_,(cY hy).symm,agK,by decide +kernel,by decide,by decide,by decide⟩
    | 4,hy=>exact⟨t5,_,_,(cY hy).symm,agL,by decide +kernel,by decide,by decide,by decide⟩
    |n+5,hy=>simp at hy
   obtain⟨t,gs,d,rfl,ft,E2,hg1,BE,hg3⟩:=cR
   obtain⟨b,us,yw,G⟩:=ft.same rr
   refine⟨t,_,rfl,.of yw,rfl,_,_,rfl,_,_,rfl,rfl,?_⟩
   refine⟨_,rfl,?_⟩
   intro x uN hx dW yI
   refine⟨x,uN,b,us,gs,rfl,au,iD hx dW G.1,G.2.1,fun j t g h1 h2=>iD hx dW (G.2.2 j t g h1 h2),by omega,fun g hg=>by have:=BE g hg;omega,fun bb ub H7 se By hub HY=>⟨rfl,?_⟩⟩
   have q7:ak H2 H7:=iN (ak.refl _) hx dW se
   obtain⟨x8,uZ⟩:=id HY.ob
   refine⟨x,x8,_,rfl,uZ,aiJ _ (by decide +kernel),by show 3<=aX;decide,fun hz VC=>?_⟩
   have q8:ak H7 (upd H7 hz (.lst ([5,5,6].map V.int))):=(ak.refl H7).upd VC
   refine⟨x,bb,hz,ub,gs,[5,5,6],2,rfl,HY.same q8,by omega,fun g hg=>by have:=BE g hg;omega,by omega,au,by decide,fun H9 q9=>?_⟩
   refine⟨_,rfl,_,_,rfl,?_⟩
   rw[E2,rP]
   exact⟨_,rfl,bH ⟨⟨_,_,rfl⟩,rr.trans ((q7.trans q8).trans q9)⟩⟩
  rintro σ H0 ⟨⟨v0,v1,rfl⟩,rr⟩
  have s0:=sL.trans rr
  refine d9 ?_
  clear agH agI agJ agK agL sL rr r1 r2 r3 r4 r5 r6 r7 r8 r9 gQ kq kU i9 lJ pN mJ
  refine⟨by show 3<=aX;decide,fun sC aoZ=>?_⟩
  have r1:ak H0 (upd H0 sC (.lst [.int 11,.int 2,.int 11])):=(ak.refl H0).upd aoZ
  have acF:(upd H0 sC (.lst [.int 11,.int 2,.int 11])) sC=some (.lst [.int 11,.int 2,.int 11]):=au
  generalize upd H0 sC (.lst [.int 11,.int 2,.int 11])=J1 at r1 acF
  refine⟨by show 2<=aX;decide,fun k1 iK=>?_⟩
  have r2:ak J1 (upd J1 k1 (.tup [.ref sC,.bl true])):=(ak.refl J1).upd iK
  have ak1:(upd J1 k1 (.tup [.ref sC,.bl true])) k1=some (.tup [.ref sC,.bl true]):=au
  generalize upd J1 k1 (.tup [.ref sC,.bl true])=J2 at r2 ak1
  have aof:FK J2 k1 [11,2,11] true:=⟨sC,ak1,(r2) sC _ acF⟩
  refine⟨by show 3<=aX;decide,fun sD ao0=>?_⟩
  have r3:ak J2 (upd J2 sD (.lst [.int 2,.int 11,.int 11])):=(ak.refl J2).upd ao0
  have acG:(upd J2 sD (.lst [.int 2,.int 11,.int 11])) sD=some (.lst [.int 2,.int 11,.int 11]):=au
  generalize upd J2 sD (.lst [.int 2,.int 11,.int 11])=J3 at r3 acG
  refine⟨by show 2<=aX;decide,fun k2 bA=>?_⟩
  have r4:ak J3 (upd J3 k2 (.tup [.ref sD,.bl false])):=(ak.refl J3).upd bA
  have ak2:(upd J3 k2 (.tup [.ref sD,.bl false])) k2=some (.tup [.ref sD,.bl false]):=au
  generalize upd J3 k2 (.tup [.ref sD,.bl false])=J4 at r4 ak2
  have aog:FK J4 k2 [2,11,11] false:=⟨sD,ak2,(r4) sD _ acG⟩
  refine⟨by show 2<=aX;decide,fun sE ao1=>?_⟩
  have r5:ak J4 (upd J4 sE (.lst [.int 11,.int 2])):=(ak.refl J4).upd ao1
  have acH:(upd J4 sE (.lst [.int 11,.int 2])) sE=some (.lst [.int 11,.int 2]):=au
  generalize upd J4 sE (.lst [.int 11,.int 2])=J5 at r5 acH
  refine⟨by show 2<=aX;decide,fun k3 fC=>?_⟩
  have r6:ak J5 (upd J5 k3 (.tup [.ref sE,.bl false])):=(ak.refl J5).upd fC
  have ak3:(upd J5 k3 (.tup [.ref sE,.bl false])) k3=some (.tup [.ref sE,.bl false]):=au
  generalize upd J5 k3 (.tup [.ref sE,.bl false])=J6 at r6 ak3
  have aoh:FK J6 k3 [11,2] false:=⟨sE,ak3,(r6) sE _ acH⟩
  refine⟨by show 3<=aX;decide,fun M hM=>?_⟩
  have r7:ak J6 (upd J6 M (.lst [.ref k1,.ref k2,.ref k3])):=(ak.refl J6).upd hM
  have aM:(upd J6 M (.lst [.ref k1,.ref k2,.ref k3])) M=some (.lst [.ref k1,.ref k2,.ref k3]):=au
  generalize upd J6 M (.lst [.ref k1,.ref k2,.ref k3])=J7 at r7 aM
  have aoo:=aof.same (((((r3).trans r4).trans r5).trans r6).trans r7)
  have aop:=aog.same (((r5).trans r6).trans r7)
  have aoq:=aoh.same (r7)
  have sM:ak H J7:=s0.trans (((((((r1).trans r2).trans r3).trans r4).trans r5).trans r6).trans r7)
  refine⟨M,rfl,⟨_,.of aM⟩,nX (K:=K) (a:=M) (xs:=[.ref k1,.ref k2,.ref k3]) (fun i σ H2=>(∃v0 v1 v2:Option V,σ=[v0,v1,v2])/\ak J7 H2)
   ⟨⟨_,_,_,rfl⟩,ak.refl _⟩ (fun i σ H2 _ ⟨_,r⟩=>.of (r M _ aM)) ?_ ?_⟩
  ·rintro i y σ H2 hy ⟨⟨v0,v1,v2,rfl⟩,rr⟩
   have cR:∃(t:aa) (ks:List Int) (d:Bool),y=.ref t/\FK J7 t ks d/\Az ks [11,11,2]=d/\tH ks [11,11,2]=false/\ks.length<=10:=by
    match i,hy with
    | 0,hy=>exact⟨k1,_,_,(cY hy).symm,aoo,by decide +kernel,by decide +kernel,by decide⟩
    | 1,hy=>exact⟨k2,_,_,(cY hy).symm,aop,by decide +kernel,by decide +kernel,by decide⟩
    | 2,hy=>exact⟨k3,_,_,(cY hy).symm,aoq,by decide +kernel,by decide +kernel,by decide⟩
    |n+3,hy=>simp at hy
   obtain⟨t,ks,d,rfl,fk,E2,hrg,hg1⟩:=cR
   obtain⟨b,yw,hbk⟩:=fk.same rr
   refine⟨t,_,rfl,.of yw,rfl,_,_,rfl,_,_,rfl,rfl,?_⟩
   refine⟨_,rfl,?_⟩
   intro x uN hx dW yI
   refine⟨x,uN,b,ks,rfl,au,iD hx dW hbk,by omega,fun lr H7 se VN KR=>⟨rfl,?_⟩⟩
   have q7:ak H2 H7:=iN (ak.refl _) hx dW se
   obtain⟨x8,uZ⟩:=id KR.ob
   refine⟨x,x8,_,rfl,uZ,vg _ (by decide +kernel),by show 3<=aX;decide,fun hz VC=>?_⟩
   have q8:ak H7 (upd H7 hz (.lst ([11,11,2].map V.int))):=(ak.refl H7).upd VC
   refine⟨x,lr,hz,ks,[11,11,2],rfl,KR.same q8,by omega,au,by decide,fun H9 q9=>?_⟩
   refine⟨_,rfl,_,_,rfl,?_⟩
   rw[E2,rP]
   refine⟨_,rfl,bH ?_⟩
   have r9:=(q7.trans q8).trans q9
   refine⟨_,rfl,?_⟩
   intro x2 zN pJ yh azy
   refine⟨x2,zN,b,ks,rfl,au,iD pJ yh (r9 b _ hbk),by omega,fun Y0 fh aoW aph Dg=>⟨rfl,?_⟩⟩
   have q10:ak H9 fh:=iN (ak.refl _) pJ yh aoW
   obtain⟨dxb,VT⟩:=id Dg.ob
   refine⟨x2,dxb,_,rfl,VT,vg _ (by decide +kernel),by show 3<=aX;decide,fun hy2 aoS=>?_⟩
   have q11:ak fh (upd fh hy2 (.lst ([11,11,2].map V.int))):=(ak.refl fh).upd aoS
   refine⟨x2,Y0,hy2,ks,[11,11,2],rfl,Dg.same q11,by omega,au,by decide,fun xz q12=>?_⟩
   refine⟨_,_,rfl,?_⟩
   rw[hrg]
   exact⟨_,rfl,bH ⟨⟨_,_,_,rfl⟩,rr.trans (r9.trans ((q10.trans q11).trans q12))⟩⟩
  rintro σ AS ⟨⟨v0,v1,v2,rfl⟩,rr⟩
  have s20:=sM.trans rr
  refine d9 ?_
  refine⟨by show 1<=aX;decide,fun Fp ao7=>?_⟩
  have ra1:ak AS (upd AS Fp (.lst [.int 5])):=(ak.refl AS).upd ao7
  have aa1:(upd AS Fp (.lst [.int 5])) Fp=some (.lst (([5]:List Int).map V.int)):=au
  generalize upd AS Fp (.lst [.int 5])=Ha1 at ra1 aa1
  intro x1 D0 yx yg nx1
  refine⟨x1,D0,Fp,[5],rfl,au,iD yx yg aa1,by decide,fun lr1 Ig iK Le KR1=>⟨rfl,?_⟩⟩
  have rb1:ak Ha1 Ig:=iN (ak.refl _) yx yg iK
  obtain⟨dy1,Lh⟩:=id KR1.ob
  refine⟨x1,dy1,_,rfl,Lh,vg _ (by decide +kernel),by show 1<=aX;decide,fun lb1 ao'=>?_⟩
  have rc1:ak Ig (upd Ig lb1 (.lst (([5]:List Int).map V.int))):=(ak.refl Ig).upd ao'
  refine⟨x1,lr1,lb1,[5],[5],rfl,KR1.same rc1,by decide,au,by decide,fun zd rd1=>?_⟩
  have ev1:tH [5] [5]=false:=by decide +kernel
  refine⟨_,_,rfl,?_⟩
  rw[ev1]
  have rz1:ak AS zd:=(ra1.trans rb1).trans (rc1.trans rd1)
  refine⟨_,rfl,bH ?_⟩
  refine⟨by show 0<=aX;decide,fun Fq ao8=>?_⟩
  have ra2:ak zd (upd zd Fq (.lst [])):=(ak.refl zd).upd ao8
  have aa2:(upd zd Fq (.lst [])) Fq=some (.lst (([]:List Int).map V.int)):=au
  generalize upd zd Fq (.lst [])=Ha2 at ra2 aa2
  intro x2 zN pJ yh nx2
  refine⟨x2,zN,Fq,[],rfl,au,iD pJ yh aa2,by decide,fun Y0 Ih bA aph Dg=>⟨rfl,?_⟩⟩
  have rb2:ak Ha2 Ih:=iN (ak.refl _) pJ yh bA
  obtain⟨dy2,Li⟩:=id Dg.ob
  refine⟨x2,dy2,_,rfl,Li,vg _ (by decide +kernel),by show 0<=aX;decide,fun lb2 apa=>?_⟩
  have rc2:ak Ih (upd Ih lb2 (.lst (([]:List Int).map V.int))):=(ak.refl Ih).upd apa
  refine⟨x2,Y0,lb2,[],[],rfl,Dg.same rc2,by decide,au,by decide,fun NQ rd2=>?_⟩
  have ev2:tH [] []=false:=by decide +kernel
  refine⟨_,_,rfl,?_⟩
  rw[ev2]
  have rz2:ak zd NQ:=(ra2.trans rb2).trans (rc2.trans rd2)
  refine⟨_,rfl,bH (Me ?_)⟩
  intro x3 TJ hx3 aoJ nx3
  refine⟨x3,TJ,5,rfl,au,fun Ii fC MD3=>⟨rfl,?_⟩⟩
  have rb3:ak NQ Ii:=iN (ak.refl _) hx3 aoJ fC
  obtain⟨dy3,ho3⟩:=id MD3
  refine⟨x3,dy3,_,rfl,ho3,FE _ (by decide +kernel),by show 1<=aX;decide,fun lb3 apb=>?_⟩
  have rc3:ak Ii (upd Ii lb3 (.lst (([5]:List Int).map V.int))):=(ak.refl Ii).upd apb
  refine⟨x3,lb3,5,[5],rfl,MD3.same rc3,au,by decide,fun ze rd3=>?_⟩
  refine⟨_,_,rfl,_,rfl,cJ ?_⟩
  have rz3:ak NQ ze:=rb3.trans (rc3.trans rd3)
  refine⟨by show 0<=aX;decide,fun Ft ao9=>?_⟩
  have ra4:ak ze (upd ze Ft (.lst [])):=(ak.refl ze).upd ao9
  have aa4:(upd ze Ft (.lst [])) Ft=some (.lst (([]:List Int).map V.int)):=au
  generalize upd ze Ft (.lst [])=Ha4 at ra4 aa4
  intro x4 dx4 hx4 ag0 nx4
  refine⟨x4,dx4,Ft,[],rfl,au,iD hx4 ag0 aa4,by decide,fun lr4 Ij uY azs KR4=>⟨rfl,?_⟩⟩
  have rb4:ak Ha4 Ij:=iN (ak.refl _) hx4 ag0 uY
  obtain⟨dy4,ho4⟩:=id KR4.ob
  refine⟨x4,dy4,_,rfl,ho4,vg _ (by decide +kernel),by show 0<=aX;decide,fun lb4 apc=>?_⟩
  have rc4:ak Ij (upd Ij lb4 (.lst (([]:List Int).map V.int))):=(ak.refl Ij).upd apc
  refine⟨x4,lr4,lb4,[],[],rfl,KR4.same rc4,by decide,au,by decide,fun Hd4 rd4=>?_⟩
  have ev4:Az [] []=true:=by decide +kernel
  refine⟨_,_,rfl,?_⟩
  rw[ev4]
  have rz4:ak ze Hd4:=(ra4.trans rb4).trans (rc4.trans rd4)
  exact k Hd4 (s20.trans (rz1.trans (rz2.trans (rz3.trans rz4))))
noncomputable def MX(K:bG)(TB:aa):Sp:=fun vs H Q _=>∃(a:aa) (ns:List Int),vs=[.ref a]/\dO K H a (ns.map V.int)/\ns.length<=63/\nR TB H/\∀H',nR TB H'->Q (.bl true) H'
theorem MN:bU ["_law_script","_law_heap_here","_law_k","_law_cell"] ["_law_script"] (az pP):=⟨rfl,rfl,rfl,by decide +kernel,rfl,by decide +kernel,by decide +kernel⟩
theorem atN(T:Txt K mg Z):bD P w K mg base bK 8 Z.UA Z.S9 ["_law_script"] (MX K Z.qO):=by
 have alX:=atp (P:=P) (w:=w) (base:=base) T
 have alT:=atl (P:=P) (w:=w) (base:=base) T
 have C3:=ai0 (P:=P) (w:=w) (base:=base) T
 have al1:=atu (P:=P) (w:=w) (base:=base) T
 have alU:=atm (P:=P) (w:=w) (base:=base) T
 have al0:=att (P:=P) (w:=w) (base:=base) T
 have alW:=ato (P:=P) (w:=w) (base:=base) T
 refine T.law.fn.ok MN (fun vs H Q E h=>?_) (fun bg A outer s H vs Q E hr h=>?_)
 ·obtain⟨a,ns,rfl,_⟩:=h
  rfl
 ·obtain⟨a,ss,rfl,ha,hl,hT,k⟩:=h
  have hu:=pH hr
  have iM:=hr.units
  refine⟨_,(aH (bR (i:=1) MN.nd rfl (aT rfl) (aP alX (hr.mono (by decide)) rfl T.DH.mg T.DH.fn.kp T.DH.bd .nil aG (aj (pv 0) aq)))
   (aH (bY (eT (dm (aui alT (hr.mono (by decide)) rfl T.DC.mg T.DC.fn.kp T.DC.bd .nil aG))) (aJ (aY cP)) b8)
   (aH (iF iy rfl (Cr rfl T.xS (aj aD aq)) (cK (i:=2) MN.nd rfl (aT rfl)) (aH (bR (i:=3) MN.nd rfl (aT rfl) (bM g9 (bM g9 (aP C3 (hr.mono (by decide)) rfl T.mU.mg T.mU.fn.kp T.mU.bd .nil aG (aj (pv 0) (aj (pv 2) aq))) (bM oH aD (pv 2))) (bM oH aD (aP C3 (hr.mono (by decide)) rfl T.mU.mg T.mU.fn.kp T.mU.bd .nil aG (aj (pv 0) (aj (bM g9 (pv 2) aD) aq))))))
   (aH (bY (PW.pt (ji (eT (dm (aP al1 (hr.mono (by decide)) rfl T.DL.mg T.DL.fn.kp T.DL.bd .nil aG (aj (pv 1) (aj (pv 3) aq))))) (jP (eT (dm (aP alU (hr.mono (by decide)) rfl T.DE.mg T.DE.fn.kp T.DE.bd .nil aG (aj (pv 1) (aj (pv 3) aq)))))))) (aJ (aY cP)) b8)
   (aJ (bY (PW.pt (ji (eT (dm (aP al0 (hr.mono (by decide)) rfl T.DK.mg T.DK.fn.kp T.DK.bd .nil aG (aj (pv 1) (aj (pv 3) aq))))) (jP (eT (dm (aP alW (hr.mono (by decide)) rfl T.DG.mg T.DG.fn.kp T.DG.bd .nil aG (aj (pv 1) (aj (pv 3) aq)))))))) (aJ (aY cP)) b8)))))
   (aJ (aY cP))))),?_⟩
  refine⟨_,rfl,a,ss,rfl,ha,hl,fun l ns H1 m7 Lf s1 bS cT=>?_⟩
  have Lg:ns.length<=63:=by omega
  refine d9 ?_
  refine⟨rfl,fun H2 r2=>⟨true,rfl,bH (Aq ?_)⟩⟩
  have s2:=s1.trans r2
  have cE:=r2 l _ cT
  refine⟨3,rfl,by decide,by decide,En (lo:=0) (n:=3) (fun i σ H3=>(∃v2 v3:Option V,σ=[some (.ref a),some (.ref l),v2,v3])/\ak H2 H3)
   ⟨⟨none,none,rfl⟩,ak.refl _⟩ (fun i σ H3 hi hP=>?_) (fun σ H3 hP=>?_)⟩
  ·obtain⟨⟨v2,v3,rfl⟩,r3⟩:=hP
   have s3:=s2.trans r3
   have KY:=s3.seq ha
   refine⟨_,rfl,_,rfl,a,ss,_,rfl,KY,by omega,fun c1=>?_⟩
   refine⟨_,rfl,_,_,rfl,rfl,.inl ⟨by decide,by decide⟩,_,_,rfl,rfl,?_⟩
   refine⟨_,rfl,_,rfl,_,_,rfl,rfl,a,ss,_,rfl,KY,by omega,fun c2=>?_⟩
   refine⟨_,_,rfl,rfl,.inl ⟨by decide,by decide⟩,_,_,rfl,rfl,?_⟩
   refine d9 ?_
   have n9:=r3 l _ cE
   refine⟨_,rfl,_,rfl,l,ns,_,rfl,n9,Lg,Lf,hT.same s3,fun H4 r4=>⟨_,rfl,bH ?_⟩⟩
   have s4:=s3.trans r4
   have hl4:=r4 l _ n9
   refine⟨_,rfl,_,rfl,l,ns,_,rfl,hl4,Lg,Lf,hT.same s4,fun H5 r5=>⟨_,rfl,bH (Me ?_)⟩⟩
   have hl5:=r5 l _ hl4
   refine⟨_,rfl,_,rfl,l,ns,_,rfl,hl5,Lg,Lf,fun H6 r6=>⟨_,rfl,bH ?_⟩⟩
   refine⟨_,rfl,_,rfl,l,ns,_,rfl,r6 l _ hl5,Lg,Lf,fun H7 r7=>⟨_,rfl,bH ?_⟩⟩
   exact⟨⟨_,_,rfl⟩,r3.trans (r4.trans (r5.trans (r6.trans r7)))⟩
  ·obtain⟨_,r3⟩:=hP
   exact k H3 (hT.same (s2.trans r3))
end
end K7
namespace K7
open PySem PySem.Spec PyProof.Rows L2 Tl
theorem all_mk{l:acs}{w:cj}{K:bG}{h:bL}{mg:Str->Option ao}{fa f1 f2 f3 f4 f5 f6 f7 f8 f9 BX Na Jo Jp Jq Jr Js Jt Ju Jv Jw Jx Jy Jz JA JB JC JD JE JF JG JH JI JJ JK JL JM JN JO JP JQ JR JS JT JU JV JW JX JY JZ J0 J8 J9 J' Ka Kc TU D7 D8 D9 Ea Eb Ec Ed Ef Eg Eh Ei Ej Ek El xr gC gB fY gD gk gA:aa}(X:K.In h)(G:h.Ns bx mg)(hfa:mg "law" = some (.ref fa))
  {od1 an1 od2 an2 od3 an3 od4 an4 od5 an5 od6 an6 od7 an7 od8 an8 od9 an9 Mm asb acJ asd acK ase acL asf acM ash acN asi acO asj acP asl acQ asm acR asn acS aso acT asp acU asq acV asr acW asu acX asv acY asw acZ asx ac0 asy ac1 asz ac2 asA ac3 asB ac4 asC ac5 asD ac6 asE ac7 asF ac8 asG ac9 asH ada asI adb asJ adc asK ade asL adf asM adg asN adh asO adi asP adk asQ adl asR adm asS adn asT ado asU adp asV adq asW ads asX adt asY OY asZ adu as3 adv as4 adw as5 adx as6 ady as7 adz as8 adA as9 adB ata adC atb adD atc adE atd adF ate adG atf adH:Option aa} {sl1 sl2 sl3 sl4 sl5 sl6 sl7 sl8 sl9 avI avJ avK avL avM avN avO avP avQ avR avS avT avU avV avW avX avY avZ av0 av1 av2 av3 av4 av5 av6 av7 av8 av9 av' awa awb awc awd awe awf awg awh awi awj awk awl awm awn awo awp awq awr aws awt awu awv aww awx awy awz awA awB awC awD awE:Array (Option ao)} {oc1 kV1 dc1 sP QK ct1 oc2 kV2 dc2 sQ QY ct2 oc3 kV3 dc3 pm3 Rb ct3 oc4 kV4 dc4 pm4 Rn ct4 oc5 kV5 dc5 pm5 Ry ct5 oc6 kV6 dc6 pm6 RK ct6 oc7 kV7 dc7 pm7 RV ct7 oc8 kV8 dc8 pm8 RX ct8 oc9 kV9 dc9 pm9 ct9 ayN ayU ayV ayW ayX ayY ayZ ay0 ayO ayP ayQ ayR ayS ayT ara ahs afk ajl QL aej arb aht afl ajm QM aek arc ahu afm ajn QN ael ard ahv afn ajo QO aem arf ahw afo ajp QS aen arh ahx afp ajq QT aeo ari ahy afq ajr QU aep arj ahz afr ajs QV aer ark ahA afs ajt QW aes arl ahB aft aju QX aet arn ahC afu ajv QZ aeu aro ahD afv ajw Q0 aev arp ahE afw ajx Q3 aew arq ahF afx ajy Q4 aex ars ahG afy ajz Q5 aey art ahH afz ajA Q6 aez aru ahI afA ajB Q7 aeA arv ahJ afB ajC Q8 aeB arw ahK afC ajD Q9 aeC arx ahL afD ajE Ra aeD arz ahM afE ajF Rc aeE arA ahN afF ajG Re aeF arB ahO afG ajH Rf aeG arC ahP afH ajI Rg aeH arD ahQ afI ajJ Rh aeI arE ahR afJ ajK Ri aeJ arF ahS afK ajL Rj aeK arG ahT afL ajM Rk aeL arH ahU afM ajN Rl aeM arI ahV afN ajO Rm aeN arJ ahW afO ajP Ro aeO arK ahX afP ajQ Rp aeP arL ahY afQ ajR Rq aeQ arM ahZ afR ajS Rr aeR arN ah0 afS ajT Rs aeS arO ah1 afT ajU Rt aeT arP ah2 afU ajV Ru aeU arQ ah3 afV ajW Rv aeV arR ah4 afW ajX Rw aeW arS ah5 afX ajY Rx aeX arT ah6 afY ajZ Rz aeY arU ah7 afZ aj0 RA aeZ arV ah8 af0 aj1 RB ae0 arW ah9 af1 aj2 RC ae1 arX Xq Tw ZW Ja RZ arY ah' af2 aj3 RD ae2 arZ aia af3 aj4 RE ae3 ar0 aib af4 aj5 RH ae4 ar1 aic af5 aj6 RI ae5 ar2 aid af6 aj7 RJ ae6 ar3 aie af7 aj8 RL ae7 ar4 aif af8 aj9 RM ae8 ar5 aih af9 aj' RN ae9 ar6 aii af' aka RO ae' ar7 aij aga akb RP afa ar8 aik agb akc RQ afb ar9 ail agc akd RS afc ar' aim agd ake RT afd asa ain age akf RU afe:ao} {Ep Es Er Eo:Tok} {apW apV:Int} {ax0 axY axZ:Tok} {ano:Bool} {au3:Str}
  (a1:bN K bx "is_whole" = some (some (.ref f1)))
  (l1:K.lookup f1=some ⟨oc1,od1,.func (aQ "is_whole" "is_whole" (aR wz) (aO wz) (az wz) .none kV1 dc1 sP an1 QK ct1),sl1⟩)
  (c1:bX K QK "is_whole" = true)
  (k1:bO K (.ref f1)=true)
  (a2:bN K bx "is_kind" = some (some (.ref f2)))
  (l2:K.lookup f2=some ⟨oc2,od2,.func (aQ "is_kind" "is_kind" (aR wu) (aO wu) (az wu) .none kV2 dc2 sQ an2 QY ct2),sl2⟩)
  (c2:bX K QY "is_kind" = true)
  (k2:bO K (.ref f2)=true)
  (a3:bN K bx "is_heap" = some (some (.ref f3)))
  (l3:K.lookup f3=some ⟨oc3,od3,.func (aQ "is_heap" "is_heap" (aR tE) (aO tE) (az tE) .none kV3 dc3 pm3 an3 Rb ct3),sl3⟩)
  (c3:bX K Rb "is_heap" = true)
  (k3:bO K (.ref f3)=true)
  (a4:bN K bx "check_heap" = some (some (.ref f4)))
  (l4:K.lookup f4=some ⟨oc4,od4,.func (aQ "check_heap" "check_heap" (aR wj) (aO wj) (az wj) .none kV4 dc4 pm4 an4 Rn ct4),sl4⟩)
  (c4:bX K Rn "check_heap" = true)
  (k4:bO K (.ref f4)=true)
  (a5:bN K bx "check_number" = some (some (.ref f5)))
  (l5:K.lookup f5=some ⟨oc5,od5,.func (aQ "check_number" "check_number" (aR wk) (aO wk) (az wk) .none kV5 dc5 pm5 an5 Ry ct5),sl5⟩)
  (c5:bX K Ry "check_number" = true)
  (k5:bO K (.ref f5)=true)
  (a6:bN K bx "tally" = some (some (.ref f6)))
  (l6:K.lookup f6=some ⟨oc6,od6,.func (aQ "tally" "tally" (aR wS) (aO wS) (az wS) .none kV6 dc6 pm6 an6 RK ct6),sl6⟩)
  (c6:bX K RK "tally" = true)
  (k6:bO K (.ref f6)=true)
  (a7:bN K bx "most_alike" = some (some (.ref f7)))
  (l7:K.lookup f7=some ⟨oc7,od7,.func (aQ "most_alike" "most_alike" (aR wH) (aO wH) (az wH) .none kV7 dc7 pm7 an7 RV ct7),sl7⟩)
  (c7:bX K RV "most_alike" = true)
  (k7:bO K (.ref f7)=true)
  (a8:bN K bx "top_kinds" = some (some (.ref f8)))
  (l8:K.lookup f8=some ⟨oc8,od8,.func (aQ "top_kinds" "top_kinds" (aR tG) (aO tG) (az tG) .none kV8 dc8 pm8 an8 RX ct8),sl8⟩)
  (c8:bX K RX "top_kinds" = true)
  (k8:bO K (.ref f8)=true)
  (a9:bN K bx "commonest_first" = some (some (.ref f9)))
  (l9:K.lookup f9=some ⟨oc9,od9,.func (aQ "commonest_first" "commonest_first" (aR pO) (aO pO) (az pO) .none kV9 dc9 pm9 an9 (.ref BX) ct9),sl9⟩)
  (c9:bX K (.ref BX) "commonest_first" = true)
  (k9:bO K (.ref f9)=true)
  (LX:K.lookup BX=some ⟨.type "code",Mm,.fields ⟨[ayN,ayU,ayV,ayW,ayX,ayY,ayZ,.int apW ax0,ay0,.bool ano,.int apV axY,.ref Na,ayO,ayP,ayQ,ayR,ayS,ayT,.str au3 axZ]⟩,avI⟩)
  (Mf:K.lookup Na=none)
  (a10:bN K bx "laid_out" = some (some (.ref Jo)))
  (XO:K.lookup Jo=some ⟨ara,asb,.func (aQ "laid_out" "laid_out" (aR wE) (aO wE) (az wE) .none ahs afk ajl acJ QL aej),avJ⟩)
  (Pe:bX K QL "laid_out" = true)
  (Ww:bO K (.ref Jo)=true)
  (a11:bN K bx "copied" = some (some (.ref Jp)))
  (XQ:K.lookup Jp=some ⟨arb,asd,.func (aQ "copied" "copied" (aR oK) (aO oK) (az oK) .none aht afl ajm acK QM aek),avK⟩)
  (Pf:bX K QM "copied" = true)
  (Wx:bO K (.ref Jp)=true)
  (a12:bN K bx "are_whole" = some (some (.ref Jq)))
  (XR:K.lookup Jq=some ⟨arc,ase,.func (aQ "are_whole" "are_whole" (aR sZ) (aO sZ) (az sZ) .none ahu afm ajn acL QN ael),avL⟩)
  (c12:bX K QN "are_whole" = true)
  (Wy:bO K (.ref Jq)=true)
  (a13:bN K bx "same_kinds" = some (some (.ref Jr)))
  (XS:K.lookup Jr=some ⟨ard,asf,.func (aQ "same_kinds" "same_kinds" (aR wO) (aO wO) (az wO) .none ahv afn ajo acM QO aem),avM⟩)
  (Pg:bX K QO "same_kinds" = true)
  (Wz:bO K (.ref Jr)=true)
  (a14:bN K bx "neighbours_unlike" = some (some (.ref Js)))
  (XT:K.lookup Js=some ⟨arf,ash,.func (aQ "neighbours_unlike" "neighbours_unlike" (aR wL) (aO wL) (az wL) .none ahw afo ajp acN QS aen),avN⟩)
  (uL:bX K QS "neighbours_unlike" = true)
  (WA:bO K (.ref Js)=true)
  (a15:bN K bx "stand_apart" = some (some (.ref Jt)))
  (XU:K.lookup Jt=some ⟨arh,asi,.func (aQ "stand_apart" "stand_apart" (aR wR) (aO wR) (az wR) .none ahx afp ajq acO QT aeo),avO⟩)
  (Ph:bX K QT "stand_apart" = true)
  (WB:bO K (.ref Jt)=true)
  (a16:bN K bx "needed_length" = some (some (.ref Ju)))
  (XV:K.lookup Ju=some ⟨ari,asj,.func (aQ "needed_length" "needed_length" (aR wK) (aO wK) (az wK) .none ahy afq ajr acP QU aep),avP⟩)
  (Pj:bX K QU "needed_length" = true)
  (WC:bO K (.ref Ju)=true)
  (a17:bN K bx "is_pair" = some (some (.ref Jv)))
  (XW:K.lookup Jv=some ⟨arj,asl,.func (aQ "is_pair" "is_pair" (aR ww) (aO ww) (az ww) .none ahz afr ajs acQ QV aer),avQ⟩)
  (Pk:bX K QV "is_pair" = true)
  (WD:bO K (.ref Jv)=true)
  (a18:bN K bx "are_pairs" = some (some (.ref Jw)))
  (XX:K.lookup Jw=some ⟨ark,asm,.func (aQ "are_pairs" "are_pairs" (aR sY) (aO sY) (az sY) .none ahA afs ajt acR QW aes),avR⟩)
  (Pn:bX K QW "are_pairs" = true)
  (WE:bO K (.ref Jw)=true)
  (a19:bN K bx "none_left_to_pair" = some (some (.ref Jx)))
  (XY:K.lookup Jx=some ⟨arl,asn,.func (aQ "none_left_to_pair" "none_left_to_pair" (aR tF) (aO tF) (az tF) .none ahB aft aju acS QX aet),avS⟩)
  (Po:bX K QX "none_left_to_pair" = true)
  (WF:bO K (.ref Jx)=true)
  (a20:bN K bx "is_group" = some (some (.ref Jy)))
  (XZ:K.lookup Jy=some ⟨arn,aso,.func (aQ "is_group" "is_group" (aR wm) (aO wm) (az wm) .none ahC afu ajv acT QZ aeu),avT⟩)
  (Pp:bX K QZ "is_group" = true)
  (WG:bO K (.ref Jy)=true)
  (a21:bN K bx "are_groups" = some (some (.ref Jz)))
  (X0:K.lookup Jz=some ⟨aro,asp,.func (aQ "are_groups" "are_groups" (aR sX) (aO sX) (az sX) .none ahD afv ajw acU Q0 aev),avU⟩)
  (c21:bX K Q0 "are_groups" = true)
  (WH:bO K (.ref Jz)=true)
  (a22:bN K bx "joined" = some (some (.ref JA)))
  (X3:K.lookup JA=some ⟨arp,asq,.func (aQ "joined" "joined" (aR wA) (aO wA) (az wA) .none ahE afw ajx acV Q3 aew),avV⟩)
  (Pq:bX K Q3 "joined" = true)
  (WI:bO K (.ref JA)=true)
  (a23:bN K bx "lie_in" = some (some (.ref JB)))
  (X4:K.lookup JB=some ⟨arq,asr,.func (aQ "lie_in" "lie_in" (aR wF) (aO wF) (az wF) .none ahF afx ajy acW Q4 aex),avW⟩)
  (Pr:bX K Q4 "lie_in" = true)
  (WJ:bO K (.ref JB)=true)
  (a24:bN K bx "can_be_made" = some (some (.ref JC)))
  (X5:K.lookup JC=some ⟨ars,asu,.func (aQ "can_be_made" "can_be_made" (aR tw) (aO tw) (az tw) .none ahG afy ajz acX Q5 aey),avX⟩)
  (Pu:bX K Q5 "can_be_made" = true)
  (WK:bO K (.ref JC)=true)
  (a25:bN K bx "shortest_order" = some (some (.ref JD)))
  (X6:K.lookup JD=some ⟨art,asv,.func (aQ "shortest_order" "shortest_order" (aR wP) (aO wP) (az wP) .none ahH afz ajA acY Q6 aez),avY⟩)
  (Pw:bX K Q6 "shortest_order" = true)
  (WL:bO K (.ref JD)=true)
  (a26:bN K bx "spaced" = some (some (.ref JE)))
  (X7:K.lookup JE=some ⟨aru,asw,.func (aQ "spaced" "spaced" (aR wQ) (aO wQ) (az wQ) .none ahI afA ajB acZ Q7 aeA),avZ⟩)
  (Px:bX K Q7 "spaced" = true)
  (WM:bO K (.ref JE)=true)
  (a27:bN K bx "paired" = some (some (.ref JF)))
  (X8:K.lookup JF=some ⟨arv,asx,.func (aQ "paired" "paired" (aR wM) (aO wM) (az wM) .none ahJ afB ajC ac0 Q8 aeB),av0⟩)
  (Py:bX K Q8 "paired" = true)
  (WN:bO K (.ref JF)=true)
  (a28:bN K bx "most_groups" = some (some (.ref JG)))
  (Yb:K.lookup JG=some ⟨arw,asy,.func (aQ "most_groups" "most_groups" (aR wI) (aO wI) (az wI) .none ahK afC ajD ac1 Q9 aeC),av1⟩)
  (Pz:bX K Q9 "most_groups" = true)
  (WO:bO K (.ref JG)=true)
  (a29:bN K bx "usable_things" = some (some (.ref JH)))
  (Yc:K.lookup JH=some ⟨arx,asz,.func (aQ "usable_things" "usable_things" (aR wW) (aO wW) (az wW) .none ahL afD ajE ac2 Ra aeD),av2⟩)
  (PB:bX K Ra "usable_things" = true)
  (WP:bO K (.ref JH)=true)
  (a30:bN K bx "grouped" = some (some (.ref JI)))
  (Yd:K.lookup JI=some ⟨arz,asA,.func (aQ "grouped" "grouped" (aR tD) (aO tD) (az tD) .none ahM afE ajF ac3 Rc aeE),av3⟩)
  (PF:bX K Rc "grouped" = true)
  (WQ:bO K (.ref JI)=true)
  (a31:bN K bx "kind_beyond" = some (some (.ref JJ)))
  (Ye:K.lookup JJ=some ⟨arA,asB,.func (aQ "kind_beyond" "kind_beyond" (aR wD) (aO wD) (az wD) .none ahN afF ajG ac4 Re aeF),av4⟩)
  (PL:bX K Re "kind_beyond" = true)
  (WR:bO K (.ref JJ)=true)
  (a32:bN K bx "kind_barring_row" = some (some (.ref JK)))
  (Yg:K.lookup JK=some ⟨arB,asC,.func (aQ "kind_barring_row" "kind_barring_row" (aR wC) (aO wC) (az wC) .none ahO afG ajH ac5 Rf aeG),av5⟩)
  (PM:bX K Rf "kind_barring_row" = true)
  (WS:bO K (.ref JK)=true)
  (a33:bN K bx "kind_barring_ring" = some (some (.ref JL)))
  (Yh:K.lookup JL=some ⟨arC,asD,.func (aQ "kind_barring_ring" "kind_barring_ring" (aR wB) (aO wB) (az wB) .none ahP afH ajI ac6 Rg aeH),av6⟩)
  (PN:bX K Rg "kind_barring_ring" = true)
  (WT:bO K (.ref JL)=true)
  (a34:bN K bx "in_turn" = some (some (.ref JM)))
  (Yi:K.lookup JM=some ⟨arD,asE,.func (aQ "in_turn" "in_turn" (aR wl) (aO wl) (az wl) .none ahQ afI ajJ ac7 Rh aeI),av7⟩)
  (PR:bX K Rh "in_turn" = true)
  (WU:bO K (.ref JM)=true)
  (a35:bN K bx "unlike_order" = some (some (.ref JN)))
  (Yj:K.lookup JN=some ⟨arE,asF,.func (aQ "unlike_order" "unlike_order" (aR wV) (aO wV) (az wV) .none ahR afJ ajK ac8 Ri aeJ),av8⟩)
  (PU:bX K Ri "unlike_order" = true)
  (WV:bO K (.ref JN)=true)
  (a36:bN K bx "unlike" = some (some (.ref JO)))
  (Yk:K.lookup JO=some ⟨arF,asG,.func (aQ "unlike" "unlike" (aR wU) (aO wU) (az wU) .none ahS afK ajL ac9 Rj aeK),av9⟩)
  (PV:bX K Rj "unlike" = true)
  (WW:bO K (.ref JO)=true)
  (a37:bN K bx "ringed" = some (some (.ref JP)))
  (Yl:K.lookup JP=some ⟨arG,asH,.func (aQ "ringed" "ringed" (aR wN) (aO wN) (az wN) .none ahT afL ajM ada Rk aeL),av'⟩)
  (PX:bX K Rk "ringed" = true)
  (WX:bO K (.ref JP)=true)
  (a38:bN K bx "_law_cell_at" = some (some (.ref JQ)))
  (Ym:K.lookup JQ=some ⟨arH,asI,.func (aQ "_law_cell_at" "_law_cell_at" (aR vU) (aO vU) (az vU) .none ahU afM ajN adb Rl aeM),awa⟩)
  (PY:bX K Rl "_law_cell_at" = true)
  (WY:bO K (.ref JQ)=true)
  (a39:bN K bx "_law_draw" = some (some (.ref JR)))
  (Yn:K.lookup JR=some ⟨arI,asJ,.func (aQ "_law_draw" "_law_draw" (aR vV) (aO vV) (az vV) .none ahV afN ajO adc Rm aeN),awb⟩)
  (PZ:bX K Rm "_law_draw" = true)
  (WZ:bO K (.ref JR)=true)
  (a40:bN K bx "_law_heap" = some (some (.ref JS)))
  (Yo:K.lookup JS=some ⟨arJ,asK,.func (aQ "_law_heap" "_law_heap" (aR vY) (aO vY) (az vY) .none ahW afO ajP ade Ro aeO),awc⟩)
  (P0:bX K Ro "_law_heap" = true)
  (W0:bO K (.ref JS)=true)
  (a41:bN K bx "_law_many" = some (some (.ref JT)))
  (Yp:K.lookup JT=some ⟨arK,asL,.func (aQ "_law_many" "_law_many" (aR vZ) (aO vZ) (az vZ) .none ahX afP ajQ adf Rp aeP),awd⟩)
  (P1:bX K Rp "_law_many" = true)
  (W1:bO K (.ref JT)=true)
  (a42:bN K bx "_law_most" = some (some (.ref JU)))
  (Yq:K.lookup JU=some ⟨arL,asM,.func (aQ "_law_most" "_law_most" (aR sV) (aO sV) (az sV) .none ahY afQ ajR adg Rq aeQ),awe⟩)
  (P4:bX K Rq "_law_most" = true)
  (W2:bO K (.ref JU)=true)
  (a43:bN K bx "_law_says" = some (some (.ref JV)))
  (Yr:K.lookup JV=some ⟨arM,asN,.func (aQ "_law_says" "_law_says" (aR wg) (aO wg) (az wg) .none ahZ afR ajS adh Rr aeR),awf⟩)
  (P5:bX K Rr "_law_says" = true)
  (W3:bO K (.ref JV)=true)
  (a44:bN K bx "_law_bent" = some (some (.ref JW)))
  (Ys:K.lookup JW=some ⟨arN,asO,.func (aQ "_law_bent" "_law_bent" (aR vR) (aO vR) (az vR) .none ah0 afS ajT adi Rs aeS),awg⟩)
  (P6:bX K Rs "_law_bent" = true)
  (W4:bO K (.ref JW)=true)
  (a45:bN K bx "_law_unlike" = some (some (.ref JX)))
  (Yt:K.lookup JX=some ⟨arO,asP,.func (aQ "_law_unlike" "_law_unlike" (aR sW) (aO sW) (az sW) .none ah1 afT ajU adk Rt aeT),awh⟩)
  (P7:bX K Rt "_law_unlike" = true)
  (W5:bO K (.ref JX)=true)
  (a46:bN K bx "_law_rows_right" = some (some (.ref JY)))
  (Yu:K.lookup JY=some ⟨arP,asQ,.func (aQ "_law_rows_right" "_law_rows_right" (aR we) (aO we) (az we) .none ah2 afU ajV adl Ru aeU),awi⟩)
  (P8:bX K Ru "_law_rows_right" = true)
  (W6:bO K (.ref JY)=true)
  (a47:bN K bx "_law_spaced" = some (some (.ref JZ)))
  (Yv:K.lookup JZ=some ⟨arQ,asR,.func (aQ "_law_spaced" "_law_spaced" (aR qH) (aO qH) (az qH) .none ah3 afV ajW adm Rv aeV),awj⟩)
  (P9:bX K Rv "_law_spaced" = true)
  (W7:bO K (.ref JZ)=true)
  (a48:bN K bx "_law_gaps_right" = some (some (.ref J0)))
  (Yw:K.lookup J0=some ⟨arR,asS,.func (aQ "_law_gaps_right" "_law_gaps_right" (aR vX) (aO vX) (az vX) .none ah4 afW ajX adn Rw aeW),awk⟩)
  (Qa:bX K Rw "_law_gaps_right" = true)
  (W8:bO K (.ref J0)=true)
  (a49:bN K bx "_law_paired" = some (some (.ref J8)))
  (Yx:K.lookup J8=some ⟨arS,asT,.func (aQ "_law_paired" "_law_paired" (aR qG) (aO qG) (az qG) .none ah5 afX ajY ado Rx aeX),awl⟩)
  (Qc:bX K Rx "_law_paired" = true)
  (W9:bO K (.ref J8)=true)
  (a50:bN K bx "_law_pairs_right" = some (some (.ref J9)))
  (Yy:K.lookup J9=some ⟨arT,asU,.func (aQ "_law_pairs_right" "_law_pairs_right" (aR wc) (aO wc) (az wc) .none ah6 afY ajZ adp Rz aeY),awm⟩)
  (Qd:bX K Rz "_law_pairs_right" = true)
  (Xb:bO K (.ref J9)=true)
  (a51:bN K bx "_law_grouped" = some (some (.ref J')))
  (Yz:K.lookup J'=some ⟨arU,asV,.func (aQ "_law_grouped" "_law_grouped" (aR qE) (aO qE) (az qE) .none ah7 afZ aj0 adq RA aeZ),awn⟩)
  (Qe:bX K RA "_law_grouped" = true)
  (Xc:bO K (.ref J')=true)
  (a52:bN K bx "_law_groups_right" = some (some (.ref Ka)))
  (YA:K.lookup Ka=some ⟨arV,asW,.func (aQ "_law_groups_right" "_law_groups_right" (aR qF) (aO qF) (az qF) .none ah8 af0 aj1 ads RB ae0),awo⟩)
  (Qf:bX K RB "_law_groups_right" = true)
  (Xd:bO K (.ref Ka)=true)
  (a53:bN K bx "_law_few_right" = some (some (.ref Kc)))
  (YB:K.lookup Kc=some ⟨arW,asX,.func (aQ "_law_few_right" "_law_few_right" (aR vW) (aO vW) (az vW) .none ah9 af1 aj2 adt RC ae1),awp⟩)
  (Qg:bX K RC "_law_few_right" = true)
  (Xg:bO K (.ref Kc)=true)
  (a54:bN K bx "law" = some (some (.ref TU)))
  (YC:K.lookup TU=some ⟨arX,asY,.func (aQ "law" "law" (aR pP) (aO pP) (az pP) .none Xq Tw ZW OY Ja RZ),awq⟩)
  (Qh:bX K Ja "law" = true)
  (Xh:bO K (.ref TU)=true)
  (OB:bN K bx "Answer" = some (some (.ref xr)))
  (OG:bN K bx "Row" = some (some (.ref gC)))
  (ZS:uC K gC Bc=true)
  (Vt:xK K gC=true)
  (Z1:zB K gC=true)
  (aae:dN K (.ref gC) "__setattr__" = some (some (.builtin "object.__setattr__")))
  (QB:dN K (.ref gC) "__class__" = some (some (.builtin "object.__class__")))
  (Zi:zA K gC (.type "object")=some true)
  (Zw:dN K (.ref gC) "kinds" = some none)
  (OF:bN K bx "Ring" = some (some (.ref gB)))
  (ZR:uC K gB Bc=true)
  (Vs:xK K gB=true)
  (Z0:zB K gB=true)
  (aad:dN K (.ref gB) "__setattr__" = some (some (.builtin "object.__setattr__")))
  (QA:dN K (.ref gB) "__class__" = some (some (.builtin "object.__class__")))
  (Zh:zA K gB (.type "object")=some true)
  (Zv:dN K (.ref gB) "kinds" = some none)
  (OD:bN K bx "Much" = some (some (.ref fY)))
  (ZP:uC K fY Bc=true)
  (Vq:xK K fY=true)
  (ZY:zB K fY=true)
  (aab:dN K (.ref fY) "__setattr__" = some (some (.builtin "object.__setattr__")))
  (Qy:dN K (.ref fY) "__class__" = some (some (.builtin "object.__class__")))
  (Zf:zA K fY (.type "object")=some true)
  (Zs:dN K (.ref fY) "kind" = some none)
  (OH:bN K bx "Spaced" = some (some (.ref gD)))
  (ZT:uC K gD Bc=true)
  (Vu:xK K gD=true)
  (Z2:zB K gD=true)
  (aaf:dN K (.ref gD) "__setattr__" = some (some (.builtin "object.__setattr__")))
  (QC:dN K (.ref gD) "__class__" = some (some (.builtin "object.__class__")))
  (Zj:zA K gD (.type "object")=some true)
  (Zx:dN K (.ref gD) "kinds" = some none)
  (OE:bN K bx "Paired" = some (some (.ref gk)))
  (ZQ:uC K gk Bc=true)
  (Vr:xK K gk=true)
  (ZZ:zB K gk=true)
  (aac:dN K (.ref gk) "__setattr__" = some (some (.builtin "object.__setattr__")))
  (Qz:dN K (.ref gk) "__class__" = some (some (.builtin "object.__class__")))
  (Zg:zA K gk (.type "object")=some true)
  (Zu:dN K (.ref gk) "pairs" = some none)
  (Zt:dN K (.ref gk) "left" = some none)
  (OC:bN K bx "Grouped" = some (some (.ref gA)))
  (ZO:uC K gA Bc=true)
  (Vp:xK K gA=true)
  (ZX:zB K gA=true)
  (aaa:dN K (.ref gA) "__setattr__" = some (some (.builtin "object.__setattr__")))
  (Qx:dN K (.ref gA) "__class__" = some (some (.builtin "object.__class__")))
  (Ze:zA K gA (.type "object")=some true)
  (Zr:dN K (.ref gA) "groups" = some none)
  (sg:acy K (.builtin "object.__class__") "__get__" = some (some (.builtin "getset_descriptor.__get__")))
  (tg:acA K (.builtin "object.__class__")=some true)
  (OJ:dN K (.ref gC) "__init__" = some (some (.ref D7)))
  (We:lH K (.ref D7)=true)
  (YD:K.lookup D7=some ⟨arY,asZ,.func (aQ "__init__" "Row.__init__" (aR vO) (aO vO) (az vO) .none ah' af2 aj3 adu RD ae2),awr⟩)
  (Qi:bX K RD "Row.__init__" = true)
  (Xi:bO K (.ref D7)=true)
  (Zb:zy K gC=true)
  (XD:bO K (.ref gC)=true)
  (OL:dN K (.ref gC) "shows" = some (some (.ref D8)))
  (Wf:lH K (.ref D8)=true)
  (YE:K.lookup D8=some ⟨arZ,as3,.func (aQ "shows" "Row.shows" (aR vP) (aO vP) (az vP) .none aia af3 aj4 adv RE ae3),aws⟩)
  (Qj:bX K RE "Row.shows" = true)
  (Lz:bO K (.ref D8)=true)
  (OM:dN K (.ref gB) "__init__" = some (some (.ref D9)))
  (Wg:lH K (.ref D9)=true)
  (YF:K.lookup D9=some ⟨ar0,as4,.func (aQ "__init__" "Ring.__init__" (aR vM) (aO vM) (az vM) .none aib af4 aj5 adw RH ae4),awt⟩)
  (Qk:bX K RH "Ring.__init__" = true)
  (Xj:bO K (.ref D9)=true)
  (Za:zy K gB=true)
  (XC:bO K (.ref gB)=true)
  (ON:dN K (.ref gB) "shows" = some (some (.ref Ea)))
  (Wh:lH K (.ref Ea)=true)
  (YG:K.lookup Ea=some ⟨ar1,as5,.func (aQ "shows" "Ring.shows" (aR vN) (aO vN) (az vN) .none aic af5 aj6 adx RI ae5),awu⟩)
  (Ql:bX K RI "Ring.shows" = true)
  (LA:bO K (.ref Ea)=true)
  (OO:dN K (.ref fY) "__init__" = some (some (.ref Eb)))
  (Wi:lH K (.ref Eb)=true)
  (YH:K.lookup Eb=some ⟨ar2,as6,.func (aQ "__init__" "Much.__init__" (aR vG) (aO vG) (az vG) .none aid af6 aj7 ady RJ ae6),awv⟩)
  (Qm:bX K RJ "Much.__init__" = true)
  (Xl:bO K (.ref Eb)=true)
  (Y8:zy K fY=true)
  (Xx:bO K (.ref fY)=true)
  (OP:dN K (.ref fY) "surplus" = some (some (.ref Ec)))
  (Wj:lH K (.ref Ec)=true)
  (YI:K.lookup Ec=some ⟨ar3,as7,.func (aQ "surplus" "Much.surplus" (aR vJ) (aO vJ) (az vJ) .none aie af7 aj8 adz RL ae7),aww⟩)
  (Qn:bX K RL "Much.surplus" = true)
  (LB:bO K (.ref Ec)=true)
  (OQ:dN K (.ref fY) "shows" = some (some (.ref Ed)))
  (Wk:lH K (.ref Ed)=true)
  (YJ:K.lookup Ed=some ⟨ar4,as8,.func (aQ "shows" "Much.shows" (aR vI) (aO vI) (az vI) .none aif af8 aj9 adA RM ae8),awx⟩)
  (Qo:bX K RM "Much.shows" = true)
  (LC:bO K (.ref Ed)=true)
  (OR:dN K (.ref fY) "bars_ring" = some (some (.ref Ef)))
  (Wl:lH K (.ref Ef)=true)
  (YK:K.lookup Ef=some ⟨ar5,as9,.func (aQ "bars_ring" "Much.bars_ring" (aR vH) (aO vH) (az vH) .none aih af9 aj' adB RN ae9),awy⟩)
  (Qp:bX K RN "Much.bars_ring" = true)
  (LD:bO K (.ref Ef)=true)
  (OS:dN K (.ref gD) "__init__" = some (some (.ref Eg)))
  (Wm:lH K (.ref Eg)=true)
  (YL:K.lookup Eg=some ⟨ar6,ata,.func (aQ "__init__" "Spaced.__init__" (aR vQ) (aO vQ) (az vQ) .none aii af' aka adC RO ae'),awz⟩)
  (Qq:bX K RO "Spaced.__init__" = true)
  (Xm:bO K (.ref Eg)=true)
  (Zc:zy K gD=true)
  (XE:bO K (.ref gD)=true)
  (OT:dN K (.ref gD) "shows" = some (some (.ref Eh)))
  (Wn:lH K (.ref Eh)=true)
  (YM:K.lookup Eh=some ⟨ar7,atb,.func (aQ "shows" "Spaced.shows" (aR sU) (aO sU) (az sU) .none aij aga akb adD RP afa),awA⟩)
  (Qs:bX K RP "Spaced.shows" = true)
  (LG:bO K (.ref Eh)=true)
  (OU:dN K (.ref gk) "__init__" = some (some (.ref Ei)))
  (Wo:lH K (.ref Ei)=true)
  (YN:K.lookup Ei=some ⟨ar8,atc,.func (aQ "__init__" "Paired.__init__" (aR vK) (aO vK) (az vK) .none aik agb akc adE RQ afb),awB⟩)
  (Qt:bX K RQ "Paired.__init__" = true)
  (Xn:bO K (.ref Ei)=true)
  (Y9:zy K gk=true)
  (XA:bO K (.ref gk)=true)
  (OV:dN K (.ref gk) "shows" = some (some (.ref Ej)))
  (Wp:lH K (.ref Ej)=true)
  (YO:K.lookup Ej=some ⟨ar9,atd,.func (aQ "shows" "Paired.shows" (aR vL) (aO vL) (az vL) .none ail agc akd adF RS afc),awC⟩)
  (Qu:bX K RS "Paired.shows" = true)
  (LH:bO K (.ref Ej)=true)
  (OW:dN K (.ref gA) "__init__" = some (some (.ref Ek)))
  (Wq:lH K (.ref Ek)=true)
  (YQ:K.lookup Ek=some ⟨ar',ate,.func (aQ "__init__" "Grouped.__init__" (aR vE) (aO vE) (az vE) .none aim agd ake adG RT afd),awD⟩)
  (Qv:bX K RT "Grouped.__init__" = true)
  (Xo:bO K (.ref Ek)=true)
  (Y7:zy K gA=true)
  (Xv:bO K (.ref gA)=true)
  (OX:dN K (.ref gA) "shows" = some (some (.ref El)))
  (Wr:lH K (.ref El)=true)
  (YR:K.lookup El=some ⟨asa,atf,.func (aQ "shows" "Grouped.shows" (aR vF) (aO vF) (az vF) .none ain age akf adH RU afe),awE⟩)
  (Qw:bX K RU "Grouped.shows" = true)
  (LI:bO K (.ref El)=true)
  (GN:bz K (.ref gC) (.ref xr)=some true)
  (Cy:bz K (.ref gC) (.ref gC)=some true)
  (GU:bz K (.ref gC) (.ref gB)=some false)
  (GP:bz K (.ref gC) (.ref fY)=some false)
  (GV:bz K (.ref gC) (.ref gD)=some false)
  (GQ:bz K (.ref gC) (.ref gk)=some false)
  (GO:bz K (.ref gC) (.ref gA)=some false)
  (GF:bz K (.ref gB) (.ref xr)=some true)
  (GK:bz K (.ref gB) (.ref gC)=some false)
  (Cw:bz K (.ref gB) (.ref gB)=some true)
  (GI:bz K (.ref gB) (.ref fY)=some false)
  (GL:bz K (.ref gB) (.ref gD)=some false)
  (GJ:bz K (.ref gB) (.ref gk)=some false)
  (GH:bz K (.ref gB) (.ref gA)=some false)
  (Gq:bz K (.ref fY) (.ref xr)=some true)
  (Cv:bz K (.ref fY) (.ref gC)=some false)
  (Cu:bz K (.ref fY) (.ref gB)=some false)
  (Gs:bz K (.ref fY) (.ref fY)=some true)
  (Gv:bz K (.ref fY) (.ref gD)=some false)
  (Gu:bz K (.ref fY) (.ref gk)=some false)
  (Gr:bz K (.ref fY) (.ref gA)=some false)
  (GW:bz K (.ref gD) (.ref xr)=some true)
  (Hf:bz K (.ref gD) (.ref gC)=some false)
  (G0:bz K (.ref gD) (.ref gB)=some false)
  (GY:bz K (.ref gD) (.ref fY)=some false)
  (Hg:bz K (.ref gD) (.ref gD)=some true)
  (GZ:bz K (.ref gD) (.ref gk)=some false)
  (GX:bz K (.ref gD) (.ref gA)=some false)
  (Gw:bz K (.ref gk) (.ref xr)=some true)
  (GB:bz K (.ref gk) (.ref gC)=some false)
  (GA:bz K (.ref gk) (.ref gB)=some false)
  (Gy:bz K (.ref gk) (.ref fY)=some false)
  (GC:bz K (.ref gk) (.ref gD)=some false)
  (Gz:bz K (.ref gk) (.ref gk)=some true)
  (Gx:bz K (.ref gk) (.ref gA)=some false)
  (Gi:bz K (.ref gA) (.ref xr)=some true)
  (Go:bz K (.ref gA) (.ref gC)=some false)
  (Gn:bz K (.ref gA) (.ref gB)=some false)
  (Gk:bz K (.ref gA) (.ref fY)=some false)
  (Gp:bz K (.ref gA) (.ref gD)=some false)
  (Gm:bz K (.ref gA) (.ref gk)=some false)
  (Gj:bz K (.ref gA) (.ref gA)=some true)
  (abd:bN K bx "isinstance" = some none)
  (abb:bN K bx "int" = some none)
  (aa':bN K bx "bool" = some none)
  (abf:bN K bx "list" = some none)
  (abm:bN K bx "tuple" = some none)
  (abj:bN K bx "set" = some none)
  (aa8:bN K bx "all" = some none)
  (aa9:bN K bx "any" = some none)
  (abe:bN K bx "len" = some none)
  (abg:bN K bx "max" = some none)
  (abh:bN K bx "min" = some none)
  (abl:bN K bx "sum" = some none)
  (abk:bN K bx "sorted" = some none)
  (abi:bN K bx "range" = some none)
  (aba:bN K bx "enumerate" = some none)
  (abn:bN K bx "zip" = some none)
  (aa5:bN K bx "GREATEST_KIND" = some (some (.int 999 Ep)))
  (aa7:bN K bx "MOST_THINGS" = some (some (.int 1000000 Es)))
  (aa6:bN K bx "GREATEST_NUMBER" = some (some (.int 1000 Er)))
  (aa3:bN K bx "GAP" = some (some (.int (-1) Eo)))
  : ∃(fd:bE) (c TB:aa),PySem.W.tabIn K "commonest_first" = some (c,TB)/\K.lookup TB=none/\(∀(s:aB) (v:ao),CY s fd ⟨[v],[]⟩ [("_law_script",v)])/\∀base:bL,K.In base->base.Ns bx mg->bD l.prog w K mg base bK 8 fa fd ["_law_script"] (MX K TB):=by
 have e:=hfa.symm.trans (cz X G a54)
 cases e
 have F1:=cg (st:=wz) l1 c1 k1
 have B1:=F1.binds (ps:=["value"]) fun _ _ _ _ _ _ us hl=>iC hl fun _=>rfl
 have F2:=cg (st:=wu) l2 c2 k2
 have B2:=F2.binds (ps:=["value"]) fun _ _ _ _ _ _ us hl=>iC hl fun _=>rfl
 have F3:=cg (st:=tE) l3 c3 k3
 have B3:=F3.binds (ps:=["value"]) fun _ _ _ _ _ _ us hl=>iC hl fun _=>rfl
 have F4:=cg (st:=wj) l4 c4 k4
 have B4:=F4.binds (ps:=["value"]) fun _ _ _ _ _ _ us hl=>iC hl fun _=>rfl
 have F5:=cg (st:=wk) l5 c5 k5
 have B5:=F5.binds (ps:=["value"]) fun _ _ _ _ _ _ us hl=>iC hl fun _=>rfl
 have F6:=cg (st:=wS) l6 c6 k6
 have B6:=F6.binds (ps:=["kinds"]) fun _ _ _ _ _ _ us hl=>iC hl fun _=>rfl
 have F7:=cg (st:=wH) l7 c7 k7
 have B7:=F7.binds (ps:=["numbers"]) fun _ _ _ _ _ _ us hl=>iC hl fun _=>rfl
 have F8:=cg (st:=tG) l8 c8 k8
 have B8:=F8.binds (ps:=["numbers"]) fun _ _ _ _ _ _ us hl=>iC hl fun _=>rfl
 have F9:=cg (st:=pO) l9 c9 k9
 have B9:=F9.binds (ps:=["numbers"]) fun _ _ _ _ _ _ us hl=>iC hl fun _=>rfl
 have F10:=cg (st:=wE) XO Pe Ww
 have B10:=F10.binds (ps:=["numbers","kinds"]) fun _ _ _ _ _ _ us hl=>eO hl fun _ _=>rfl
 have F11:=cg (st:=oK) XQ Pf Wx
 have B11:=F11.binds (ps:=["value"]) fun _ _ _ _ _ _ us hl=>iC hl fun _=>rfl
 have F12:=cg (st:=sZ) XR c12 Wy
 have B12:=F12.binds (ps:=["values"]) fun _ _ _ _ _ _ us hl=>iC hl fun _=>rfl
 have F13:=cg (st:=wO) XS Pg Wz
 have B13:=F13.binds (ps:=["kinds","heap"]) fun _ _ _ _ _ _ us hl=>eO hl fun _ _=>rfl
 have F14:=cg (st:=wL) XT uL WA
 have B14:=F14.binds (ps:=["kinds"]) fun _ _ _ _ _ _ us hl=>iC hl fun _=>rfl
 have F15:=cg (st:=wR) XU Ph WB
 have B15:=F15.binds (ps:=["kinds","apart"]) fun _ _ _ _ _ _ us hl=>eO hl fun _ _=>rfl
 have F16:=cg (st:=wK) XV Pj WC
 have B16:=F16.binds (ps:=["heap","apart"]) fun _ _ _ _ _ _ us hl=>eO hl fun _ _=>rfl
 have F17:=cg (st:=ww) XW Pk WD
 have B17:=F17.binds (ps:=["value"]) fun _ _ _ _ _ _ us hl=>iC hl fun _=>rfl
 have F18:=cg (st:=sY) XX Pn WE
 have B18:=F18.binds (ps:=["values"]) fun _ _ _ _ _ _ us hl=>iC hl fun _=>rfl
 have F19:=cg (st:=tF) XY Po WF
 have B19:=F19.binds (ps:=["pairs","left"]) fun _ _ _ _ _ _ us hl=>eO hl fun _ _=>rfl
 have F20:=cg (st:=wm) XZ Pp WG
 have B20:=F20.binds (ps:=["value","size"]) fun _ _ _ _ _ _ us hl=>eO hl fun _ _=>rfl
 have F21:=cg (st:=sX) X0 c21 WH
 have B21:=F21.binds (ps:=["values","size"]) fun _ _ _ _ _ _ us hl=>eO hl fun _ _=>rfl
 have F22:=cg (st:=wA) X3 Pq WI
 have B22:=F22.binds (ps:=["parts"]) fun _ _ _ _ _ _ us hl=>iC hl fun _=>rfl
 have F23:=cg (st:=wF) X4 Pr WJ
 have B23:=F23.binds (ps:=["kinds","heap"]) fun _ _ _ _ _ _ us hl=>eO hl fun _ _=>rfl
 have F24:=cg (st:=tw) X5 Pu WK
 have B24:=F24.binds (ps:=["many","size","numbers"]) fun _ _ _ _ _ _ us hl=>yD hl fun _ _ _=>rfl
 have F25:=cg (st:=wP) X6 Pw WL
 have B25:=F25.binds (ps:=["numbers","apart"]) fun _ _ _ _ _ _ us hl=>eO hl fun _ _=>rfl
 have F26:=cg (st:=wQ) X7 Px WM
 have B26:=F26.binds (ps:=["heap","apart"]) fun _ _ _ _ _ _ us hl=>eO hl fun _ _=>rfl
 have F27:=cg (st:=wM) X8 Py WN
 have B27:=F27.binds (ps:=["heap"]) fun _ _ _ _ _ _ us hl=>iC hl fun _=>rfl
 have F28:=cg (st:=wI) Yb Pz WO
 have B28:=F28.binds (ps:=["numbers","size"]) fun _ _ _ _ _ _ us hl=>eO hl fun _ _=>rfl
 have F29:=cg (st:=wW) Yc PB WP
 have B29:=F29.binds (ps:=["numbers","many"]) fun _ _ _ _ _ _ us hl=>eO hl fun _ _=>rfl
 have F30:=cg (st:=tD) Yd PF WQ
 have B30:=F30.binds (ps:=["heap","size"]) fun _ _ _ _ _ _ us hl=>eO hl fun _ _=>rfl
 have F31:=cg (st:=wD) Ye PL WR
 have B31:=F31.binds (ps:=["numbers","bound"]) fun _ _ _ _ _ _ us hl=>eO hl fun _ _=>rfl
 have F32:=cg (st:=wC) Yg PM WS
 have B32:=F32.binds (ps:=["heap","numbers"]) fun _ _ _ _ _ _ us hl=>eO hl fun _ _=>rfl
 have F33:=cg (st:=wB) Yh PN WT
 have B33:=F33.binds (ps:=["heap","numbers"]) fun _ _ _ _ _ _ us hl=>eO hl fun _ _=>rfl
 have F34:=cg (st:=wl) Yi PR WU
 have B34:=F34.binds (ps:=["evens","odds"]) fun _ _ _ _ _ _ us hl=>eO hl fun _ _=>rfl
 have F35:=cg (st:=wV) Yj PU WV
 have B35:=F35.binds (ps:=["numbers"]) fun _ _ _ _ _ _ us hl=>iC hl fun _=>rfl
 have F36:=cg (st:=wU) Yk PV WW
 have B36:=F36.binds (ps:=["heap"]) fun _ _ _ _ _ _ us hl=>iC hl fun _=>rfl
 have F37:=cg (st:=wN) Yl PX WX
 have B37:=F37.binds (ps:=["heap"]) fun _ _ _ _ _ _ us hl=>iC hl fun _=>rfl
 have F38:=cg (st:=vU) Ym PY WY
 have B38:=F38.binds (ps:=["_law_script","_law_k"]) fun _ _ _ _ _ _ us hl=>eO hl fun _ _=>rfl
 have F39:=cg (st:=vV) Yn PZ WZ
 have B39:=F39.binds (ps:=["_law_cell","_law_k","_law_many_here"]) fun _ _ _ _ _ _ us hl=>yD hl fun _ _ _=>rfl
 have F40:=cg (st:=vY) Yo P0 W0
 have B40:=F40.binds (ps:=["_law_script"]) fun _ _ _ _ _ _ us hl=>iC hl fun _=>rfl
 have F41:=cg (st:=vZ) Yp P1 W1
 have B41:=F41.binds (ps:=["_law_heap_here"]) fun _ _ _ _ _ _ us hl=>iC hl fun _=>rfl
 have F42:=cg (st:=sV) Yq P4 W2
 have B42:=F42.binds (ps:=["_law_heap_here"]) fun _ _ _ _ _ _ us hl=>iC hl fun _=>rfl
 have F43:=cg (st:=wg) Yr P5 W3
 have B43:=F43.binds (ps:=["_law_told","_law_due"]) fun _ _ _ _ _ _ us hl=>eO hl fun _ _=>rfl
 have F44:=cg (st:=vR) Ys P6 W4
 have B44:=F44.binds (ps:=["_law_kinds","_law_cell"]) fun _ _ _ _ _ _ us hl=>eO hl fun _ _=>rfl
 have F45:=cg (st:=sW) Yt P7 W5
 have B45:=F45.binds (ps:=["_law_kinds"]) fun _ _ _ _ _ _ us hl=>iC hl fun _=>rfl
 have F46:=cg (st:=we) Yu P8 W6
 have B46:=F46.binds (ps:=["_law_heap_here","_law_cell"]) fun _ _ _ _ _ _ us hl=>eO hl fun _ _=>rfl
 have F47:=cg (st:=qH) Yv P9 W7
 have B47:=F47.binds (ps:=["_law_heap_here","_law_kinds","_law_apart"]) fun _ _ _ _ _ _ us hl=>yD hl fun _ _ _=>rfl
 have F48:=cg (st:=vX) Yw Qa W8
 have B48:=F48.binds (ps:=["_law_heap_here","_law_cell"]) fun _ _ _ _ _ _ us hl=>eO hl fun _ _=>rfl
 have F49:=cg (st:=qG) Yx Qc W9
 have B49:=F49.binds (ps:=["_law_heap_here","_law_pairs","_law_left"]) fun _ _ _ _ _ _ us hl=>yD hl fun _ _ _=>rfl
 have F50:=cg (st:=wc) Yy Qd Xb
 have B50:=F50.binds (ps:=["_law_heap_here","_law_cell"]) fun _ _ _ _ _ _ us hl=>eO hl fun _ _=>rfl
 have F51:=cg (st:=qE) Yz Qe Xc
 have B51:=F51.binds (ps:=["_law_heap_here","_law_groups","_law_size"]) fun _ _ _ _ _ _ us hl=>yD hl fun _ _ _=>rfl
 have F52:=cg (st:=qF) YA Qf Xd
 have B52:=F52.binds (ps:=["_law_heap_here","_law_cell"]) fun _ _ _ _ _ _ us hl=>eO hl fun _ _=>rfl
 have F53:=cg (st:=vW) YB Qg Xg
 have B53:=F53.binds (ps:=[]) fun _ _ _ _ _ _ us hl=>le0 hl rfl
 have F54:=cg (st:=pP) YC Qh Xh
 have B54:=F54.binds (ps:=["_law_script"]) fun _ _ _ _ _ _ us hl=>iC hl fun _=>rfl
 have F55:=cg (st:=vO) YD Qi Xi
 have B55:=F55.binds (ps:=["self","kinds"]) fun _ _ _ _ _ _ us hl=>eO hl fun _ _=>rfl
 have F56:=cg (st:=vP) YE Qj Lz
 have B56:=F56.binds (ps:=["self","heap"]) fun _ _ _ _ _ _ us hl=>eO hl fun _ _=>rfl
 have F57:=cg (st:=vM) YF Qk Xj
 have B57:=F57.binds (ps:=["self","kinds"]) fun _ _ _ _ _ _ us hl=>eO hl fun _ _=>rfl
 have F58:=cg (st:=vN) YG Ql LA
 have B58:=F58.binds (ps:=["self","heap"]) fun _ _ _ _ _ _ us hl=>eO hl fun _ _=>rfl
 have F59:=cg (st:=vG) YH Qm Xl
 have B59:=F59.binds (ps:=["self","kind"]) fun _ _ _ _ _ _ us hl=>eO hl fun _ _=>rfl
 have F60:=cg (st:=vJ) YI Qn LB
 have B60:=F60.binds (ps:=["self","heap"]) fun _ _ _ _ _ _ us hl=>eO hl fun _ _=>rfl
 have F61:=cg (st:=vI) YJ Qo LC
 have B61:=F61.binds (ps:=["self","heap"]) fun _ _ _ _ _ _ us hl=>eO hl fun _ _=>rfl
 have F62:=cg (st:=vH) YK Qp LD
 have B62:=F62.binds (ps:=["self","heap"]) fun _ _ _ _ _ _ us hl=>eO hl fun _ _=>rfl
 have F63:=cg (st:=vQ) YL Qq Xm
 have B63:=F63.binds (ps:=["self","kinds"]) fun _ _ _ _ _ _ us hl=>eO hl fun _ _=>rfl
 have F64:=cg (st:=sU) YM Qs LG
 have B64:=F64.binds (ps:=["self","heap","apart"]) fun _ _ _ _ _ _ us hl=>yD hl fun _ _ _=>rfl
 have F65:=cg (st:=vK) YN Qt Xn
 have B65:=F65.binds (ps:=["self","pairs","left"]) fun _ _ _ _ _ _ us hl=>yD hl fun _ _ _=>rfl
 have F66:=cg (st:=vL) YO Qu LH
 have B66:=F66.binds (ps:=["self","heap"]) fun _ _ _ _ _ _ us hl=>eO hl fun _ _=>rfl
 have F67:=cg (st:=vE) YQ Qv Xo
 have B67:=F67.binds (ps:=["self","groups"]) fun _ _ _ _ _ _ us hl=>eO hl fun _ _=>rfl
 have F68:=cg (st:=vF) YR Qw LI
 have B68:=F68.binds (ps:=["self","heap","size"]) fun _ _ _ _ _ _ us hl=>yD hl fun _ _ _=>rfl
 have T:Txt K mg {
   Uv:=f1,
   S4:=(aQ "is_whole" "is_whole" (aR wz) (aO wz) (az wz) .none kV1 dc1 sP an1 QK ct1),
   Ut:=f2,
   SY:=(aQ "is_kind" "is_kind" (aR wu) (aO wu) (az wu) .none kV2 dc2 sQ an2 QY ct2),
   Us:=f3,
   SX:=(aQ "is_heap" "is_heap" (aR tE) (aO tE) (az tE) .none kV3 dc3 pm3 an3 Rb ct3),
   Ul:=f4,
   SO:=(aQ "check_heap" "check_heap" (aR wj) (aO wj) (az wj) .none kV4 dc4 pm4 an4 Rn ct4),
   Um:=f5,
   SQ:=(aQ "check_number" "check_number" (aR wk) (aO wk) (az wk) .none kV5 dc5 pm5 an5 Ry ct5),
   UN:=f6,
   Tq:=(aQ "tally" "tally" (aR wS) (aO wS) (az wS) .none kV6 dc6 pm6 an6 RK ct6),
   UC:=f7,
   Td:=(aQ "most_alike" "most_alike" (aR wH) (aO wH) (az wH) .none kV7 dc7 pm7 an7 RV ct7),
   Kz:=f8,
   Jf:=(aQ "top_kinds" "top_kinds" (aR tG) (aO tG) (az tG) .none kV8 dc8 pm8 an8 RX ct8),
   Kw:=f9,
   SR:=(aQ "commonest_first" "commonest_first" (aR pO) (aO pO) (az pO) .none kV9 dc9 pm9 an9 (.ref BX) ct9),
   LK:=BX,qO:=Na,
   Uz:=Jo,
   S8:=(aQ "laid_out" "laid_out" (aR wE) (aO wE) (az wE) .none ahs afk ajl acJ QL aej),
   zO:=Jp,
   zM:=(aQ "copied" "copied" (aR oK) (aO oK) (az oK) .none aht afl ajm acK QM aek),
   Uj:=Jq,
   SM:=(aQ "are_whole" "are_whole" (aR sZ) (aO sZ) (az sZ) .none ahu afm ajn acL QN ael),
   UJ:=Jr,
   Tk:=(aQ "same_kinds" "same_kinds" (aR wO) (aO wO) (az wO) .none ahv afn ajo acM QO aem),
   UF:=Js,
   Tg:=(aQ "neighbours_unlike" "neighbours_unlike" (aR wL) (aO wL) (az wL) .none ahw afo ajp acN QS aen),
   UM:=Jt,
   Tp:=(aQ "stand_apart" "stand_apart" (aR wR) (aO wR) (az wR) .none ahx afp ajq acO QT aeo),
   UE:=Ju,
   Tf:=(aQ "needed_length" "needed_length" (aR wK) (aO wK) (az wK) .none ahy afq ajr acP QU aep),
   Uu:=Jv,
   S0:=(aQ "is_pair" "is_pair" (aR ww) (aO ww) (az ww) .none ahz afr ajs acQ QV aer),
   Ui:=Jw,
   SK:=(aQ "are_pairs" "are_pairs" (aR sY) (aO sY) (az sY) .none ahA afs ajt acR QW aes),
   UG:=Jx,
   Th:=(aQ "none_left_to_pair" "none_left_to_pair" (aR tF) (aO tF) (az tF) .none ahB aft aju acS QX aet),
   Ur:=Jy,
   SW:=(aQ "is_group" "is_group" (aR wm) (aO wm) (az wm) .none ahC afu ajv acT QZ aeu),
   Uh:=Jz,
   SJ:=(aQ "are_groups" "are_groups" (aR sX) (aO sX) (az sX) .none ahD afv ajw acU Q0 aev),
   Ky:=JA,
   Je:=(aQ "joined" "joined" (aR wA) (aO wA) (az wA) .none ahE afw ajx acV Q3 aew),
   UB:=JB,
   Tc:=(aQ "lie_in" "lie_in" (aR wF) (aO wF) (az wF) .none ahF afx ajy acW Q4 aex),
   Uk:=JC,
   SN:=(aQ "can_be_made" "can_be_made" (aR tw) (aO tw) (az tw) .none ahG afy ajz acX Q5 aey),
   UK:=JD,
   Tn:=(aQ "shortest_order" "shortest_order" (aR wP) (aO wP) (az wP) .none ahH afz ajA acY Q6 aez),
   UL:=JE,
   To:=(aQ "spaced" "spaced" (aR wQ) (aO wQ) (az wQ) .none ahI afA ajB acZ Q7 aeA),
   UH:=JF,
   Ti:=(aQ "paired" "paired" (aR wM) (aO wM) (az wM) .none ahJ afB ajC ac0 Q8 aeB),
   UD:=JG,
   Te:=(aQ "most_groups" "most_groups" (aR wI) (aO wI) (az wI) .none ahK afC ajD ac1 Q9 aeC),
   UQ:=JH,
   Tu:=(aQ "usable_things" "usable_things" (aR wW) (aO wW) (az wW) .none ahL afD ajE ac2 Ra aeD),
   Uo:=JI,
   SS:=(aQ "grouped" "grouped" (aR tD) (aO tD) (az tD) .none ahM afE ajF ac3 Rc aeE),
   Uy:=JJ,
   S7:=(aQ "kind_beyond" "kind_beyond" (aR wD) (aO wD) (az wD) .none ahN afF ajG ac4 Re aeF),
   Ux:=JK,
   S6:=(aQ "kind_barring_row" "kind_barring_row" (aR wC) (aO wC) (az wC) .none ahO afG ajH ac5 Rf aeG),
   Uw:=JL,
   S5:=(aQ "kind_barring_ring" "kind_barring_ring" (aR wB) (aO wB) (az wB) .none ahP afH ajI ac6 Rg aeH),
   Uq:=JM,
   SV:=(aQ "in_turn" "in_turn" (aR wl) (aO wl) (az wl) .none ahQ afI ajJ ac7 Rh aeI),
   UP:=JN,
   Tt:=(aQ "unlike_order" "unlike_order" (aR wV) (aO wV) (az wV) .none ahR afJ ajK ac8 Ri aeJ),
   UO:=JO,
   Tr:=(aQ "unlike" "unlike" (aR wU) (aO wU) (az wU) .none ahS afK ajL ac9 Rj aeK),
   UI:=JP,
   Tj:=(aQ "ringed" "ringed" (aR wN) (aO wN) (az wN) .none ahT afL ajM ada Rk aeL),
   TW:=JQ,
   Sk:=(aQ "_law_cell_at" "_law_cell_at" (aR vU) (aO vU) (az vU) .none ahU afM ajN adb Rl aeM),
   TX:=JR,
   Sl:=(aQ "_law_draw" "_law_draw" (aR vV) (aO vV) (az vV) .none ahV afN ajO adc Rm aeN),
   T8:=JS,
   Su:=(aQ "_law_heap" "_law_heap" (aR vY) (aO vY) (az vY) .none ahW afO ajP ade Ro aeO),
   T9:=JT,
   Sv:=(aQ "_law_many" "_law_many" (aR vZ) (aO vZ) (az vZ) .none ahX afP ajQ adf Rp aeP),
   Ua:=JU,
   Sw:=(aQ "_law_most" "_law_most" (aR sV) (aO sV) (az sV) .none ahY afQ ajR adg Rq aeQ),
   Ue:=JV,
   SD:=(aQ "_law_says" "_law_says" (aR wg) (aO wg) (az wg) .none ahZ afR ajS adh Rr aeR),
   TV:=JW,
   Sj:=(aQ "_law_bent" "_law_bent" (aR vR) (aO vR) (az vR) .none ah0 afS ajT adi Rs aeS),
   Ug:=JX,
   SH:=(aQ "_law_unlike" "_law_unlike" (aR sW) (aO sW) (az sW) .none ah1 afT ajU adk Rt aeT),
   Ud:=JY,
   Sz:=(aQ "_law_rows_right" "_law_rows_right" (aR we) (aO we) (az we) .none ah2 afU ajV adl Ru aeU),
   Uf:=JZ,
   SE:=(aQ "_law_spaced" "_law_spaced" (aR qH) (aO qH) (az qH) .none ah3 afV ajW adm Rv aeV),
   TZ:=J0,
   So:=(aQ "_law_gaps_right" "_law_gaps_right" (aR vX) (aO vX) (az vX) .none ah4 afW ajX adn Rw aeW),
   Ub:=J8,
   Sx:=(aQ "_law_paired" "_law_paired" (aR qG) (aO qG) (az qG) .none ah5 afX ajY ado Rx aeX),
   Uc:=J9,
   Sy:=(aQ "_law_pairs_right" "_law_pairs_right" (aR wc) (aO wc) (az wc) .none ah6 afY ajZ adp Rz aeY),
   T6:=J',
   Sq:=(aQ "_law_grouped" "_law_grouped" (aR qE) (aO qE) (az qE) .none ah7 afZ aj0 adq RA aeZ),
   T7:=Ka,
   Ss:=(aQ "_law_groups_right" "_law_groups_right" (aR qF) (aO qF) (az qF) .none ah8 af0 aj1 ads RB ae0),
   TY:=Kc,
   Sm:=(aQ "_law_few_right" "_law_few_right" (aR vW) (aO vW) (az vW) .none ah9 af1 aj2 adt RC ae1),
   UA:=fa,
   S9:=(aQ "law" "law" (aR pP) (aO pP) (az pP) .none Xq Tw ZW OY Ja RZ),
   xU:=xr,
   gK:=gC,
   gJ:=gB,
   fH:=fY,
   iz:=gD,
   gI:=gk,
   gW:=gA,
   Kr:=D7,
   Se:=(aQ "__init__" "Row.__init__" (aR vO) (aO vO) (az vO) .none ah' af2 aj3 adu RD ae2),
   Ks:=D8,
   Sf:=(aQ "shows" "Row.shows" (aR vP) (aO vP) (az vP) .none aia af3 aj4 adv RE ae3),
   Ko:=D9,
   Sc:=(aQ "__init__" "Ring.__init__" (aR vM) (aO vM) (az vM) .none aib af4 aj5 adw RH ae4),
   Kq:=Ea,
   Sd:=(aQ "shows" "Ring.shows" (aR vN) (aO vN) (az vN) .none aic af5 aj6 adx RI ae5),
   Kf:=Eb,
   R5:=(aQ "__init__" "Much.__init__" (aR vG) (aO vG) (az vG) .none aid af6 aj7 ady RJ ae6),
   Kl:=Ec,
   R8:=(aQ "surplus" "Much.surplus" (aR vJ) (aO vJ) (az vJ) .none aie af7 aj8 adz RL ae7),
   Kh:=Ed,
   R7:=(aQ "shows" "Much.shows" (aR vI) (aO vI) (az vI) .none aif af8 aj9 adA RM ae8),
   Kg:=Ef,
   R6:=(aQ "bars_ring" "Much.bars_ring" (aR vH) (aO vH) (az vH) .none aih af9 aj' adB RN ae9),
   Ku:=Eg,
   Sg:=(aQ "__init__" "Spaced.__init__" (aR vQ) (aO vQ) (az vQ) .none aii af' aka adC RO ae'),
   Kv:=Eh,
   Sh:=(aQ "shows" "Spaced.shows" (aR sU) (aO sU) (az sU) .none aij aga akb adD RP afa),
   Km:=Ei,
   R9:=(aQ "__init__" "Paired.__init__" (aR vK) (aO vK) (az vK) .none aik agb akc adE RQ afb),
   Kn:=Ej,
   Sa:=(aQ "shows" "Paired.shows" (aR vL) (aO vL) (az vL) .none ail agc akd adF RS afc),
   Kd:=Ek,
   R3:=(aQ "__init__" "Grouped.__init__" (aR vE) (aO vE) (az vE) .none aim agd ake adG RT afd),
   Ke:=El,
   R4:=(aQ "shows" "Grouped.shows" (aR vF) (aO vF) (az vF) .none ain age akf adH RU afe),
   Ep:=Ep,
   Es:=Es,
   Er:=Er,
   Eo:=Eo}:={
   fU:=⟨F1,cz X G a1,B1⟩,
   Fc:=⟨F2,cz X G a2,B2⟩,
   Fb:=⟨F3,cz X G a3,B3⟩,
   kH:=⟨F4,cz X G a4,B4⟩,
   xW:=⟨F5,cz X G a5,B5⟩,
   eV:=⟨F6,cz X G a6,B6⟩,
   qp:=⟨F7,cz X G a7,B7⟩,
   yT:=⟨F8,cz X G a8,B8⟩,
   aea:=anF l9,aee:=anz LX Mf,
   xY:=⟨F9,cz X G a9,B9⟩,
   yz:=⟨F10,cz X G a10,B10⟩,
   d7:=⟨F11,cz X G a11,B11⟩,
   gH:=⟨F12,cz X G a12,B12⟩,
   nC:=⟨F13,cz X G a13,B13⟩,
   yG:=⟨F14,cz X G a14,B14⟩,
   Hz:=⟨F15,cz X G a15,B15⟩,
   FO:=⟨F16,cz X G a16,B16⟩,
   Fd:=⟨F17,cz X G a17,B17⟩,
   DS:=⟨F18,cz X G a18,B18⟩,
   FS:=⟨F19,cz X G a19,B19⟩,
   E9:=⟨F20,cz X G a20,B20⟩,
   DR:=⟨F21,cz X G a21,B21⟩,
   joined:=⟨F22,cz X G a22,B22⟩,
   FD:=⟨F23,cz X G a23,B23⟩,
   xV:=⟨F24,cz X G a24,B24⟩,
   Hv:=⟨F25,cz X G a25,B25⟩,
   Hw:=⟨F26,cz X G a26,B26⟩,
   paired:=⟨F27,cz X G a27,B27⟩,
   FL:=⟨F28,cz X G a28,B28⟩,
   HL:=⟨F29,cz X G a29,B29⟩,
   grouped:=⟨F30,cz X G a30,B30⟩,
   yy:=⟨F31,cz X G a31,B31⟩,
   Fk:=⟨F32,cz X G a32,B32⟩,
   Fj:=⟨F33,cz X G a33,B33⟩,
   E6:=⟨F34,cz X G a34,B34⟩,
   yV:=⟨F35,cz X G a35,B35⟩,
   unlike:=⟨F36,cz X G a36,B36⟩,
   yQ:=⟨F37,cz X G a37,B37⟩,
   mU:=⟨F38,cz X G a38,B38⟩,
   dH:=⟨F39,cz X G a39,B39⟩,
   DH:=⟨F40,cz X G a40,B40⟩,
   mV:=⟨F41,cz X G a41,B41⟩,
   DI:=⟨F42,cz X G a42,B42⟩,
   cZ:=⟨F43,cz X G a43,B43⟩,
   kG:=⟨F44,cz X G a44,B44⟩,
   xO:=⟨F45,cz X G a45,B45⟩,
   DL:=⟨F46,cz X G a46,B46⟩,
   DM:=⟨F47,cz X G a47,B47⟩,
   DE:=⟨F48,cz X G a48,B48⟩,
   DJ:=⟨F49,cz X G a49,B49⟩,
   DK:=⟨F50,cz X G a50,B50⟩,
   DF:=⟨F51,cz X G a51,B51⟩,
   DG:=⟨F52,cz X G a52,B52⟩,
   DC:=⟨F53,cz X G a53,B53⟩,
   law:=⟨F54,cz X G a54,B54⟩,
   aqG:=cz X G OB,
   Cf:=cz X G OG,
   sG:=⟨ZS,Vt,Z1,aae⟩,
   HE:=⟨QB,sg,tg,Zi⟩,
   Ck:=Zw,
   yE:=cz X G OF,
   ni:=⟨ZR,Vs,Z0,aad⟩,
   HD:=⟨QA,sg,tg,Zh⟩,
   yF:=Zv,
   Ak:=cz X G OD,
   pK:=⟨ZP,Vq,ZY,aab⟩,
   HC:=⟨Qy,sg,tg,Zf⟩,
   Cj:=Zs,
   Y4:=cz X G OH,
   sH:=⟨ZT,Vu,Z2,aaf⟩,
   ayw:=⟨QC,sg,tg,Zj⟩,
   vm:=Zx,
   Y3:=cz X G OE,
   nh:=⟨ZQ,Vr,ZZ,aac⟩,
   ayv:=⟨Qz,sg,tg,Zg⟩,
   Ao:=Zu,
   An:=Zt,
   L3:=cz X G OC,
   vf:=⟨ZO,Vp,ZX,aaa⟩,
   ayu:=⟨Qx,sg,tg,Ze⟩,
   Am:=Zr,
   Ba:=⟨F55,B55⟩,
   E5:=⟨Zb,OJ,We,XD⟩,
   Dz:=⟨F56,B56⟩,
   KW:=⟨OL,Wf,Lz⟩,
   xM:=⟨F57,B57⟩,
   Ag:=⟨Za,OM,Wg,XC⟩,
   zD:=⟨F58,B58⟩,
   Bx:=⟨ON,Wh,LA⟩,
   xF:=⟨F59,B59⟩,
   Af:=⟨Y8,OO,Wi,Xx⟩,
   IF:=⟨F60,B60⟩,
   Va:=⟨OP,Wj,LB⟩,
   Oa:=⟨F61,B61⟩,
   agT:=⟨OQ,Wk,LC⟩,
   IE:=⟨F62,B62⟩,
   U':=⟨OR,Wl,LD⟩,
   IS:=⟨F63,B63⟩,
   Wd:=⟨Zc,OS,Wm,XE⟩,
   Ov:=⟨F64,B64⟩,
   agV:=⟨OT,Wn,LG⟩,
   IM:=⟨F65,B65⟩,
   Wc:=⟨Y9,OU,Wo,XA⟩,
   Oj:=⟨F66,B66⟩,
   agU:=⟨OV,Wp,LH⟩,
   C5:=⟨F67,B67⟩,
   Lr:=⟨Y7,OW,Wq,Xv⟩,
   Ic:=⟨F68,B68⟩,
   U9:=⟨OX,Wr,LI⟩,
   GN:=GN,
   Cy:=Cy,
   GU:=GU,
   GP:=GP,
   GV:=GV,
   GQ:=GQ,
   GO:=GO,
   GF:=GF,
   GK:=GK,
   Cw:=Cw,
   GI:=GI,
   GL:=GL,
   GJ:=GJ,
   GH:=GH,
   Gq:=Gq,
   Cv:=Cv,
   Cu:=Cu,
   Gs:=Gs,
   Gv:=Gv,
   Gu:=Gu,
   Gr:=Gr,
   GW:=GW,
   Hf:=Hf,
   G0:=G0,
   GY:=GY,
   Hg:=Hg,
   GZ:=GZ,
   GX:=GX,
   Gw:=Gw,
   GB:=GB,
   GA:=GA,
   Gy:=Gy,
   GC:=GC,
   Gz:=Gz,
   Gx:=Gx,
   Gi:=Gi,
   Go:=Go,
   Gn:=Gn,
   Gk:=Gk,
   Gp:=Gp,
   Gm:=Gm,
   Gj:=Gj,
   j3:=lT X G abd,
   adY:=lT X G abb,
   O6:=lT X G aa',
   gU:=lT X G abf,
   DT:=lT X G abm,
   IY:=lT X G abj,
   xR:=lT X G aa8,
   O5:=lT X G aa9,
   cW:=lT X G abe,
   IW:=lT X G abg,
   IX:=lT X G abh,
   IZ:=lT X G abl,
   mW:=lT X G abk,
   xS:=lT X G abi,
   adX:=lT X G aba,
   O7:=lT X G abn,
   aio:=cz X G aa5,
   aiq:=cz X G aa7,
   aip:=cz X G aa6,
   LJ:=cz X G aa3}
 exact⟨aQ "law" "law" (aR pP) (aO pP) (az pP) .none Xq Tw ZW OY Ja RZ,BX,Na,ayx a9 l9 rfl LX,Mf,fun s v=>.of_eq rfl,fun base _ _=>atN T⟩
theorem walk{l:acs}{q:cH}{Ce:List Str}{XP:(Str->Option ao)->bL->Prop}{YP:cj->bL->Prop}{d:DefRec}{K:Params->bG}(hn:l.most=some 63)(EE:d.params.defaults=[])
  (hY:∀(w:cj) (h:bL),YP w h->(K w.params).In h) (EY:((recsOf q).find? (fun e=>e.name == ("commonest_first" : Str))).isSome=true)
  (F:∀(w:cj) (mg:Str->Option ao) (fa:aa) (h:bL),(K w.params).In h->h.Ns bx mg->mg d.name=some (.ref fa)->
   ∃(fd:bE) (c TB:aa),PySem.W.tabIn (K w.params) "commonest_first" = some (c,TB)/\(K w.params).lookup TB=none/\(∀(s:aB) (u:ao),CY s fd ⟨[u],[]⟩ [("_law_script",u)])/\
    ∀base:bL,(K w.params).In base->base.Ns bx mg->bD l.prog w (K w.params) mg base bK 8 fa fd ["_law_script"] (MX (K w.params) TB)) :
  PySem.W.WalkO q Ce XP YP l.row.toRowW d [] (fun f vs=>acC f vs):=
 L2.ay9 (n:=63) (k:=8) (x:="_law_script") (lq:=aiv) (lp:=aiu pO) (sp:=fun w TB=>MX (K w.params) TB) hn (by decide) EE ⟨rfl,by decide,by decide⟩ hY (acd.mp EY).choose_spec F (fun _ TB H a ns hl hS hT=>⟨a,ns,rfl,hS,hl,hT,fun _ hT'=>⟨rfl,hT'⟩⟩)
end K7
open PySem PySem.W PyProof.Rows
namespace PySem.W.Fast
theorem tw10013049367836605856:0=0:=rfl
theorem tw10024159985374247649:0=0:=rfl
theorem tw10028085295250963469:0=0:=rfl
theorem tw10048424699942550476:0=0:=rfl
theorem tw10075831941875882059:0=0:=rfl
theorem tw10081216439681680805:0=0:=rfl
theorem tw10119647321436354690:0=0:=rfl
theorem tw10148995132685442715:0=0:=rfl
theorem tw10151790760811304159:0=0:=rfl
theorem tw10158789905636407911:0=0:=rfl
theorem tw1018734375315988732:0=0:=rfl
theorem tw10201375015147740158:0=0:=rfl
theorem tw10229123521584542183:0=0:=rfl
theorem tw10271289532026563951:0=0:=rfl
theorem tw10279425878859768521:0=0:=rfl
theorem tw10328947121799606308:0=0:=rfl
theorem tw10331538493162313145:0=0:=rfl
theorem tw10364592843374086507:0=0:=rfl
theorem tw10376047569242169364:0=0:=rfl
theorem tw1040578637903798395:0=0:=rfl
theorem tw10432393786112841963:0=0:=rfl
theorem tw10433900643062497408:0=0:=rfl
theorem tw10458544839862069705:0=0:=rfl
theorem tw10462902018869901117:0=0:=rfl
theorem tw10526762484198015883:0=0:=rfl
theorem tw10560460994696693134:0=0:=rfl
theorem tw10646608541232529899:0=0:=rfl
theorem tw1066905110136055126:0=0:=rfl
theorem tw10708278895621445979:0=0:=rfl
theorem tw10728884388353148550:0=0:=rfl
theorem tw10734478947780750509:0=0:=rfl
theorem tw10760602631793387182:0=0:=rfl
theorem tw10839680874210025609:0=0:=rfl
theorem tw10851182595538371563:0=0:=rfl
theorem tw10887441944008018555:0=0:=rfl
theorem tw10910452819404902025:0=0:=rfl
theorem tw10911063743007280421:0=0:=rfl
theorem tw10933185301325591028:0=0:=rfl
theorem tw10940953681801526383:0=0:=rfl
theorem tw10974070092691959661:0=0:=rfl
theorem tw11061675824206222994:0=0:=rfl
theorem tw11068898516925577078:0=0:=rfl
theorem tw11134721506700919118:0=0:=rfl
theorem tw11149734625776500278:0=0:=rfl
theorem tw11204465269067719646:0=0:=rfl
theorem tw11213756173084735482:0=0:=rfl
theorem tw11404025507189032017:0=0:=rfl
theorem tw11406130599835761202:0=0:=rfl
theorem tw11539520515188655530:0=0:=rfl
theorem tw11541906846167871399:0=0:=rfl
theorem tw11577526007142112813:0=0:=rfl
theorem tw11581154032111049554:0=0:=rfl
theorem tw1158667977748939564:0=0:=rfl
theorem tw1162586781728359246:0=0:=rfl
theorem tw11652469745469383536:0=0:=rfl
theorem tw11689957893899901962:0=0:=rfl
theorem tw11694598409816143577:0=0:=rfl
theorem tw11723079446971122134:0=0:=rfl
theorem tw11829627309854829279:0=0:=rfl
theorem tw11835576475953035607:0=0:=rfl
theorem tw11835752119283990546:0=0:=rfl
theorem tw11970392228822901240:0=0:=rfl
theorem tw12003363250131727981:0=0:=rfl
theorem tw12136939439899737684:0=0:=rfl
theorem tw12172378830303352422:0=0:=rfl
theorem tw12226228834106186617:0=0:=rfl
theorem tw12235988797850629090:0=0:=rfl
theorem tw12236764063622672547:0=0:=rfl
theorem tw12354495860743263203:0=0:=rfl
theorem tw12368206849112241869:0=0:=rfl
theorem tw12381765957362045845:0=0:=rfl
theorem tw12407153419859368700:0=0:=rfl
theorem tw12415188300500890287:0=0:=rfl
theorem tw12437693118211858282:0=0:=rfl
theorem tw12492065845109644031:0=0:=rfl
theorem tw12537582040266353331:0=0:=rfl
theorem tw12636747178689576669:0=0:=rfl
theorem tw12639840596876523048:0=0:=rfl
theorem tw12684208502542945763:0=0:=rfl
theorem tw12698768976475958956:0=0:=rfl
theorem tw12705568995647660044:0=0:=rfl
theorem tw1270917317131719039:0=0:=rfl
theorem tw12732948978667863942:0=0:=rfl
theorem tw12741981809168804301:0=0:=rfl
theorem tw12783319479890073833:0=0:=rfl
theorem tw12822075001795220807:0=0:=rfl
theorem tw12872130131443539289:0=0:=rfl
theorem tw12873012178622846176:0=0:=rfl
theorem tw12908424530562019858:0=0:=rfl
theorem tw12943052666181213780:0=0:=rfl
theorem tw12987580776508607113:0=0:=rfl
theorem tw12995361175156465240:0=0:=rfl
theorem tw13006297533332909048:0=0:=rfl
theorem tw13037320759775213003:0=0:=rfl
theorem tw13041814836666741336:0=0:=rfl
theorem tw13067026925681241204:0=0:=rfl
theorem tw13072347096555709818:0=0:=rfl
theorem tw13079795667002636455:0=0:=rfl
theorem tw13105407233771889465:0=0:=rfl
theorem tw13188169207984675596:0=0:=rfl
theorem tw13204810355390170744:0=0:=rfl
theorem tw13217569779536828616:0=0:=rfl
theorem tw13237849437897145749:0=0:=rfl
theorem tw13253784588501730298:0=0:=rfl
theorem tw13269401915711328158:0=0:=rfl
theorem tw13301731111841487166:0=0:=rfl
theorem tw13310785130030633203:0=0:=rfl
theorem tw13317877489829890288:0=0:=rfl
theorem tw13360245300973886628:0=0:=rfl
theorem tw13362827785002331150:0=0:=rfl
theorem tw13397973842866499594:0=0:=rfl
theorem tw13422466266537800813:0=0:=rfl
theorem tw13426936898172333504:0=0:=rfl
theorem tw13474170700736822209:0=0:=rfl
theorem tw13486014172021819198:0=0:=rfl
theorem tw13489349846159712683:0=0:=rfl
theorem tw13522592561331068441:0=0:=rfl
theorem tw13522927152568680333:0=0:=rfl
theorem tw13547776625431031602:0=0:=rfl
theorem tw13554342434997066726:0=0:=rfl
theorem tw13556766629758425066:0=0:=rfl
theorem tw13612126332742334299:0=0:=rfl
theorem tw13665801575821981221:0=0:=rfl
theorem tw13671038512175863930:0=0:=rfl
theorem tw1370945730184944931:0=0:=rfl
theorem tw13842789507237244481:0=0:=rfl
theorem tw13849367891407507557:0=0:=rfl
theorem tw1385264667611326295:0=0:=rfl
theorem tw13956839784846774380:0=0:=rfl
theorem tw13978436692084487817:0=0:=rfl
theorem tw13998787099138047868:0=0:=rfl
theorem tw14002233117708806583:0=0:=rfl
theorem tw14028502489744469125:0=0:=rfl
theorem tw14042036397994029304:0=0:=rfl
theorem tw14058055568730519173:0=0:=rfl
theorem tw14077939524084143484:0=0:=rfl
theorem tw14079983254755788243:0=0:=rfl
theorem tw1426533083330603638:0=0:=rfl
theorem tw14309512474536068814:0=0:=rfl
theorem tw1432377341389478879:0=0:=rfl
theorem tw14324840670624680438:0=0:=rfl
theorem tw14396510319792367311:0=0:=rfl
theorem tw14417299047309909061:0=0:=rfl
theorem tw1442846200021943395:0=0:=rfl
theorem tw14430940134899348374:0=0:=rfl
theorem tw14446004990558354286:0=0:=rfl
theorem tw14475457490035084765:0=0:=rfl
theorem tw14508179418120871685:0=0:=rfl
theorem tw14527269182797325525:0=0:=rfl
theorem tw14547385759679990053:0=0:=rfl
theorem tw14568345781897864550:0=0:=rfl
theorem tw14574553275439787229:0=0:=rfl
theorem tw14578689708378672632:0=0:=rfl
theorem tw1459558920947001843:0=0:=rfl
theorem tw14614889888612589734:0=0:=rfl
theorem tw14625633275152605259:0=0:=rfl
theorem tw14631937147188487078:0=0:=rfl
theorem tw14636955367444734723:0=0:=rfl
theorem tw14661105635499457695:0=0:=rfl
theorem tw14697948311390170855:0=0:=rfl
theorem tw14714100363965705183:0=0:=rfl
theorem tw14764303038195213723:0=0:=rfl
theorem tw14766509941988359056:0=0:=rfl
theorem tw14774346689871075530:0=0:=rfl
theorem tw14816628539461744714:0=0:=rfl
theorem tw14830970768978651308:0=0:=rfl
theorem tw14947042773117606100:0=0:=rfl
theorem tw14962647540436718660:0=0:=rfl
theorem tw14964749023519431655:0=0:=rfl
theorem tw15036299040068662320:0=0:=rfl
theorem tw15065160352427220426:0=0:=rfl
theorem tw15072633821354730764:0=0:=rfl
theorem tw15116806965839227103:0=0:=rfl
theorem tw15122677751695967505:0=0:=rfl
theorem tw15152490100530028285:0=0:=rfl
theorem tw15156217080728244717:0=0:=rfl
theorem tw15182496417650615221:0=0:=rfl
theorem tw15243029085967861264:0=0:=rfl
theorem tw15249418332806420055:0=0:=rfl
theorem tw1526613178807332291:0=0:=rfl
theorem tw15287425970722138854:0=0:=rfl
theorem tw15320453124135195256:0=0:=rfl
theorem tw15346471063635354122:0=0:=rfl
theorem tw15350027452554263062:0=0:=rfl
theorem tw15367716902849180392:0=0:=rfl
theorem tw15370114746016700981:0=0:=rfl
theorem tw15418612941813079345:0=0:=rfl
theorem tw15436014834465732120:0=0:=rfl
theorem tw15453439796312825974:0=0:=rfl
theorem tw15466670416891568945:0=0:=rfl
theorem tw15520194076440253611:0=0:=rfl
theorem tw15526468875490026901:0=0:=rfl
theorem tw15536966768774807009:0=0:=rfl
theorem tw15562611963059191523:0=0:=rfl
theorem tw15572255942972152489:0=0:=rfl
theorem tw15598109377123059088:0=0:=rfl
theorem tw15661371664501540151:0=0:=rfl
theorem tw15670208798168752781:0=0:=rfl
theorem tw15712125107199134726:0=0:=rfl
theorem tw1573346711930331666:0=0:=rfl
theorem tw15751878453001096749:0=0:=rfl
theorem tw15786109112610262398:0=0:=rfl
theorem tw15818659671268393199:0=0:=rfl
theorem tw15819417923117062902:0=0:=rfl
theorem tw15829410478149986060:0=0:=rfl
theorem tw15840908751314860751:0=0:=rfl
theorem tw15850968233943018139:0=0:=rfl
theorem tw15888545672221819744:0=0:=rfl
theorem tw15888606869449987321:0=0:=rfl
theorem tw15944556765784368836:0=0:=rfl
theorem tw15957705320359217545:0=0:=rfl
theorem tw15973729156226642973:0=0:=rfl
theorem tw16067717409990797488:0=0:=rfl
theorem tw16080056422084930851:0=0:=rfl
theorem tw16105381357899932271:0=0:=rfl
theorem tw16129346200813321543:0=0:=rfl
theorem tw16153320541020941623:0=0:=rfl
theorem tw16169563409271966545:0=0:=rfl
theorem tw16170108849817536103:0=0:=rfl
theorem tw1618782902146288507:0=0:=rfl
theorem tw1622399371010885865:0=0:=rfl
theorem tw16237279371016700658:0=0:=rfl
theorem tw16283988581931050265:0=0:=rfl
theorem tw16291217450785385067:0=0:=rfl
theorem tw163291039800368653:0=0:=rfl
theorem tw16340869646020521622:0=0:=rfl
theorem tw16346559016552544891:0=0:=rfl
theorem tw16484072799629311995:0=0:=rfl
theorem tw16489031336117579027:0=0:=rfl
theorem tw16532287783059134574:0=0:=rfl
theorem tw16555155719651299809:0=0:=rfl
theorem tw1656596026632524800:0=0:=rfl
theorem tw16572065387130029872:0=0:=rfl
theorem tw16592837128948896193:0=0:=rfl
theorem tw16594031573540466286:0=0:=rfl
theorem tw16606734268034332671:0=0:=rfl
theorem tw16607344892984062759:0=0:=rfl
theorem tw16642980854153802008:0=0:=rfl
theorem tw16715673053422013549:0=0:=rfl
theorem tw16742817755085353572:0=0:=rfl
theorem tw16761503932958285299:0=0:=rfl
theorem tw16774870241315653200:0=0:=rfl
theorem tw16839420903035830077:0=0:=rfl
theorem tw16847115523585840166:0=0:=rfl
theorem tw16850783708699500680:0=0:=rfl
theorem tw16857843342964730345:0=0:=rfl
theorem tw16866393256099776017:0=0:=rfl
theorem tw1686964842042023634:0=0:=rfl
theorem tw1688006071534854736:0=0:=rfl
theorem tw16910605212319256303:0=0:=rfl
theorem tw16919241860756502941:0=0:=rfl
theorem tw16921157425757778783:0=0:=rfl
theorem tw16994964411435698984:0=0:=rfl
theorem tw16996772075238504257:0=0:=rfl
theorem tw17011292171485358768:0=0:=rfl
theorem tw17024954411947825046:0=0:=rfl
theorem tw17030622991470592972:0=0:=rfl
theorem tw17077888340329405213:0=0:=rfl
theorem tw17078833081033356588:0=0:=rfl
theorem tw17088343217130720177:0=0:=rfl
theorem tw17129576816346209904:0=0:=rfl
theorem tw17136228946604942523:0=0:=rfl
theorem tw17161730402880498114:0=0:=rfl
theorem tw17198160802428314306:0=0:=rfl
theorem tw17224381663176686785:0=0:=rfl
theorem tw1722464247454912219:0=0:=rfl
theorem tw17237755536323963796:0=0:=rfl
theorem tw17252204290160591367:0=0:=rfl
theorem tw17319697160905127663:0=0:=rfl
theorem tw17371155238166383772:0=0:=rfl
theorem tw17388035671351893192:0=0:=rfl
theorem tw17502469410211493264:0=0:=rfl
theorem tw17556565812569787928:0=0:=rfl
theorem tw17558759143978739817:0=0:=rfl
theorem tw17587710892840894593:0=0:=rfl
theorem tw17593113851064881767:0=0:=rfl
theorem tw17635844830238025651:0=0:=rfl
theorem tw17771878466226374634:0=0:=rfl
theorem tw17805420585268004470:0=0:=rfl
theorem tw17832520818911996307:0=0:=rfl
theorem tw17868795156435025482:0=0:=rfl
theorem tw17950825454370186959:0=0:=rfl
theorem tw18016015902734170020:0=0:=rfl
theorem tw18023615682302204522:0=0:=rfl
theorem tw18113160904217920652:0=0:=rfl
theorem tw18123372076816295495:0=0:=rfl
theorem tw1813508004026925124:0=0:=rfl
theorem tw1813540621295811006:0=0:=rfl
theorem tw1816313512522187072:0=0:=rfl
theorem tw1826161689696470025:0=0:=rfl
theorem tw18387216961016102789:0=0:=rfl
theorem tw18431194058317569650:0=0:=rfl
theorem tw1990500015214287816:0=0:=rfl
theorem tw2002491186628231475:0=0:=rfl
theorem tw2088310498564614807:0=0:=rfl
theorem tw2092567424999539810:0=0:=rfl
theorem tw210265189898319482:0=0:=rfl
theorem tw2247116752458687607:0=0:=rfl
theorem tw2257512193458357919:0=0:=rfl
theorem tw2261217562863164524:0=0:=rfl
theorem tw2283053701457047588:0=0:=rfl
theorem tw2285516553700664984:0=0:=rfl
theorem tw2288426529301851212:0=0:=rfl
theorem tw2301323941643434333:0=0:=rfl
theorem tw2306094347595690746:0=0:=rfl
theorem tw2307936813243156494:0=0:=rfl
theorem tw2373869652608055169:0=0:=rfl
theorem tw2385306381241846688:0=0:=rfl
theorem tw2474902224899792993:0=0:=rfl
theorem tw2496247524012833195:0=0:=rfl
theorem tw2535012472350425199:0=0:=rfl
theorem tw2571558829007120072:0=0:=rfl
theorem tw2605340624976335128:0=0:=rfl
theorem tw2672582251108123406:0=0:=rfl
theorem tw2700320217181151578:0=0:=rfl
theorem tw2714227522995706973:0=0:=rfl
theorem tw2779352787678086717:0=0:=rfl
theorem tw281650517653288417:0=0:=rfl
theorem tw2817659104405735970:0=0:=rfl
theorem tw2829559240342703346:0=0:=rfl
theorem tw2832420070756058494:0=0:=rfl
theorem tw2847648940331052202:0=0:=rfl
theorem tw2892585778871461005:0=0:=rfl
theorem tw2929877622923960808:0=0:=rfl
theorem tw2986543631918053293:0=0:=rfl
theorem tw3019360826836531405:0=0:=rfl
theorem tw3042049425413409450:0=0:=rfl
theorem tw3110848431889610707:0=0:=rfl
theorem tw314071393075706998:0=0:=rfl
theorem tw3164792511218643432:0=0:=rfl
theorem tw3329464552669062251:0=0:=rfl
theorem tw3392965407051390937:0=0:=rfl
theorem tw3409595656989907243:0=0:=rfl
theorem tw3468185659432967490:0=0:=rfl
theorem tw3483603844149349854:0=0:=rfl
theorem tw3497501972857099958:0=0:=rfl
theorem tw3518649285876069206:0=0:=rfl
theorem tw3559140075836940655:0=0:=rfl
theorem tw3570342190948273206:0=0:=rfl
theorem tw357848865415362973:0=0:=rfl
theorem tw3761701022371538964:0=0:=rfl
theorem tw3796906270787712174:0=0:=rfl
theorem tw3821698392049578928:0=0:=rfl
theorem tw3821959715038626126:0=0:=rfl
theorem tw3898832484869263930:0=0:=rfl
theorem tw3901116485212528257:0=0:=rfl
theorem tw3915448425743986465:0=0:=rfl
theorem tw3957421231636172070:0=0:=rfl
theorem tw3972505604322389886:0=0:=rfl
theorem tw397810108846517133:0=0:=rfl
theorem tw3996018979115015946:0=0:=rfl
theorem tw4009348020597052648:0=0:=rfl
theorem tw4030103786357866451:0=0:=rfl
theorem tw4041598384258213823:0=0:=rfl
theorem tw4195414472561322321:0=0:=rfl
theorem tw4211926959255702826:0=0:=rfl
theorem tw4216420514488231825:0=0:=rfl
theorem tw4244464448865852819:0=0:=rfl
theorem tw4257236371948951946:0=0:=rfl
theorem tw4287226894877569804:0=0:=rfl
theorem tw4309662063965671437:0=0:=rfl
theorem tw4385103867092149798:0=0:=rfl
theorem tw4406965353480839224:0=0:=rfl
theorem tw4430609345311431782:0=0:=rfl
theorem tw4444859901725343334:0=0:=rfl
theorem tw4478762644470639367:0=0:=rfl
theorem tw4515312256115209356:0=0:=rfl
theorem tw4516388690543331616:0=0:=rfl
theorem tw4518060093317659657:0=0:=rfl
theorem tw457119918108417224:0=0:=rfl
theorem tw4576919829891711773:0=0:=rfl
theorem tw4598885517137980805:0=0:=rfl
theorem tw4709182693968483458:0=0:=rfl
theorem tw4720029424691104712:0=0:=rfl
theorem tw4734558666428141994:0=0:=rfl
theorem tw4734575832426082087:0=0:=rfl
theorem tw4748654663463499911:0=0:=rfl
theorem tw476327085301793808:0=0:=rfl
theorem tw4974719357337372879:0=0:=rfl
theorem tw4999749894768650502:0=0:=rfl
theorem tw5021123487158099366:0=0:=rfl
theorem tw5111654481551102613:0=0:=rfl
theorem tw521589252761264133:0=0:=rfl
theorem tw5344664914137696920:0=0:=rfl
theorem tw5357299301293405173:0=0:=rfl
theorem tw5364629459719397636:0=0:=rfl
theorem tw5381038437275677735:0=0:=rfl
theorem tw5381105140856958509:0=0:=rfl
theorem tw5397430810030022265:0=0:=rfl
theorem tw5481630777693750479:0=0:=rfl
theorem tw5523964585240079358:0=0:=rfl
theorem tw5527087825463487885:0=0:=rfl
theorem tw5553526858481630319:0=0:=rfl
theorem tw5558480783576583053:0=0:=rfl
theorem tw5601994061713920943:0=0:=rfl
theorem tw56169208213350147:0=0:=rfl
theorem tw5689385768714189948:0=0:=rfl
theorem tw5695319120264708705:0=0:=rfl
theorem tw5697885490994153686:0=0:=rfl
theorem tw5744944332944491247:0=0:=rfl
theorem tw5752042295802106880:0=0:=rfl
theorem tw5852527841415201035:0=0:=rfl
theorem tw5858574124842030687:0=0:=rfl
theorem tw5862471725198686429:0=0:=rfl
theorem tw5870252177479908333:0=0:=rfl
theorem tw5906030513050380527:0=0:=rfl
theorem tw5950557233271591873:0=0:=rfl
theorem tw5987706067817913149:0=0:=rfl
theorem tw6046826701055272319:0=0:=rfl
theorem tw6070809432377027167:0=0:=rfl
theorem tw6073205895227658025:0=0:=rfl
theorem tw6082570529749399000:0=0:=rfl
theorem tw6153943515343848109:0=0:=rfl
theorem tw6161628487753182638:0=0:=rfl
theorem tw6254928745528825339:0=0:=rfl
theorem tw6309486136430789385:0=0:=rfl
theorem tw6334087397006097600:0=0:=rfl
theorem tw6334896569911890451:0=0:=rfl
theorem tw6398973045338777149:0=0:=rfl
theorem tw6498884127093228959:0=0:=rfl
theorem tw6516344253662925880:0=0:=rfl
theorem tw6563872031291788403:0=0:=rfl
theorem tw6587976338208991385:0=0:=rfl
theorem tw6595664119345800657:0=0:=rfl
theorem tw6657874174852998849:0=0:=rfl
theorem tw6701760359247250033:0=0:=rfl
theorem tw6800522042766728559:0=0:=rfl
theorem tw6800827943114372380:0=0:=rfl
theorem tw6819565954788247137:0=0:=rfl
theorem tw6882526647664269588:0=0:=rfl
theorem tw6893760439528284664:0=0:=rfl
theorem tw6921854772442413795:0=0:=rfl
theorem tw6927416569805474187:0=0:=rfl
theorem tw6950401269081961615:0=0:=rfl
theorem tw6995263414392888064:0=0:=rfl
theorem tw7005137119717916919:0=0:=rfl
theorem tw7057665278941251922:0=0:=rfl
theorem tw7076441578694258801:0=0:=rfl
theorem tw711596548409185977:0=0:=rfl
theorem tw7130434665058950369:0=0:=rfl
theorem tw7188189619137267896:0=0:=rfl
theorem tw7193414954361548968:0=0:=rfl
theorem tw7199812051040301594:0=0:=rfl
theorem tw722557195480280749:0=0:=rfl
theorem tw7247418874912334525:0=0:=rfl
theorem tw7268176936513338119:0=0:=rfl
theorem tw7289460407183743499:0=0:=rfl
theorem tw7291098489668659338:0=0:=rfl
theorem tw7315161688045911565:0=0:=rfl
theorem tw7323132394844685331:0=0:=rfl
theorem tw7324249823695474664:0=0:=rfl
theorem tw7357658185857720326:0=0:=rfl
theorem tw7395566439790777295:0=0:=rfl
theorem tw7396604792411219923:0=0:=rfl
theorem tw7414372701193481660:0=0:=rfl
theorem tw7438463521967111014:0=0:=rfl
theorem tw7446523052843709115:0=0:=rfl
theorem tw7453983537170631114:0=0:=rfl
theorem tw7477773727058181002:0=0:=rfl
theorem tw74824260789586060:0=0:=rfl
theorem tw7543566254165822438:0=0:=rfl
theorem tw7580265796449328645:0=0:=rfl
theorem tw763944151562927829:0=0:=rfl
theorem tw7647761052862635341:0=0:=rfl
theorem tw7651727280332526080:0=0:=rfl
theorem tw7656904184304375690:0=0:=rfl
theorem tw7706989920022320633:0=0:=rfl
theorem tw7747375936193497085:0=0:=rfl
theorem tw7747740644186743294:0=0:=rfl
theorem tw7780382131033562142:0=0:=rfl
theorem tw778632278666919842:0=0:=rfl
theorem tw7823844086476945413:0=0:=rfl
theorem tw7826238426650035820:0=0:=rfl
theorem tw7844611309231842167:0=0:=rfl
theorem tw7870051852357568127:0=0:=rfl
theorem tw7879589272312227396:0=0:=rfl
theorem tw7927951778172382584:0=0:=rfl
theorem tw7966172280739032891:0=0:=rfl
theorem tw796703436120958844:0=0:=rfl
theorem tw7983655953387400189:0=0:=rfl
theorem tw8012054947180339592:0=0:=rfl
theorem tw8033374087902621858:0=0:=rfl
theorem tw8106776991109966405:0=0:=rfl
theorem tw8127340875990554956:0=0:=rfl
theorem tw819597623103075457:0=0:=rfl
theorem tw81997949365240760:0=0:=rfl
theorem tw8204680867477568292:0=0:=rfl
theorem tw8241390717596411166:0=0:=rfl
theorem tw8334073556548835198:0=0:=rfl
theorem tw8359985421893229296:0=0:=rfl
theorem tw8377904035373568588:0=0:=rfl
theorem tw8382179424250163266:0=0:=rfl
theorem tw8407567108197153972:0=0:=rfl
theorem tw843974473649003110:0=0:=rfl
theorem tw8488599425939155081:0=0:=rfl
theorem tw856122159142781145:0=0:=rfl
theorem tw8576585295540471441:0=0:=rfl
theorem tw8584937086648369036:0=0:=rfl
theorem tw8610986666890599357:0=0:=rfl
theorem tw86177087393385080:0=0:=rfl
theorem tw865900810694383573:0=0:=rfl
theorem tw8735748710005010010:0=0:=rfl
theorem tw8744419639545988655:0=0:=rfl
theorem tw8760708632147508710:0=0:=rfl
theorem tw8764207428785639825:0=0:=rfl
theorem tw8776395170428541191:0=0:=rfl
theorem tw8796819610798278432:0=0:=rfl
theorem tw8821540810416016342:0=0:=rfl
theorem tw8874218514580016109:0=0:=rfl
theorem tw8879117757174739393:0=0:=rfl
theorem tw8979752979878409339:0=0:=rfl
theorem tw8982206930379716455:0=0:=rfl
theorem tw898804835249847438:0=0:=rfl
theorem tw9100399452826348252:0=0:=rfl
theorem tw9111449859799375690:0=0:=rfl
theorem tw9121489042960154928:0=0:=rfl
theorem tw9122420591574106937:0=0:=rfl
theorem tw9163509076391538842:0=0:=rfl
theorem tw9196245166042282651:0=0:=rfl
theorem tw9202689009757095623:0=0:=rfl
theorem tw9208771801303916747:0=0:=rfl
theorem tw9248887084996641326:0=0:=rfl
theorem tw9293517701754866289:0=0:=rfl
theorem tw9304936876315223216:0=0:=rfl
theorem tw9370080690315430365:0=0:=rfl
theorem tw9372788788793979381:0=0:=rfl
theorem tw941090820345312915:0=0:=rfl
theorem tw942416942829193690:0=0:=rfl
theorem tw9463215399283217370:0=0:=rfl
theorem tw9467298608543626945:0=0:=rfl
theorem tw9479139993345836300:0=0:=rfl
theorem tw9495102421945406987:0=0:=rfl
theorem tw9507541111348468677:0=0:=rfl
theorem tw9519813526944986827:0=0:=rfl
theorem tw9543009420726886995:0=0:=rfl
theorem tw9562280858548664396:0=0:=rfl
theorem tw9577559161516536932:0=0:=rfl
theorem tw9611621772682755537:0=0:=rfl
theorem tw9615803581016159541:0=0:=rfl
theorem tw9670738573707666553:0=0:=rfl
theorem tw9693015240111811162:0=0:=rfl
theorem tw9708694673234052156:0=0:=rfl
theorem tw9743693210045138008:0=0:=rfl
theorem tw9801538295415966525:0=0:=rfl
theorem tw9845418784618740372:0=0:=rfl
theorem tw9877531478694810240:0=0:=rfl
theorem tw9879526233110115384:0=0:=rfl
theorem tw989279020647778904:0=0:=rfl
theorem tw9936546720842224478:0=0:=rfl
end PySem.W.Fast
set_option maxRecDepth 100000 in
set_option maxHeartbeats 0 in
theorem PySem.Challenge.cw_apartrow_k07_answers_by_hand_holds : PySem.Challenge.rw_apartrow_k07_answers_by_hand.Holds := by
 w_on;o_law;k_head;(case hw=>w_witness2)
 k_fill
 refine K7.walk (l:=PySem.Challenge.rw_apartrow_k07_answers_by_hand) rfl rfl (fun w h Y=>PySem.W.km_in_of Y) (by kernel_rfl) ?F
 case F=>
  intro w mg fa h KX G EQ
  refine' K7.all_mk KX G EQ ?a1 ?l1 ?c1 ?k1 ?a2 ?l2 ?c2 ?k2 ?a3 ?l3 ?c3 ?k3 ?a4 ?l4 ?c4 ?k4 ?a5 ?l5 ?c5 ?k5 ?a6 ?l6 ?c6 ?k6 ?a7 ?l7 ?c7 ?k7 ?a8 ?l8 ?c8 ?k8 ?a9 ?l9 ?c9 ?k9 ?LX ?Mf ?a10 ?XO ?Pe ?Ww ?a11 ?XQ ?Pf ?Wx ?a12 ?XR ?c12 ?Wy ?a13 ?XS ?Pg ?Wz ?a14 ?XT ?uL ?WA ?a15 ?XU ?Ph ?WB ?a16 ?XV ?Pj ?WC ?a17 ?XW ?Pk ?WD ?a18 ?XX ?Pn ?WE ?a19 ?XY ?Po ?WF ?a20 ?XZ ?Pp ?WG ?a21 ?X0 ?c21 ?WH ?a22 ?X3 ?Pq ?WI ?a23 ?X4 ?Pr ?WJ ?a24 ?X5 ?Pu ?WK ?a25 ?X6 ?Pw ?WL ?a26 ?X7 ?Px ?WM ?a27 ?X8 ?Py ?WN ?a28 ?Yb ?Pz ?WO ?a29 ?Yc ?PB ?WP ?a30 ?Yd ?PF ?WQ ?a31 ?Ye ?PL ?WR ?a32 ?Yg ?PM ?WS ?a33 ?Yh ?PN ?WT ?a34 ?Yi ?PR ?WU ?a35 ?Yj ?PU ?WV ?a36 ?Yk ?PV ?WW ?a37 ?Yl ?PX ?WX ?a38 ?Ym ?PY ?WY ?a39 ?Yn ?PZ ?WZ ?a40 ?Yo ?P0 ?W0 ?a41 ?Yp ?P1 ?W1 ?a42 ?Yq ?P4 ?W2 ?a43 ?Yr ?P5 ?W3 ?a44 ?Ys ?P6 ?W4 ?a45 ?Yt ?P7 ?W5 ?a46 ?Yu ?P8 ?W6 ?a47 ?Yv ?P9 ?W7 ?a48 ?Yw ?Qa ?W8 ?a49 ?Yx ?Qc ?W9 ?a50 ?Yy ?Qd ?Xb ?a51 ?Yz ?Qe ?Xc ?a52 ?YA ?Qf ?Xd ?a53 ?YB ?Qg ?Xg ?a54 ?YC ?Qh ?Xh ?OB ?OG ?ZS ?Vt ?Z1 ?aae ?QB ?Zi ?Zw ?OF ?ZR ?Vs ?Z0 ?aad ?QA ?Zh ?Zv ?OD ?ZP ?Vq ?ZY ?aab ?Qy ?Zf ?Zs ?OH ?ZT ?Vu ?Z2 ?aaf ?QC ?Zj ?Zx ?OE ?ZQ ?Vr ?ZZ ?aac ?Qz ?Zg ?Zu ?Zt ?OC ?ZO ?Vp ?ZX ?aaa ?Qx ?Ze ?Zr ?sg ?tg ?OJ ?We ?YD ?Qi ?Xi ?Zb ?XD ?OL ?Wf ?YE ?Qj ?Lz ?OM ?Wg ?YF ?Qk ?Xj ?Za ?XC ?ON ?Wh ?YG ?Ql ?LA ?OO ?Wi ?YH ?Qm ?Xl ?Y8 ?Xx ?OP ?Wj ?YI ?Qn ?LB ?OQ ?Wk ?YJ ?Qo ?LC ?OR ?Wl ?YK ?Qp ?LD ?OS ?Wm ?YL ?Qq ?Xm ?Zc ?XE ?OT ?Wn ?YM ?Qs ?LG ?OU ?Wo ?YN ?Qt ?Xn ?Y9 ?XA ?OV ?Wp ?YO ?Qu ?LH ?OW ?Wq ?YQ ?Qv ?Xo ?Y7 ?Xv ?OX ?Wr ?YR ?Qw ?LI ?GN ?Cy ?GU ?GP ?GV ?GQ ?GO ?GF ?GK ?Cw ?GI ?GL ?GJ ?GH ?Gq ?Cv ?Cu ?Gs ?Gv ?Gu ?Gr ?GW ?Hf ?G0 ?GY ?Hg ?GZ ?GX ?Gw ?GB ?GA ?Gy ?GC ?Gz ?Gx ?Gi ?Go ?Gn ?Gk ?Gp ?Gm ?Gj ?abd ?abb ?aa' ?abf ?abm ?abj ?aa8 ?aa9 ?abe ?abg ?abh ?abl ?abk ?abi ?aba ?abn ?aa5 ?aa7 ?aa6 ?aa3
  (case a1|l1|c1|k1|a2|l2|c2|k2|a3|l3|c3|k3|a4|l4|c4|k4|a5|l5|c5|k5|a6|l6|c6|k6|a7|l7|c7|k7|a8|l8|c8|k8|a9|l9|c9|k9|LX=>k_is)
  (case Mf=>exact rfl)
  (case a10|XO|Pe|Ww|a11|XQ|Pf|Wx|a12|XR|c12|Wy|a13|XS|Pg|Wz|a14|XT|uL|WA|a15|XU|Ph|WB|a16|XV|Pj|WC|a17|XW|Pk|WD|a18|XX|Pn|WE|a19|XY|Po|WF|a20|XZ|Pp|WG|a21|X0|c21|WH|a22|X3|Pq|WI|a23|X4|Pr|WJ|a24|X5|Pu|WK|a25|X6|Pw|WL|a26|X7|Px|WM|a27|X8|Py|WN|a28|Yb|Pz|WO|a29|Yc|PB|WP|a30|Yd|PF|WQ|a31|Ye|PL|WR|a32|Yg|PM|WS|a33|Yh|PN|WT|a34|Yi|PR|WU|a35|Yj|PU|WV|a36|Yk|PV|WW|a37|Yl|PX|WX|a38|Ym|PY|WY|a39|Yn|PZ|WZ|a40|Yo|P0|W0|a41|Yp|P1|W1|a42|Yq|P4|W2|a43|Yr|P5|W3|a44|Ys|P6|W4|a45|Yt|P7|W5|a46|Yu|P8|W6|a47|Yv|P9|W7|a48|Yw|Qa|W8|a49|Yx|Qc|W9|a50|Yy|Qd|Xb|a51|Yz|Qe|Xc|a52|YA|Qf|Xd|a53|YB|Qg|Xg|a54|YC|Qh|Xh|OB|OG|ZS|Vt|Z1|aae|QB|Zi|Zw|OF|ZR|Vs|Z0|aad|QA|Zh|Zv|OD|ZP|Vq|ZY|aab|Qy|Zf|Zs|OH|ZT|Vu|Z2|aaf|QC|Zj|Zx|OE|ZQ|Vr|ZZ|aac|Qz|Zg|Zu|Zt|OC|ZO|Vp|ZX|aaa|Qx|Ze|Zr|sg|tg|OJ|We|YD|Qi|Xi|Zb|XD|OL|Wf|YE|Qj|Lz|OM|Wg|YF|Qk|Xj|Za|XC|ON|Wh|YG|Ql|LA|OO|Wi|YH|Qm|Xl|Y8|Xx|OP|Wj|YI|Qn|LB|OQ|Wk|YJ|Qo|LC|OR|Wl|YK|Qp|LD|OS|Wm|YL|Qq|Xm|Zc|XE|OT|Wn|YM|Qs|LG|OU|Wo|YN|Qt|Xn|Y9|XA|OV|Wp|YO|Qu|LH|OW|Wq|YQ|Qv|Xo|Y7|Xv|OX|Wr|YR|Qw|LI=>k_is)
  (case GN|Cy|GU|GP|GV|GQ|GO|GF|GK|Cw|GI|GL|GJ|GH|Gq|Cv|Cu|Gs|Gv|Gu|Gr|GW|Hf|G0|GY|Hg|GZ|GX|Gw|GB|GA|Gy|GC|Gz|Gx|Gi|Go|Gn|Gk|Gp|Gm|Gj=>kit_is)
  (case abd|abb|aa'|abf|abm|abj|aa8|aa9|abe|abg|abh|abl|abk|abi|aba|abn|aa5|aa7|aa6|aa3=>k_is)

