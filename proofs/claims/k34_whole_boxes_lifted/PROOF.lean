import PyProof.Rows.All
import Wide.All
import OpenK.AllK
import PySem.Challenge.RW_boxsums_k34_whole_boxes_lifted
set_option Elab.async false
set_option linter.all false
set_option maxRecDepth 100000
set_option maxHeartbeats 4000000
set_option bootstrap.genMatcherCode false
open PySem renaming wpAny_bind→Ae,Value→Be,Addr→Ee,wpAny_pure→Fe,Shared→Ge,wpAny→Ie,model→Ke,PyData→Oe,starEach→Re,mainGlobals→Ue,Expr→We,World→Xe,wpAny_holding→Ye,wpAny_field→Ze,wpAny_callSpecial?_slot→Af,assignEach→Bf,Program→Cf,compareOp→Ef,cellsFrom→Ff,Heap→Gf,wpAny_call_entry→Jf,wpAny_newObj_type→Kf,builtinLookup_eq_fast→Lf,cLine→Mf,call_isinstance→Nf,bootBuiltins→Qf,eval→Rf,intItems→Sf,wpAny_seqItems→Tf,tupleKind→Uf,sysModules→Vf,backTo→Wf,binaryOp→Xf,wpAny_rule→Yf,tupleKind_room_in1→Zf,wpAny_specialOf→Bg,wpAny_passesOwn→Cg,typeLookup_type→Eg,wpAny_truthy_bool→Hg,foldedSetIterable→Ig,attributeBase→Kg,pyNext→Lg,call_meets→Ng,wpAny_setField_rec→Og,NameKind→Qg,wpAny_updateSeq→Rg,wpAny_loadPart'→Tg,wpAny_attempt→Ug,wpAny_pyIter_list→Wg,FuncData→Yg,rawInt→Zg,Stmt→Ah,Around→Dh,wpAny_pyIter_tuple→Eh,wpAny_Call_Name_kw→Fh,wpAny_of_eq→Hh,intKind→Ih,wpAny_typeOf→Jh,wpAny_setField→Kh,richCompare_meets_room→Lh,IsZip→Mh,swapsWith→Nh,wpAny_pyIter_zip→Oh,wpAny_isInstance→Ph,Keyword→Qh,behindInMarks→Rh,wpAny_execs_nil→Sh,letOwnedTupleGo→Th,codeAny_builtin→Uh,holding→Wh,getItem→Xh,codeAny→Yh,assign→Bi,typeLookup→Di,isSubtype_type→Fi,firstArgMember→Gi,unsupported→Ii,richCompare→Ji,keywordEach→Li,wpAny_standAt→Oi,signature?_of→Qi,plainId_quiet→Si,nums_intItems→Ti,wpAny_comprehension_free→Ui,numAt→Vi,atKey→Xi,wpAny_forIn_list→Zi,noFill_tuple_add→Al,IsPart→Bl,callType_new→Fl,wpAny_pyNext_list_item→Hl,wpAny_Assign_Subscript→Il,wpAny_pyNext_list_end→Kl,isinstance_false_dict→Ll,subscripted→Ml,intItems_at→Nl,wpAny_newTuple→Ol,newFunctionEnv→Pl,isSubtype_stop→Ql,valueAt→Ul,callerA→Vl,BindsTo→Wl,field→Zl,Scope→Am,swapsWithSole→Bm,swappedStores→Cm,seq_tuple_add→Em,typeOf→Gm,argsOk→Hm,builtinsNs→Im,backToKw→Mm,seqIndex_neg→Nm,concat_meets→Om,codeAny_mono→Pm,updateSeq→Qm,isSubtype→Sm,PassesOwn→Vm,sizeLine_eq→Wm,seqIndex_of→Xm,setItem→Zm,relabel→An,bindL→Bn,bindC→Cn,isTrue→En,Result→Fn,numAt_eq→Gn
open PyProof.Rows renaming wpS_bind→He,wpS_pure→Le,Keyed→Me,SortSt→Pe,pendingOf→Se,wpS_forRange→Hf,elem'→Of,wpS_mono→Pf,IntsAre→Ag,SortKind→Gg,wpS_modify→Jg,seqObj→Vg,failedOf→Xg,reverseSlice'→Bh,wpS_get→Vh,boot_list→Zh,envOfC→Ai,boot_sum→Ci,boot_tuple→Ei,AllBare→Hi,boot_sorted→Mi,mirror→Ni,wpS_lift→Yi,pairsOf→Dl,setPending→El,subscriptTail_builtinR→Jl,getElem?_mirror_all→Xl,entry_tuple_getitem→Yl,subscriptTail→Dm,listUpdate_at→Fm,IsTup→Jm,gallopOf→Km,boot_all→Lm,boot_repr→Um,seqEpoch_at→Ym,setArr→Dn,boot_min→Hn
abbrev Ce:=@if_neg
abbrev De:=@if_pos
abbrev Je:=@decide_eq_true
abbrev Qe:=@of_decide_eq_true
abbrev Te:=@congrArg
abbrev Ve:=@decide_eq_false
abbrev Pg:=@of_decide_eq_false
abbrev Jn:=@Option
abbrev Kn:=@Array
abbrev Ln:=@False
open List renaming length_map → g0,mem_cons_of_mem → G0,getElem?_eq_getElem → J0,mem_cons_self → L0,mem_map → M0,map_map → O0,length_append → R0,size_toArray → S0,getD_eq_getElem?_getD → X0,map_cons → Y0,replicate → B1,mem_cons → E1,length_cons → L1,getElem?_set_ne → P1,getElem?_map → S1,map_congr_left → U1,getElem?_eq_some_iff → Y1,range → G2,mem_singleton → J2,mem_append_right → K2,mem_append → O2,length_zip → P2,getElem?_append_right → S2,map_append → U2,flatMap_cons → V2,append_nil → Z2,append_assoc → u3,getElem?_append_left → A3,mem_of_getElem? → O3,pairwise_singleton → P3,replicate_succ → U3,sum_cons → W3,map → X3,length_singleton → i4,getElem?_eq_none_iff → L4,drop_eq_getElem_cons → M4,extract_eq_take_drop → O4,getElem?_zip_eq_some → P4,pairwise_iff_getElem → Q4,foldl_cons → S4,take_of_length_le → V4,mem_flatMap → u5,zip_cons_cons → A5,length_take → B5,length → E5,length_drop → M5,lookup_cons → N5,getElem_of_mem → P5,take_append_drop → Q5,map_nil → T5,length_nil → U5,find?_cons → V5,getElem_mem → X5,flatten_cons → i6,pairwise_map → j6,drop_of_length_le → t6,map_eq_nil_iff → v6,nodup_cons → w6,of_mem_zip → x6,length_set → A6,getElem?_eq_none → G6,pairwise_reverse → J6,mem_iff_getElem → O6,pairwise_append → Q6,getElem?_cons_succ → T6,flatMap_singleton → c7,countP_cons → i7,ext_getElem → j7,mem_range → o7,pairwise_cons → v7,mem_iff_getElem? → E7,length_range → N7,mem_map_of_mem → U7,flatMap_append → V7,getElem_range → g8,getElem?_set_self → h8,range_succ → j8,perm_append_comm → m8,mem_append_left → v8,cons_append → K8,all_eq_true → L8,map_flatMap → M8,getElem_map → N8,not_mem_nil → O8,length_pos_iff → Q8,map_inj_right → X8,filter_append → Y8,nodup_append → m9,drop_sublist → q9,ext_getElem? → u9,length_replicate → E9,eq_nil_or_concat → G9,map_fst_zip → M9,filter_cons → S9,mem_of_mem_take → X9,nil_append → aQ,filter_map → cQ,filterMap_cons → dQ,lookup → qQ,take_sublist → sQ,getElem_drop → vQ,getElem_take → wQ,reverse_perm → xQ,foldl_append → AQ,any_cons → BQ,getElem?_take_of_lt → FQ,mem_reverse → KQ,getElem_zip → LQ,flatMap_map → NQ,flatMap_nil → OQ,getElem?_replicate → QQ,zip_map → XQ,sum_nil → YQ,mem_filter → cX,forIn_cons → eX,zip_append → fX,dropLast_eq_take → mX,pairwise_flatMap → pX,map_id → tX,forIn_nil → vX,drop_drop → xX,mem_of_mem_drop → FX,length_reverse → JX,take_succ_cons → LX,mem_filterMap → PX,getElem?_drop → RX,forIn_toArray → SX,foldl → fZ
open PySem.Heap renaming get?_push_of_some → i0,lt_size → Q0,get?_push_size → U0,size_push → J3,get?_update_self → J4,get?_update_other → O5,SameBut → c6,get?_push_ne → v9,ExtBut → V9,get?_update_ne → eQ,size_update → MQ
open PySem.PyData renaming int → q0,tuple → O1,list → Y2,bool → W5,shownAll → bQ,canLayAll0 → uQ,shown → WQ,depthAll → gX,canLay0 → wX,showableAll → TX,depth → WX,hasDictAll → ZX
open Nat renaming le_trans → A0,lt_of_lt_of_le → B0,le_of_eq → P0,add_le_add_left → T0,le_refl → V0,lt_of_le_of_lt → W0,le_of_not_lt → A1,ne_of_lt → J1,le_add_left → K1,le_of_lt → N1,le_add_right → T1,le_sub_of_add_le → W1,le_of_add_right_le → Z1,lt_irrefl → T2,add_sub_cancel_left → W2,sub_lt_right_of_lt_add → K3,add_sub_cancel' → M3,le_antisymm → N3,lt_succ_self → S3,lt_of_le_of_ne → T3,ne_of_gt → V3,lt_succ_of_le → Z3,zero_le → j4,lt_of_succ_lt → E4,mul_comm → G4,min_le_left → T4,add_assoc → W4,le_of_add_left_le → i5,add_lt_add_left → j5,min_eq_left → o5,le_of_lt_succ → J5,le_succ_of_le → K5,le_min_of_le_of_le → u6,sub_lt_left_of_lt_add → E6,sub_lt → K6,mod_eq_of_lt → L6,succ_add_eq_add_succ → M6,sub_le_sub_right → N6,le_of_succ_le → S6,zero_add → Y6,sub_le_iff_le_add' → Z6,min_le_right → h7,div_eq_of_lt → m7,lt_of_sub_ne_zero → A7,add_lt_of_lt_sub' → B7,lt_add_left → J7,lt_trans → M7,mul_le_mul_right → P7,sub_le → R7,mod_lt → Z7,add_zero → b8,one_le_iff_ne_zero → i8,sub_eq_zero_of_le → k8,le_succ → n8,add_mul → o8,one_mul → r8,div_lt_of_lt_mul → t8,sub_succ_lt_self → w8,add_le_add_right → x8,pow_le_pow_right → A8,add_comm → B8,succ_mul → F8,min_eq_right → J8,mul_assoc → S8,div_add_mod → T8,strongRecOn → U8,zero_mul → g9,sub_pos_of_lt → t9,le_add_right_of_le → x9,lt_of_add_right_lt → y9,lt_add_of_pos_left → A9,sub_sub_self → K9,not_lt_of_le → L9,lt_of_not_le → N9,sub_lt_of_lt → O9,succ_le_succ → P9,le_max_right → Q9,lt_of_le_sub_one → W9,mul_add_div → Z9,lt_or_ge → fQ,sub_zero → gQ,lt_succ_of_lt → yQ,zero_lt_of_lt → zQ,eq_of_le_of_lt_succ → SQ,le_mul_of_pos_right → TQ,sub_self → VQ,length_repr_le_iff → bX,mul_add_mod → hX,le_of_sub_eq_zero → lX,lt_of_sub_eq_succ → nX,le_sub_of_add_le' → oX,two_mul → rX,mul_le_mul → yX,add_sub_add_left → BX,sub_lt_sub_right → DX,add_le_of_le_sub → GX,eq_add_of_sub_eq → HX,sub_le_sub_left → IX,le_total → VX
open PySem.W renaming Frag → K0,mg_none_of → Q2,nsIn → Y3,keepIn → t7,fnOf → L7,findIn → k9,codeIn → jQ,methodObj → rQ,cellsFrom_some → ZQ,OpenLaw → dX,mg_of → NX,specialIn → YX,instObj → dZ
open Array renaming length_toList → Z0,toList_append → o4,getElem_toList → U4,getElem?_toList → G5,toList_extract → Y5,perm_iff_toList_perm → y7,toList_reverse → y8,size_extract → W8,toList_push → o9,toList_map → R9,getElem?_eq_getElem → pQ,size_setIfInBounds → GQ
open Int renaming sub_nonneg_of_le → G1,le_of_lt → Q1,lt_of_le_of_lt → V1,le_trans → E2,le_sub_one_iff → X2,toNat_natCast → B4,mul_le_mul_of_nonneg_left → K4,natCast_nonneg → X4,one_mul → Z4,mul_le_mul_of_nonneg_right → v5,mul_assoc → x5,le_of_eq → L5,eq_ofNat_of_zero_le → Z5,toNat_of_nonneg → W6,mul_comm → X6,natCast_mul → K7,lt_add_one_of_le → O7,le_sub_one_of_lt → Q7,mul_le_mul → X7,not_lt_of_ge → Y7,ofNat_le → c8,le_of_lt_add_one → u8,ofNat_lt → E8,mul_zero → G8,mul_one → Z8,le_refl → a9,ne_of_gt → b9,zero_add → i9,zero_mul → j9,zero_le_ofNat → l9,not_le → J9,ofNat_inj → T9,sub_one_lt_of_le → Y9,emod_lt_of_pos → kQ,add_assoc → CQ,min_eq_right → IQ,lt_of_not_ge → JQ,not_lt → UQ,emod_nonneg → iX,ediv_lt_of_lt_mul → jX,le_ediv_of_mul_le → kX,two_mul → qX,mul_nonneg → zX,add_nonneg → AX,pow_succ → XX,mul_add → bZ,add_mul → cZ
open Bool renaming false_ne_true → X1,and_eq_true → A4,false_eq_true → Y4,and_eq_true_iff → P6,eq_iff_iff → G7,false_and → W7,beq_eq_decide_eq → l8,and_true → U9,true_and → DQ,and_false → uX,not_true → MX
open PySem.Value renaming ref → B2,none → S7,type → V8,int → iQ,isInt → sX,notImplemented → EX,bool → OX
open PySem.Builtin.SmallTypes renaming nextOf → B3,ownedTupleIsFree → v4,ownedTupleHandOut → R8
open Option.some renaming inj → E3
open Ne renaming symm → G3
open PySem.Obj renaming mapSeq → Q3,data_mapFields → u7,isFreed_of_fields → F9
open PyProof.Rows renaming callWith_type1 → u4,slot_tuple_getitem → B6
open Option renaming getD_some → q5,map_eq_some_iff → o6,map_some → U6,isSome_map → tQ,isSome_iff_exists → EQ,isSome_some → QX
open PySem.Builtin.List renaming listTooLong → S5,listExtendWith → g7,listFitsIndex → nQ,listSameRef → HQ,listItems → aX
open PySem.Heap.SameBut renaming update → V6
open PySem.Builtin.Slice renaming slicePlaces → F7,sliceAdjust → P8,sliceApplied → lQ
open PySem.Builtin.Tuple renaming tupleExact → T7,tupleCompareSizes → B9,tupleItemsOf → mQ,tupleHashOf → oQ
open Nat.succ renaming inj → c9
open PySem.Builtin.Range renaming rangeSize → PQ
open PySem.Builtin.Dict renaming updateFrom → RQ
open Eq renaming trans → UX,symm → eZ
open PySem.Heap.ExtBut renaming push → aZ
theorem TN{b:Int}(h:a<b):(a+b) / 2<b:=jX (by decide)<|X6 b 2 ▸ qX b ▸ Int.add_lt_add_right h b
theorem GS{b:Int}(h:a<=b):a<=(a+b) / 2:=kX (by decide)<|X6 a 2 ▸ qX a ▸ Int.add_le_add_left h a
theorem X_{b:Int}{c:Nat}(h0:(a-b).toNat=c)(d:b<a):(a-((b+a) / 2+1)).toNat<c:=h0 ▸ (Int.toNat_lt_toNat<|Int.sub_pos_of_lt d).2 (Int.sub_lt_sub_left (O7<|GS<|Q1 d) a)
theorem Y_{b:Int}{c:Nat}(h0:(a-b).toNat=c)(d:b<a):((b+a) / 2-b).toNat<c:=h0 ▸ (Int.toNat_lt_toNat<|Int.sub_pos_of_lt d).2 (Int.sub_lt_sub_right (TN d) b)
theorem y_{b:Nat}{a:Int}(h:a=b):a.toNat=b:=h ▸ rfl
theorem Xc(h:a<b):(a+b) / 2<b:=t8<|rX b ▸ Nat.add_lt_add_right h b
theorem Z_(h:a<=b):a<=(a+b) / 2:=(Nat.le_div_iff_mul_le<|by decide).2<|G4 a 2 ▸ rX a ▸ T0 h a
theorem Yc:a / 2<=a-1:=by cases a;decide;exact J5 (Nat.div_lt_self (Nat.succ_pos _)<|by decide)
theorem Zc:min a b+(b-a+1)=b+1:=Te (·+1)<|Nat.min_comm b a ▸ (B8 ..).trans (Nat.sub_add_min_cancel b a)
theorem fc(h0:a-b<=c-d):(a-(b+(a-b)/2+1))<=c-(d+1):=by rw[W4,<-Nat.sub_sub];exact A0 (IX (K1 1 _) _)<|N6 h0 1
theorem gc(h0:a-b<=c-d):(b+(a-b)/2)-b<=c-(d+1):=by rw[W2];exact A0 Yc<|N6 h0 1
theorem jc(h:b<=a):(b+a) / 2=b+(a-b) / 2:=by obtain⟨k,rfl⟩:=Nat.le.dest h;rw[<-W4,<-rX,Z9<|by decide,W2]
theorem jd{e:Nat}(h0:(a+b)=c)(f:d=(b-e))(g:e<=b):(c-d)=(a+e):=by subst h0 f;exact(Nat.add_sub_assoc (R7 ..) _).trans<|Te _<|K9 g
theorem md{e:Nat}(h0:((a+b)+c)<=d):((min (a+b) d)-(a+e))=(b-e):=by rw[o5<|Z1 h0,BX]
theorem qd(h0:¬((a-b)=0)):((c+b)+((a-b)-1))=((c+a)-1):=by obtain⟨k,rfl⟩:=Nat.exists_eq_add_of_lt<|A7 h0;rw[W4 b,W2,<-W4 c];rfl
theorem arg(h0:(a-b)<=(c-d)):(a-(((b+a) / 2)+1))<=(c-(d+1)):=by
 rcases VX b a with h|h
 .rw[jc h];exact fc h0
 .rw[k8<|B8 a b ▸ K5 (Z_ h)];exact j4 _
theorem ud(h0:(a-b)<=(c-d)):(((b+a) / 2)-b)<=(c-(d+1)):=by
 rcases fQ b a with h|h
 .rw[jc<|N1 h];exact gc h0
 .rw[k8<|Nat.div_le_of_le_mul<|rX b ▸ T0 h b];exact j4 _
theorem vd(h:a<=b):a-1=b-1-(b-a):=by rw[Nat.sub_right_comm,K9 h]
theorem aa(h0:(a-b)=0)(c:b<=a):b=a:=N3 c<|lX h0
theorem ba(h0:(a-b)=(c+1)):(a-(b+1))=c:=Te Nat.pred h0
theorem kc(h0:2<=a)(b:¬(a-1=1)):2<=a-1:=T3 (W1 h0)<|G3 b
theorem wd(h:a<b):(a+b) / 2-a<b-a:=DX (Z_<|N1 h)<|Xc h
theorem yd(h:a<b):b-((a+b) / 2+1)<b-a:=Nat.sub_lt_sub_left h<|Z3<|Z_<|N1 h
theorem lc(h0:(a-b)<=(c-(max 0 c)))(d:b<=a):b=a:=by rw[Nat.zero_max,VQ]at h0;exact N3 d<|lX<|Nat.le_zero.1 h0
theorem zd{f:Nat}(h0:a<b)(g:b=c-d):e+d+a<e+c+f:=B0 (W4 .. ▸ j5 (B7<|g ▸ h0) e)<|T1 ..
theorem Ad(h0:¬((a-b)=0)):c+b+(a-b)-1=c+a-1:=by rw[W4,M3<|N1<|A7 h0]
theorem nc(h0:¬((a-b)=0)):c+a=c+b+(a-b):=by rw[W4,M3<|N1<|A7 h0]
theorem Cd(h0:a+(b+1)<=c):c-(a+b)=c-(a+(b+1))+1:=by obtain⟨k,rfl⟩:=Nat.le.dest h0;rw[W2,<-W4,W4<|a+b,W2,B8]
theorem Dd{c:Nat}(h0:¬((a-b)<c))(d:¬(a<b)):a=b+c+(a-b-c):=by rw[W4,M3<|A1 h0,M3<|A1 d]
theorem Ed(h0:a<b+1-min c (b+1)):a<=b-c:=by
 rcases VX c (b+1) with h|h
 .rw[o5 h]at h0;exact W1<|J5<|Nat.add_lt_of_lt_sub h0
 .rw[J8 h,VQ]at h0;exact absurd h0<|Nat.not_lt_zero _
theorem Fd{c:Int}(h0:a<(b+c) / 2+1)(d:b<=a):min ((b+c) / 2) a=min c a:=by have h:=u8 h0;have e:a<=c:=UQ.1 λz=>Int.lt_irrefl a<|V1 h<|jX (by decide)<|X6 a 2 ▸ qX a ▸ Int.add_lt_add_of_le_of_lt d z;rw[IQ h,IQ e]
theorem ca(h0:1<=a)(d:a<=b):c+b-1<c+b:=K6 (A0 h0<|A0 d<|K1 ..) Nat.one_pos
theorem Gd(h0:a+b+c<=d+e+1)(g:0<c-1-f):a+b+f<=d+e+1:=A0 (T0 (A0 (N1<|Nat.lt_of_sub_pos g)<|R7 ..) _) h0
theorem qc(h0:a<b+c+d)(g:e=c-f+d)(i:¬(c-f=0)):a-(b+f)<e :=
 have hf:=N1<|A7 i;have hl:a<b+f+e:=by rw[g,<-W4,W4 b,M3 hf];exact h0
 (fQ a<|b+f).elim (λh=>k8 (N1 h) ▸ g ▸ Nat.add_pos_left (Nat.pos_of_ne_zero i) _) (λh=>E6 h hl)
theorem ga(h0:a+b+c<=d)(f:¬(b-e=0)):a+e+(b-e)-1<d:=by have h:=A7 f;rw[<-nc f];exact B0 (K6 (W0 (j4 _)<|j5 h a) Nat.one_pos)<|Z1 h0
abbrev Qn:=List Int
open PySem PySem.Spec PyProof.Rows
variable {its us:List Be}{u:Be}{h h':Gf}{α β:Type}{o ot:Obj}{kk n t':Nat}{ch fp:List Ee}{S f i1 i2 it l1 l2 sl z:Ee}{N rl:List Str}{A:Dh}{E Q:Be->Ge->Prop}{s s':Ge}{de:List (Ee×Obj)}{ig we tg:We}{cl hi lo p sd:Qn}{g:Int->Int->Int}{fd:Yg}{sc scope:Am}{name qual:Str}{prog:Cf}{env:Env}{XP:(Str->Jn Be)->Gf->Prop}{YP:Xe->Gf->Prop}{fr:List Nat}{ng:List We}{fl:Bool}{xs1 xs2:Kn Be}{cs:List (Int×Int)}
namespace L2
noncomputable abbrev VZ:=Sum Int Str
noncomputable def CG:VZ->Be->Bool
 | .inl k,v=>sX k v
 | .inr x,v=>Value.isStrOf x v
noncomputable def ja(w:Xe):VZ->Int
 | .inl k=>hashInt k
 | .inr x=>hashStr w x
theorem pJ:∀{k:VZ}{v:Be},CG k v=true->(∃i t,k=Sum.inl i/\v=iQ i t)\/(∃x t,k=Sum.inr x/\v=Value.str x t)
 | .inl i,v,h=>by obtain⟨t,e⟩:=Value.isInt_shape (k:=i) (v:=v) h;exact .inl ⟨i,t,rfl,e⟩
 | .inr x,v,h=>by obtain⟨t,e⟩:=Value.isStrOf_shape (x:=x) (v:=v) h;exact .inr ⟨x,t,rfl,e⟩
theorem Zw(i:Int)(t:Tok):CG (.inl i) (.int i t)=true:=by simp[CG,sX]
theorem av(x:Str)(t:Tok):CG (.inr x) (.str x t)=true:=by simp[CG,Value.isStrOf]
theorem UN(a b:Int):decide ((Sum.inl a:VZ)=Sum.inl b)=(a==b):=by
 by_cases e:a=b
 .subst e;simp
 .have h:¬(Sum.inl a:VZ)=Sum.inl b:=λq=>e<|Sum.inl.inj q;rw[Ve h];exact(beq_eq_false_iff_ne.mpr e).symm
theorem VN(a b:Str):decide ((Sum.inr a:VZ)=Sum.inr b)=decide (a=b):=by
 by_cases e:a=b
 .subst e;simp
 .have h:¬(Sum.inr a:VZ)=Sum.inr b:=λq=>e<|Sum.inr.inj q;rw[Ve h,Ve e]
theorem WN(a:Int)(b:Str):decide ((Sum.inl a:VZ)=Sum.inr b)=false:=Ve<|λq=>nomatch q
theorem XN(a:Str)(b:Int):decide ((Sum.inr a:VZ)=Sum.inl b)=false:=Ve<|λq=>nomatch q
noncomputable def DJ(prog:Cf)(w:Xe):PySem.KeyKind prog w VZ where
 is:=CG
 hash:=ja w
 inj:=λv a b l d=>by
  rcases pJ l with⟨i,t,rfl,rfl⟩|⟨x,t,rfl,rfl⟩
  .rcases pJ d with⟨j,u,rfl,e⟩|⟨y,u,rfl,e⟩
   .injection e with e1 _;rw[e1]
   .exact nomatch e
  .rcases pJ d with⟨j,u,rfl,e⟩|⟨y,u,rfl,e⟩
   .exact nomatch e
   .injection e with e1 _;rw[e1]
 byValue:=λk v h=>by rcases pJ h with⟨i,t,rfl,rfl⟩|⟨x,t,rfl,rfl⟩<;>rfl
 pyHash:=λc h=>by
  rcases pJ c with⟨i,t,rfl,rfl⟩|⟨x,t,rfl,rfl⟩
  .exact wpAny_pyHash_int h
  .exact wpAny_pyHash_str h
 eqBool:=λm c h=>by
  rcases pJ m with⟨i,t,rfl,rfl⟩|⟨x,t,rfl,rfl⟩
  .rcases pJ c with⟨j,u,rfl,rfl⟩|⟨y,u,rfl,rfl⟩
   .rw[UN]at h;exact wpAny_eqBool_int h
   .rw[WN]at h;exact SeqAt.EqAt.int_str i t y u _ _ _ _ h
  .rcases pJ c with⟨j,u,rfl,rfl⟩|⟨y,u,rfl,rfl⟩
   .rw[XN]at h;exact SeqAt.EqAt.str_int x t j u _ _ _ _ h
   .rw[VN]at h;exact wpAny_eqBool_str h
 «strs»:=λk x t v h=>by
  rcases pJ h with⟨i,u,rfl,e⟩|⟨y,u,rfl,e⟩
  .exact nomatch e
  .injection e with e1 _
   subst e1
   cases v<;>rfl
theorem SD(prog:Cf)(w:Xe)(i:Int)(t:Tok):(DJ prog w).is (.inl i) (.int i t)=true:=Zw i t
theorem UD(prog:Cf)(w:Xe)(x:Str)(t:Tok):(DJ prog w).is (.inr x) (.str x t)=true:=av x t
inductive V where
 |non|bl (b:Bool)|int (i:Int)|str (x:Str)|byt (b:Kn UInt8)|flt (b:UInt64)|ref (a:Ee)|ty (n:String)
 deriving DecidableEq
noncomputable def RelV:V->Be->Prop
 | .non,u=>u=S7
 | .bl b,u=>u=OX b
 | .int i,u=>∃t,u=iQ i t
 | .str x,u=>∃t,u=Value.str x t
 | .byt b,u=>∃t,u=Value.bytes b t
 | .flt b,u=>∃t,u=Value.float b t
 | .ref a,u=>u=B2 a
 | .ty n,u=>u=V8 n
abbrev Vals:List V->List Be->Prop:=Paired RelV
theorem Vals.length(r:Vals xs us):xs.length=us.length:=Paired.length r
theorem Vals.get:∀{a:List V}{us:List Be}{i:Nat}{x:V},Vals a us->a[i]?=some x->∃u,us[i]?=some u/\RelV x u
 |_,_,_,_,.nil,e=>by simp at e
 |_,_,0,_,.cons r _,e=>by simp at e;subst e;exact⟨_,rfl,r⟩
 |_,_,i+1,x,.cons _ t,e=>by obtain⟨u,b,c⟩:=Vals.get (i:=i) (x:=x) t (by simpa using e);exact⟨u,by simpa using b,c⟩
theorem Vals.set{x:V}(r:RelV x u):∀{a:List V}{us:List Be} (i:Nat),Vals a us->Vals (a.set i x) (us.set i u)
 |_,_,_,.nil=>.nil
 |_,_,0,.cons _ t=>.cons r t
 |_,_,i+1,.cons q t=>.cons q<|Vals.set r i t
theorem Vals.append:∀{a b:List V}{us c:List Be},Vals a us->Vals b c->Vals (a++b) (us++c)
 |_,_,_,_,.nil,s=>s
 |_,_,_,_,.cons r t,s=>.cons r<|Vals.append t s
theorem Vals.take:∀{a:List V}{us:List Be} (n:Nat),Vals a us->Vals (a.take n) (us.take n)
 |_,_,0,_=>.nil
 |_,_,_+1,.nil=>.nil
 |_,_,n+1,.cons r t=>.cons r<|Vals.take n t
theorem Vals.drop:∀{a:List V}{us:List Be} (n:Nat),Vals a us->Vals (a.drop n) (us.drop n)
 |_,_,0,r=>r
 |_,_,_+1,.nil=>.nil
 |_,_,n+1,.cons _ t=>Vals.drop n t
theorem Vals.none_of:∀{a:List V}{us:List Be}{i:Nat},Vals a us->a[i]?=none->us[i]?=none:=λ{a us i} r e=>by have b:=r.length;have c:a.length<=i:=L4.mp e;exact L4.mpr (by lia)
noncomputable def RelO:Jn V->Jn Be->Prop
 |some v,some u=>RelV v u
 |none,none=>True
 |_,_=>Ln
def KV{a:Type}:List (a×V)->List (a×Be)->Prop:=Paired λ(p:a×V) (q:a×Be)=>p.1=q.1/\RelV p.2 q.2
noncomputable def kV:VZ->V
 | .inl i=>.int i
 | .inr x=>.str x
inductive HO where
 |lst (xs:List V)
 |tup (xs:List V)
 |dK (fe:List (VZ×V))|dT (fe:List (List VZ×V))
 |set (S:Int->Bool) (n:Nat)
 |ins (C dx:Ee) (fs:List (Str×V))
 |own (x:Ee)
 |xd (fs:List (Str×V))
 |met (f x:Ee)
 |rng (lo hi:Int)
 |frz (o:Obj) (u:HO)
 |tbl (ps:Kn Be)
 |ext (φ:Gf->Prop)
noncomputable abbrev Hp:=Ee->Jn HO
noncomputable def bJ(H:Hp)(a:Ee)(o:HO):Hp:=λb=>if b=a then some o else H b
theorem HZ{o:HO}:bJ H a o a=some o:=by unfold bJ;rw[De rfl]
theorem pZ{o:HO}(h:b≠a):bJ H a o b=H b:=by unfold bJ;rw[Ce h]
theorem QE{o u:HO}:bJ (bJ H a o) a u=bJ H a u:=by funext b;unfold bJ;split<;>rfl
theorem HS{H:Hp}{o u:HO}(h:H a=some o)(h':H b=some u)(d:o≠u):a≠b:=by intro e;subst e;rw[h]at h';exact d<|E3 h'
theorem wZ{H:Hp}{o:HO}(h:H a=some o)(h':H b=none):a≠b:=by intro e;subst e;rw[h]at h';cases h'
def IsTupD(h:Gf)(a:Ee)(items:Kn Be):Prop:=∃o,h.get? a=some o/\o.cls=.type "tuple"/\∃n,o.data=.seq items n/\o.dict=none
theorem IsTupD.t:IsTupD h a items->Jm h a items:=λ⟨o,e,c,n,d,_⟩=>⟨o,e,c,n,d⟩
theorem IsTupD.new(h:Gf)(items:Kn Be):IsTupD (h.push {cls:=.type "tuple",data:=.seq items}) h.objs.size items:=⟨_,U0 _ rfl,rfl,_,rfl,rfl⟩
section
variable (P:Cf)(w:Xe)
noncomputable def ObjOk(H:Hp)(h:Gf)(a:Ee):HO->Prop
 | .lst b=>b.length<=sizeLine/\∃(its:List Be) (n:Nat),Vals b its/\h.get? a=some {cls:=.type "list",data:=.seq its.toArray n}
 | .tup b=>b.length<=sizeLine/\∃its:List Be,Vals b its/\IsTupD h a its.toArray
 | .dK d=>d.length<=sizeLine/\(a==Vf)=false/\∃j,KV d j/\h.DictOf (DJ P w) a j
 | .dT d=>d.length<=sizeLine/\(a==Vf)=false/\∃b:List (List VZ×Ee×Be),
   Paired (λ(p:List VZ×V) (q:List VZ×Ee×Be)=>p.1=q.1/\H q.2.1=some (.tup<|p.1.map kV)/\RelV p.2 q.2.2) d b /\
   ∃o k r,h.get? a=some o/\o.ExactDict/\o.data=.dict k r/\k.toList=b.map (entryOfKey<|Uf<|DJ P w)/\(b.map (·.1)).Nodup
 | .set S n=>h.SetOf (Ih P w) a S n
 | .ins C e fs=>H e=some (.own a)/\fs.length<=1000/\e≠a/\h.get? a=some (dZ C e) /\
   ∃c,h.Ns1 e c/\(∀f,RelO (fs.lookup f)<|c f)/\PySem.Within c (fs.map (·.1))
 | .own _=>∃o,h.get? a=some o
 | .xd fs=>∃c,h.Ns1 a c/\∀f,RelO (fs.lookup f) (c f)
 | .rng lo hi=>∃t u v,h.get? a=some {cls:=.type "range",data:=.fields #[.int lo t,.int hi u,.int 1 v]}
 | .frz o u=>h.get? a=some o/\ObjOk H h a u
 | .tbl y=>h.get? a=some {cls:=.none,data:=.fields y}
 | .met f x=>h.get? a=some (rQ (.ref f)<|.ref x)
 | .ext i=>i h/\(∃o,h.get? a=some o)/\∀l m:Gf,i l->(∀o,l.get? a=some o->m.get? a=some o)->i m
def HOk(H:Hp)(h:Gf):Prop:=∀a o,H a=some o->ObjOk P w H h a o
end
section
variable {P:Cf}{w:Xe}{H H':Hp}{a:Ee}{o:HO}
theorem ObjOk.lt(x:ObjOk P w H h a o):a<h.objs.size:=by
 cases o with
 |lst b=>obtain⟨_,_,_,_,e⟩:=x;exact Q0 e
 |tup b=>obtain⟨_,_,_,p⟩:=x;exact p.t.lt
 |dK c=>obtain⟨_,_,_,_,o,_,_,e,_⟩:=x;exact Q0 e
 |dT c=>obtain⟨_,_,_,_,o,_,_,e,_⟩:=x;exact Q0 e
 |set S n=>obtain⟨o,_,_,_,e,_⟩:=x;exact Q0 e
 |ins C d fs=>obtain⟨_,_,_,e,_⟩:=x;exact Q0 e
 |own y=>obtain⟨_,e⟩:=x;exact Q0 e
 |xd fs=>obtain⟨_,⟨_,_,_,e,_⟩,_⟩:=x;exact Q0 e
 |rng lo hi=>obtain⟨_,_,_,e⟩:=x;exact Q0 e
 |frz i u=>obtain⟨e,_⟩:=x;exact Q0 e
 |tbl j=>exact Q0<|show h.get? a=some _ from x
 |met f y=>exact Q0<|show h.get? a=some _ from x
 |ext k=>obtain⟨_,⟨_,e⟩,_⟩:=x;exact Q0 e
theorem Paired.mapP{F G:α->β->Prop}:∀{c:List α}{d:List β},Paired F c d->(∀a b,F a b->G a b)->Paired G c d
 |_,_,.nil,_=>.nil
 |_,_,.cons r t,f=>.cons (f _ _ r)<|Paired.mapP t f
theorem ObjOk.stay(x:ObjOk P w H h a o)(k:∀b u,(b=a\/H b=some (.own a))->h.get? b=some u->h'.get? b=some u)(I:∀b,H b=some (.own a)->H' b=some (.own a)) (L:∀b m,H b=some (.tup m)->H' b=some (.tup m)):ObjOk P w H' h' a o:=by
 induction o with
 |lst m=>obtain⟨z,its,n,r,e⟩:=x;exact⟨z,its,n,r,k _ _ (.inl rfl) e⟩
 |tup m=>obtain⟨z,its,r,i,e,c⟩:=x;exact⟨z,its,r,i,k _ _ (.inl rfl) e,c⟩
 |dK M=>obtain⟨z,y,O,r,i,j,l,e,c⟩:=x;exact⟨z,y,O,r,i,j,l,k _ _ (.inl rfl) e,c⟩
 |dT M=>obtain⟨z,y,m,r,i,j,l,e,c⟩:=x;exact⟨z,y,m,Paired.mapP r λp q z=>⟨z.1,L _ _ z.2.1,z.2.2⟩,i,j,l,k _ _ (.inl rfl) e,c⟩
 |set S n=>obtain⟨i,j,l,t,e,c⟩:=x;exact⟨i,j,l,t,k _ _ (.inl rfl) e,c⟩
 |ins C X fs=>obtain⟨d,z,ne,e,B,⟨F,j,l,R,c⟩,r⟩:=x;exact⟨I _ d,z,ne,k _ _ (.inl rfl) e,B,⟨F,j,l,k _ _ (.inr d) R,c⟩,r⟩
 |own y=>obtain⟨i,e⟩:=x;exact⟨i,k _ _ (.inl rfl) e⟩
 |xd fs=>obtain⟨B,⟨F,j,l,e,c⟩,r⟩:=x;exact⟨B,⟨F,j,l,k _ _ (.inl rfl) e,c⟩,r⟩
 |rng lo hi=>obtain⟨t,u,v,e⟩:=x;exact⟨t,u,v,k _ _ (.inl rfl) e⟩
 |frz i u U=>obtain⟨e,q⟩:=x;exact⟨k _ _ (.inl rfl) e,U q⟩
 |tbl G=>have e:h.get? a=some {cls:=.none,data:=.fields G}:=x;show h'.get? a=some {cls:=.none,data:=.fields G};exact k a _ (.inl rfl) e
 |met f y=>have e:h.get? a=some (rQ (.ref f)<|.ref y):=x;show h'.get? a=some (rQ (.ref f)<|.ref y);exact k a _ (.inl rfl) e
 |ext Y=>obtain⟨p,⟨o,e⟩,st⟩:=x;exact⟨st _ _ p λo q=>k _ _ (.inl rfl) q,⟨o,k _ _ (.inl rfl) e⟩,st⟩
theorem HOk.lt(x:HOk P w H h)(e:H a=some o):a<h.objs.size:=(x a o e).lt
theorem HOk.fresh(x:HOk P w H h)(e:h.objs.size<=a):H a=none:=by
 cases q:H a with
 |none=>rfl
 |some u=>exact absurd (B0 (x.lt q) e)<|T2 _
theorem HOk.kept(x:HOk P w H h)(k:∀b u,h.get? b=some u->h'.get? b=some u):HOk P w H h':=λa o e=>(x a o e).stay (λb u _ q=>k b u q) (λ_ q=>q) λ_ _ q=>q
theorem HOk.laid(x:HOk P w H h)(k:∀b u,h.get? b=some u->h'.get? b=some u)(j:h.objs.size<=a)(new:ObjOk P w (bJ H a o) h' a o):HOk P w (bJ H a o) h':=λb u e=>by
 have d:=x.fresh j;by_cases i:b=a
 .subst i;rw[HZ]at e;cases e;exact new
 .rw[pZ i]at e;exact(x b u e).stay (λc v _ q=>k c v q) (λc q=>by rw[pZ<|wZ q d];exact q) λc l q=>by rw[pZ<|wZ q d];exact q
end
def Rd(H:Hp)(a:Ee)(u:HO):Prop:=H a=some u\/∃o,H a=some (.frz o u)
theorem Rd.ok{u:HO}(r:Rd H a u)(x:HOk P w H h):ObjOk P w H h a u:=by
 rcases r with r|⟨o,r⟩
 .exact x a u r
 .obtain⟨_,q⟩:=x a _ r;exact q
noncomputable def IS:Jn HO->Prop
 |some (.lst _)=>True
 |some (.dK _)=>True
 |some (.dT _)=>True
 |some (.set _ _)=>True
 |some (.ins _ _ _)=>True
 |some (.ext _)=>True
 |_=>Ln
section
variable {P:Cf}{w:Xe}{H:Hp}{x e:Ee}{o':HO}
theorem HOk.write(ok:HOk P w H h)(j:IS (H x))(C:e=x\/H e=some (.own x))(k:∀b u,b≠e->h.get? b=some u->h'.get? b=some u)(B:∃u,h'.get? e=some u)(new:ObjOk P w (bJ H x o') h' x o'):HOk P w (bJ H x o') h':=λb u q=>by
 have d:∀c y,H c=some (.own y)->c≠x:=λc y r z=>by subst z;rw[r]at j;exact j
 have i:∀c l,H c=some (.tup l)->c≠x:=λc l r z=>by subst z;rw[r]at j;exact j
 by_cases m:b=x
 .subst m;rw[HZ]at q;cases q;exact new
 .rw[pZ m]at q;by_cases a:b=e
  .have F:H b=some (.own x):=by
    rcases C with z|z
    .exact absurd (a.trans z) m
    .rw[a];exact z
   rw[q]at F;cases F;obtain⟨v,G⟩:=B;exact⟨v,by rw[a];exact G⟩
  .refine(ok b u q).stay (λc v t r=>k c v ?_ r) (λc r=>by rw[pZ<|d c b r];exact r) λc l r=>by rw[pZ<|i c l r];exact r
   rcases t with rfl|t
   .exact a
   .rintro rfl;rcases C with z|z
    .exact d c b t z
    .rw[t]at z;cases z;exact m rfl
end
structure Un(fs ex:List Ee)(H H':Hp)(h h':Gf):Prop where
 keep:∀b o,h.get? b=some o->H b=none->b∉fs->b∉ex->h'.get? b=some o
 slot:∀b o,h.get? b=some o->H b=none->b∈fs->b∉ex->∃sl,h'.get? b=some {o with slots:=sl}
 free:∀b o,h.get? b=some o->H b=none->b∉ex->H' b=none
 there:∀b o,h.get? b=some o->b∉ex->∃o',h'.get? b=some o'
 tups:∀b xs,H b=some (.tup xs)->H' b=some (.tup xs)
 frzs:∀b o u,H b=some (.frz o u)->H' b=some (.frz o u)
 tbls:∀b ps,H b=some (.tbl ps)->∃more,H' b=some (.tbl<|ps++more)
section
variable {fs fs' ex ex':List Ee}{H H1 H2:Hp}{h1 h2:Gf}{a x e:Ee}{o:HO}
theorem Un.any(u:Un fs ex H H1 h h1){b:Ee}{c:Obj}(q:h.get? b=some c)(n:H b=none)(hx:b∉ex):∃sl,h1.get? b=some {c with slots:=sl}:=by
 by_cases d:b∈fs
 .exact u.slot b c q n d hx
 .exact⟨c.slots,u.keep b c q n d hx⟩
theorem Un.kept(k:∀b u,h.get? b=some u->h'.get? b=some u):Un fs ex H H h h':=⟨λb c q _ _ _=>k b c q,λb c q _ _ _=>⟨c.slots,k b c q⟩,λ_ _ _ n _=>n,λb c q _=>⟨c,k b c q⟩,λ_ _ q=>q,λ_ _ _ q=>q,λ_ d q=>⟨#[],by rw[q];simp⟩⟩
theorem Un.refl:Un fs ex H H h h:=Un.kept λ_ _ q=>q
theorem Un.laid(k:∀b u,h.get? b=some u->h'.get? b=some u)(d:h.objs.size<=a)(c:H a=none):Un fs ex H (bJ H a o) h h' where
 keep:=λb u q _ _ _=>k b u q
 slot:=λb u q _ _ _=>⟨u.slots,k b u q⟩
 free:=λb u q n _=>by rw[pZ<|J1<|B0 (Q0 q) d];exact n
 there:=λb u q _=>⟨u,k b u q⟩
 tups:=λb i q=>by rw[pZ<|wZ q c];exact q
 frzs:=λb u i q=>by rw[pZ<|wZ q c];exact q
 tbls:=λb j q=>⟨#[],by rw[pZ<|wZ q c,q];simp⟩
theorem Un.write(d:IS (H x))(m:e=x\/H e=some (.own x))(k:∀b u,b≠e->h.get? b=some u->h'.get? b=some u)(i:∃u,h'.get? e=some u):Un fs ex H (bJ H x o) h h':=by
 have hx:∀b,H b=none->b≠x:=λb n z=>by subst z;rw[n]at d;exact d
 have l:∀b,H b=none->b≠e:=λb n z=>by
  subst z;rcases m with r|r
  .exact hx b n r
  .rw[n]at r;cases r
 have j:∀b u,H b=some u->¬IS (some u)->b≠x:=λb u q nm z=>by subst z;rw[q]at d;exact nm d
 refine⟨λb u q n _ _=>k b u (l b n) q,λb u q n _ _=>⟨u.slots,k b u (l b n) q⟩,λb u q n _=>by rw[pZ<|hx b n];exact n,λb u q _=>?_,
   λb t q=>by rw[pZ<|j b _ q λz=>z];exact q,λb u t q=>by rw[pZ<|j b _ q λz=>z];exact q,λb v q=>⟨#[],by rw[pZ<|j b _ q λz=>z,q];simp⟩⟩;by_cases c:b=e
 .subst c;exact i
 .exact⟨u,k b u c q⟩
end
noncomputable def z_(h:Gf)(H:Hp):List Ee:=(G2 h.objs.size).filter λa=>(H a).isSome
noncomputable def CF(h:Gf)(H:Hp):Gf:=PySem.W.hideAll h<|z_ h H
theorem bv(h:Gf)(H:Hp):(CF h H).objs.size=h.objs.size:=PySem.W.hideAll_size _ _
theorem Qy(e:h.get? b=some o)(n:H b=none):(CF h H).get? b=some o :=
 PySem.W.hideAll_get _ e λa=>by have q:(H b).isSome=true:=(cX.mp a).2;rw[n]at q;simp at q
theorem RE(e:(CF h H).get? b=some o):h.get? b=some o/\H b=none:=by
 have a:h.get? b=some o:=PySem.W.of_hideAll (z_ h H) e;refine⟨a,?_⟩;cases q:H b with
 |none=>rfl
 |some x=>have c:b∈z_ h H:=cX.mpr ⟨o7.mpr<|Q0 a,by simp[q]⟩;have z:(CF h H).get? b=none:=PySem.W.hideAll_none (z_ h H) c;rw[z]at e;cases e
noncomputable def SE(g h:Gf)(L:Ee):List (Ee×Obj):=(G2 h.objs.size).filterMap λa=>if a=L\/(g.get? a).isSome=true then none else (h.get? a).map λo=>(a,o)
noncomputable def rest(g h:Gf)(L d:Ee):List (Ee×Obj):=(SE g h L).filter λp=>decide<|p.1≠d
structure Mod(K:K0)(mg:Str->Jn Be)(base:Gf):Prop where
 kin:K.In base
 glob:base.Ns Ue mg
 blt:∃mb,base.Ns Im mb/\∀x:Str,x ≠ "__name__"->mb x=Qf x
 nolimit:base.NoLimit
structure Cx where
 prog:Cf
 w:Xe
 K:K0
 mg:Str->Jn Be
 base:Gf
 A:Dh
 N:List Str
 s₀:Ge
 H₀:Hp
 env:Env
 outer:List Env
 stack:List Env
 ex:List Ee
 fn:Str->Bool
 calm:Bool
 pn:List (Ee×Obj)
 xe:Be->Ge->Prop
noncomputable def Px(l:List Env):List Ee:=l.filterMap (·.frame)
noncomputable abbrev Cx.fs(X:Cx):List Ee:=Px X.outer
def UE(sc:Am)(x:Str):Prop:=sc.names.lookup x=some .local\/sc.names.lookup x=some .cell\/sc.names.lookup x=some .free
def HE(sc:Am)(x:Str):Prop:=sc.names.lookup x=some .local\/sc.names.lookup x=some .cell
def ka(env:Env)(h:Gf)(m:Str->Jn Be)(x:Str)(u:Be):Prop:=(env.kindOf x=some .local/\m x=some u)\/((env.kindOf x=some .cell\/env.kindOf x=some .free)/\∃c,env.cells.lookup x=some c/\h.IsCell c (some u))
structure Cx.Ok(X:Cx):Prop where
 mod:Mod X.K X.mg X.base
 kind:X.env.scope.kind=.function
 glob:X.env.globals=Ue
 blt:X.env.builtins=Im
 above:X.s₀.heap.objs.size<=X.env.locals
 inj:∀x y c,X.env.cells.lookup x=some c->X.env.cells.lookup y=some c->x=y
 has:∀x,(X.env.kindOf x=some .cell\/X.env.kindOf x=some .free)->∃c,X.env.cells.lookup x=some c
 cab:∀x c,X.fn x=true->X.env.cells.lookup x=some c->X.s₀.heap.objs.size<=c
 hd:X.calm=true->X.A.handled=none
 frames:X.A.frames=some X.stack
 stk:X.stack=X.outer\/(X.stack=X.env::X.outer/\X.env.frame=some X.env.locals)
 exf:∀b∈X.ex,b≠X.env.locals/\∀x c,X.env.cells.lookup x=some c->c≠b
 bs:∀b o,X.base.get? b=some o->X.s₀.heap.get? b=some o/\X.H₀ b=none
 bsz:X.base.objs.size<=X.s₀.heap.objs.size
 noex:∀b o,X.base.get? b=some o->b∉X.ex
 exfs:∀b∈X.ex,b∉X.fs
 funs:X.s₀.heap.FunFrames X.base X.outer
 frf:∀b∈X.fs,X.H₀ b=none
structure Inv(X:Cx)(de:List (Ee×Obj))(σ:List (Jn V))(H:Hp)(s:Ge):Prop where
 ok:X.Ok
 os:s.os=X.s₀.os
 bare:Hi s.gens
 base:Un X.fs X.ex X.H₀ H X.s₀.heap s.heap
 loc:∃m,s.heap.Ns X.env.locals m/\∀(i:Nat) (x:Str) (v:V),X.N[i]?=some x->σ[i]?=some (some v)->UE X.env.scope x->∃u,RelV v u/\ka X.env s.heap m x u
 cell:∀x c,X.env.cells.lookup x=some c->∃v,s.heap.IsCell c v
 free:H X.env.locals=none
 freeC:∀x c,X.env.cells.lookup x=some c->H c=none
 pin:∀p∈X.pn++de,s.heap.get? p.1=some p.2/\H p.1=none/\p.1≠X.env.locals/\p.1∉X.fs/\∀v,p.2.data≠.cell v
 hok:HOk X.prog X.w H s.heap
 len:σ.length=X.N.length
section
variable {X:Cx}{σ:List (Jn V)}{H H':Hp}
theorem Cx.Ok.nofr(ok:X.Ok){b:Ee}{o:Obj}(e:X.base.get? b=some o):b∉X.fs:=λa=>by have:=(ok.funs.mem a).1;rw[e]at this;cases this
theorem Inv.bs(I:Inv X de σ H s):∀b o,X.base.get? b=some o->s.heap.get? b=some o/\H b=none:=λb o e=>⟨I.base.keep b o (I.ok.bs b o e).1 (I.ok.bs b o e).2 (I.ok.nofr e)<|I.ok.noex b o e,I.base.free b o (I.ok.bs b o e).1 (I.ok.bs b o e).2<|I.ok.noex b o e⟩
theorem Inv.bk(I:Inv X de σ H s):∀b o,X.base.get? b=some o->s.heap.get? b=some o:=λb o e=>(I.bs b o e).1
theorem Inv.mod(I:Inv X de σ H s):Mod X.K X.mg X.base:=I.ok.mod
theorem Inv.kIn(I:Inv X de σ H s):X.K.In s.heap:=I.ok.mod.kin.keeps I.bk
theorem Inv.lt(I:Inv X de σ H s):X.env.locals<s.heap.objs.size:=let ⟨_,hn,_⟩:=I.loc;hn.lt
theorem Inv.sz(I:Inv X de σ H s):X.s₀.heap.objs.size<=s.heap.objs.size:=A0 I.ok.above<|N1 I.lt
theorem Inv.nofs(I:Inv X de σ H s){a:Ee}(h:s.heap.objs.size<=a):a∉X.fs:=λb=>by obtain⟨_,o,c,_⟩:=I.ok.funs.mem b;exact absurd (B0 (Q0 c)<|A0 I.sz h)<|T2 _
theorem Inv.cne(I:Inv X de σ H s):∀x c,X.env.cells.lookup x=some c->c≠X.env.locals:=λx c e z=>by obtain⟨v,o,b,hd⟩:=I.cell x c e;obtain⟨m,⟨i,j,k,d,a,_⟩,_⟩:=I.loc;rw[z,d]at b;cases b;rw[a]at hd;cases hd
theorem Inv.funs(I:Inv X de σ H s):s.heap.FunFrames X.base X.outer:=by
 have all:∀(l:List Env),(∀b∈Px l,b∈X.fs)->X.s₀.heap.FunFrames X.base l->s.heap.FunFrames X.base l:=by
  intro l;induction l with
  |nil=>intro _ _;trivial
  |cons env r d=>intro c hl;obtain⟨i,⟨L,o,hf,j,k,hd⟩,m⟩:=hl;have hL:L∈X.fs:=c L (by unfold Px;rw[dQ,hf];exact L0);obtain⟨sl,e⟩:=I.base.slot L o k (I.ok.frf L hL) hL λz=>I.ok.exfs L z hL;exact⟨i,⟨L,_,hf,j,e,hd⟩,d (λb a=>c b<|by unfold Px;rw[dQ,hf];exact G0 _ a) m⟩
 exact all X.outer (λ_ a=>a) I.ok.funs
theorem Inv.stack(I:Inv X de σ H s):s.heap.FunFrames X.base X.stack:=by
 rcases I.ok.stk with e|⟨e,hf⟩
 .rw[e];exact I.funs
 .rw[e];obtain⟨m,a,_⟩:=I.loc;refine .cons (by rw[I.ok.kind];decide) hf a ?_ I.funs;exact Heap.get?_none_of_le<|A0 I.ok.bsz I.ok.above
theorem Inv.stkSub(I:Inv X de σ H s):∀b∈Px X.stack,b∈X.env.locals::X.fs:=λb a=>by
 rcases I.ok.stk with e|⟨e,hf⟩
 .rw[e]at a;exact G0 _ a
 .rw[e]at a;unfold Px at a;rw[dQ,hf]at a;exact a
theorem Inv.stkFree(I:Inv X de σ H s):∀b∈Px X.stack,H b=none:=λb a=>by
 rcases E1.mp (I.stkSub b a) with e|a
 .rw[e];exact I.free
 .obtain⟨_,o,c,_⟩:=I.ok.funs.mem a;exact I.base.free b o c (I.ok.frf b a) λz=>I.ok.exfs b z a
theorem Inv.step(I:Inv X de σ H s)(L:∀b∈ch,(b∈X.ex\/X.s₀.heap.objs.size<=b)/\b≠X.env.locals/\(∀x c,X.env.cells.lookup x=some c->c≠b)/\∀p∈X.pn++de,p.1≠b)(keep:∀b o,b≠X.env.locals->b∉X.fs->b∉ch->s.heap.get? b=some o->H b=none->h'.get? b=some o)(B:∀b o,b≠X.env.locals->b∈X.fs->b∉ch->s.heap.get? b=some o->H b=none->∃sl,h'.get? b=some {o with slots:=sl}) (a:∀b o,b∉ch->s.heap.get? b=some o->H b=none->H' b=none)(there:∀b o,b∉ch->s.heap.get? b=some o->∃M,h'.get? b=some M)(O:∀b C,H b=some (.tup C)->H' b=some (.tup C)) (P:∀b o u,H b=some (.frz o u)->H' b=some (.frz o u)) (R:∀b Z,H b=some (.tbl Z)->∃more,H' b=some (.tbl<|Z++more))(ns:∀m,s.heap.Ns X.env.locals m->h'.Ns X.env.locals m) (hok:HOk X.prog X.w H' h') (hg:Hi g'):Inv X de σ H' {s with heap:=h',gens:=g',drawn:=d',toks:=t'}:=by
 have U:∀b o,X.s₀.heap.get? b=some o->b≠X.env.locals:=λb o e=>J1<|B0 (Q0 e) I.ok.above;have t:∀b o,X.s₀.heap.get? b=some o->b∉X.ex->b∉ch:=λb o e hx F=>by
  rcases (L b F).1 with z|z
  .exact hx z
  .exact absurd (B0 (Q0 e) z) (T2 _)
 have lr:∀x c,X.env.cells.lookup x=some c->∀v,s.heap.IsCell c v->h'.IsCell c v:=λx c e v ⟨o,G,hd⟩=>by
  have j:c∉ch:=λz=>(L c z).2.2.1 x c e rfl;by_cases hc:c∈X.fs
  .obtain⟨sl,q⟩:=B c o (I.cne x c e) hc j G<|I.freeC x c e;exact⟨_,q,hd⟩
  .exact⟨o,keep c o (I.cne x c e) hc j G<|I.freeC x c e,hd⟩
 refine⟨I.ok,I.os,hg,⟨λb o e n F hx=>?_,λb o e n F hx=>?_,λb o e n hx=>?_,λb o e hx=>?_,λb C e=>O b C<|I.base.tups b C e,λb o C e=>P b o C<|I.base.frzs b o C e,λb Z e=>?_⟩,?_,λx c e=>?_,?_,λx c e=>?_,λp hp=>?_,hok,I.len⟩
 .exact keep b o (U b o e) F (t b o e hx) (I.base.keep b o e n F hx) (I.base.free b o e n hx)
 .obtain⟨sl,y⟩:=I.base.slot b o e n F hx;obtain⟨sl',Y⟩:=B b _ (U b o e) F (t b o e hx) y<|I.base.free b o e n hx;exact⟨sl',Y⟩
 .obtain⟨M,y⟩:=I.base.there b o e hx;exact a b M (t b o e hx) y<|I.base.free b o e n hx
 .obtain⟨M,y⟩:=I.base.there b o e hx;exact there b M (t b o e hx) y
 .obtain⟨m1,y⟩:=I.base.tbls b Z e;obtain⟨m2,Y⟩:=R b _ y;exact⟨m1++m2,by rw[Y,Array.append_assoc]⟩
 .obtain⟨m,hn,hl⟩:=I.loc;refine⟨m,ns m hn,λi x v y Y e3=>?_⟩;obtain⟨u,r,l⟩:=hl i x v y Y e3;refine⟨u,r,?_⟩;rcases l with l|⟨k,c,e,z⟩
  .exact .inl l
  .exact .inr ⟨k,c,e,lr x c e _ z⟩
 .obtain⟨v,z⟩:=I.cell x c e;exact⟨v,lr x c e v z⟩
 .obtain⟨m,⟨o,_,_,G,_⟩,_⟩:=I.loc;exact a _ o (λz=>(L _ z).2.1 rfl) G I.free
 .obtain⟨v,o,G,hd⟩:=I.cell x c e;exact a c o (λz=>(L c z).2.2.1 x c e rfl) G<|I.freeC x c e
 .obtain⟨e,n,ne,nf,d⟩:=I.pin p hp;have j:p.1∉ch:=λz=>(L p.1 z).2.2.2 p hp rfl;exact⟨keep p.1 p.2 ne nf j e n,a p.1 p.2 j e n,ne,nf,d⟩
theorem Inv.un(I:Inv X de σ H s)(u:Un X.fs [] H H' s.heap h')(a:HOk X.prog X.w H' h'):Inv X de σ H' {s with heap:=h',toks:=t'}:=by
 obtain⟨m,⟨o,t,v,d,r⟩,_⟩:=id I.loc;obtain⟨sl,hL⟩:=u.any d I.free (by simp);exact I.step (g':=s.gens) (d':=s.drawn) (ch:=[]) (λ_ z=>nomatch z) (λb o _ c _ e n=>u.keep b o e n c<|by simp) (λb o _ c _ e n=>u.slot b o e n c<|by simp) (λb o _ e n=>u.free b o e n<|by simp) (λb o _ e=>u.there b o e<|by simp) u.tups u.frzs u.tbls (λx j=>by obtain⟨y,k,l,i,q⟩:=j;rw[d]at i;cases i;exact⟨_,k,l,hL,q⟩) a I.bare
theorem Inv.call(I:Inv X de σ H s)(u:Un (Px X.stack) ch H H' s.heap h')(d:HOk X.prog X.w H' h')(l:Hi g')(i:∀b∈ch,(b∈X.ex\/X.s₀.heap.objs.size<=b)/\b≠X.env.locals/\(∀x c,X.env.cells.lookup x=some c->c≠b)/\∀p∈X.pn++de,p.1≠b):Inv X de σ H' {s with heap:=h',gens:=g',drawn:=d',toks:=t'}:=by
 obtain⟨m,⟨o,C,F,j,r⟩,_⟩:=id I.loc;obtain⟨sl,hL⟩:=u.any j I.free λz=>(i _ z).2.1 rfl;exact I.step (ch:=ch) i (λb o hL q a e n=>u.keep b o e n (λz=>(E1.mp<|I.stkSub b z).elim hL q) a) (λb o _ _ a e n=>u.any e n a) (λb o a e n=>u.free b o e n a) (λb o a e=>u.there b o e a) u.tups u.frzs u.tbls (λG t=>by obtain⟨L,v,y,k,B⟩:=t;rw[j]at k;cases k;exact⟨_,v,y,hL,B⟩) d l
theorem Inv.turned(I:Inv X de σ H s)(k:∀b o,b≠it->s.heap.get? b=some o->h'.get? b=some o)(i:H it=none)(hL:it≠X.env.locals)(j:it∈X.ex\/X.s₀.heap.objs.size<=it) (l:∀x c,X.env.cells.lookup x=some c->c≠it) (t:∀p∈X.pn++de,p.1≠it):Inv X de σ H {s with heap:=h',toks:=t'}:=by
 have d:∀b u,H b=some u->b≠it:=λb u e z=>by rw[z,i]at e;cases e
 refine I.step (g':=s.gens) (d':=s.drawn) (ch:=[it]) (λb w=>?_) (λb o _ _ a e _=>k b o (λz=>a<|by simp[z]) e) (λb o _ _ a e _=>⟨o.slots,k b o (λz=>a<|by simp[z]) e⟩) (λ_ _ _ _ n=>n)
  (λb o a e=>⟨o,k b o (λz=>a<|by simp[z]) e⟩) (λ_ _ e=>e) (λ_ _ _ e=>e) (λb G e=>⟨#[],by rw[e];simp⟩) (λm y=>?_) (λb u e=>?_) I.bare
 .have e:b=it:=by simpa using w
  subst e;exact⟨j,hL,l,t⟩
 .obtain⟨o,B,C,F,r⟩:=y;exact⟨o,B,C,k _ o (G3 hL) F,r⟩
 .refine(I.hok b u e).stay (λc v a q=>k c v ?_ q) (λ_ q=>q) λ_ _ q=>q;rcases a with z|z
  .rw[z];exact d b u e
  .exact d c _ z
theorem Inv.tok(I:Inv X de σ H s)(t:Nat):Inv X de σ H {s with toks:=t}:=I.un (h':=s.heap) (t':=t) Un.refl I.hok
theorem Inv.kept(I:Inv X de σ H s)(k:∀b u,s.heap.get? b=some u->h'.get? b=some u):Inv X de σ H {s with heap:=h',toks:=t'}:=I.un (Un.kept k)<|I.hok.kept k
theorem Inv.laid{a:Ee}{o:HO}(I:Inv X de σ H s)(k:∀b u,s.heap.get? b=some u->h'.get? b=some u)(c:s.heap.objs.size<=a)(new:ObjOk X.prog X.w (bJ H a o) h' a o):Inv X de σ (bJ H a o) {s with heap:=h',toks:=t'}:=I.un (Un.laid k c<|I.hok.fresh c)<|I.hok.laid k c new
theorem Inv.write{o:HO}(I:Inv X de σ H s)(c:IS (H x))(d:e=x\/H e=some (.own x))(k:∀b u,b≠e->s.heap.get? b=some u->h'.get? b=some u)(a:∃u,h'.get? e=some u)(new:ObjOk X.prog X.w (bJ H x o) h' x o):Inv X de σ (bJ H x o) {s with heap:=h',toks:=t'}:=I.un (Un.write c d k a)<|I.hok.write c d k a new
theorem Inv.pins_of(I:Inv X de σ H s)(h:∀p∈pins',s.heap.get? p.1=some p.2/\H p.1=none/\p.1≠X.env.locals/\p.1∉X.fs/\∀v,p.2.data≠.cell v):Inv X pins' σ H s:=⟨I.ok,I.os,I.bare,I.base,I.loc,I.cell,I.free,I.freeC,λp a=>(O2.mp a).elim (λz=>I.pin p<|v8 _ z)<|h p,I.hok,I.len⟩
theorem VD(hN:N.Nodup){i j:Nat}{x:Str}(a:N[i]?=some x)(b:N[j]?=some x):i=j:=by obtain⟨e,c⟩:=Y1.mp a;obtain⟨k,d⟩:=Y1.mp b;exact(List.getElem_inj hN).mp<|c.trans d.symm
theorem DG{M:Model}{i:Nat}{x:Str}{v:V}{Q:Unit->Ge->Prop}(I:Inv X de σ H s)(hN:X.N.Nodup)(hi:X.N[i]?=some x)(hx:HE X.env.scope x)(r:RelV v u)
  (h:∀s',Inv X de (σ.set i<|some v) H s'->(∃a,c6 a s.heap s'.heap/\(a=X.env.locals\/X.env.cells.lookup x=some a))->Q () s') (hf:X.fn x=true\/X.env.scope.names.lookup x=some .local:=by first|exact .inl rfl|exact .inr rfl|assumption):Ie M A (storeName X.env x u) Q E s:=by
 obtain⟨m,hn,hl⟩:=id I.loc;have P:(X.env.scope.kind==.class||(X.env.scope.kind==.module&&X.env.locals != X.env.globals))=false:=by rw[I.ok.kind];rfl
 have hiσ:i<σ.length:=by rw[I.len];exact(Y1.mp hi).1
 have cne:=I.cne;have ql:∀{a:Ee}{h':Gf},(∃o,s.heap.get? a=some o/\H a=none)->c6 a s.heap h'->HOk X.prog X.w H h':=λ{a h'} ha l b ob e=>by
  obtain⟨_,_,qh⟩:=ha;refine(I.hok b ob e).stay (λc Z B q=>(l.2 c ?_).trans q) (λ_ q=>q) λ_ _ q=>q;rintro rfl;rcases B with rfl|B
  .rw[qh]at e;cases e
  .rw[qh]at B;cases B
 rcases hx with F|F
 .refine wpAny_storeName_local F hn (λh' hn' l=>?_) P;obtain⟨oL,_,_,hoL,_⟩:=id hn;refine h _ ⟨I.ok,I.os,I.bare,⟨λb o e n G hx=>?_,λb o e n G hx=>?_,I.base.free,λb o e hx=>?_,I.base.tups,I.base.frzs,I.base.tbls⟩,⟨_,hn',λj y v' t C e3=>?_⟩,λy c e=>?_,I.free,I.freeC,λp hp=>?_,ql ⟨oL,hoL,I.free⟩ l,by simpa using I.len⟩ ⟨_,l,.inl rfl⟩
  .exact(l.2 b<|J1<|B0 (Q0 e) I.ok.above).trans (I.base.keep b o e n G hx)
  .obtain⟨sl,t⟩:=I.base.slot b o e n G hx;exact⟨sl,(l.2 b<|J1<|B0 (Q0 e) I.ok.above).trans t⟩
  .obtain⟨o',t⟩:=I.base.there b o e hx;exact⟨o',(l.2 b<|J1<|B0 (Q0 e) I.ok.above).trans t⟩
  .by_cases L:j=i
   .subst L;rw[hi]at t;cases t;rw[h8 hiσ]at C;cases C;exact⟨u,r,.inl ⟨F,by simp⟩⟩
   .rw[P1<|G3 L]at C;obtain⟨u',r',q⟩:=hl j y v' t C e3;refine⟨u',r',?_⟩;rcases q with⟨k,e⟩|⟨k,c,e,z⟩
    .refine .inl ⟨k,?_⟩;have:y≠x:=λe=>L<|VD hN t<|e ▸ hi;simp[this,e]
    .exact .inr ⟨k,c,e,z.sameBut l<|cne y c e⟩
  .obtain⟨Z,z⟩:=I.cell y c e;exact⟨Z,z.sameBut l<|cne y c e⟩
  .obtain⟨e,n,ne,nf,d⟩:=I.pin p hp;exact⟨(l.2 p.1 ne).trans e,n,ne,nf,d⟩
 .have O:X.fn x=true:=by
   rcases hf with z|z
   .exact z
   .rw[z]at F;cases F
  obtain⟨c,B⟩:=I.ok.has x<|.inl F;obtain⟨Z,z⟩:=I.cell x c B;refine wpAny_storeName_cell I.ok.kind F B z<|λh' qf l=>?_;obtain⟨oc,R,U⟩:=id z;refine h {s with heap:=h'} ⟨I.ok,I.os,I.bare,⟨λb o e n G hx=>?_,λb o e n G hx=>?_,I.base.free,λb o e hx=>?_,I.base.tups,I.base.frzs,I.base.tbls⟩,⟨m,hn.sameBut l<|G3<|cne x c B,λj y v' t C e3=>?_⟩,λy c' e=>?_,I.free,I.freeC,λp hp=>?_,ql ⟨oc,R,I.freeC x c B⟩ l,by simpa using I.len⟩ ⟨c,l,.inr B⟩
  .exact(l.2 b<|J1<|B0 (Q0 e)<|I.ok.cab x c O B).trans (I.base.keep b o e n G hx)
  .obtain⟨sl,t⟩:=I.base.slot b o e n G hx;exact⟨sl,(l.2 b<|J1<|B0 (Q0 e)<|I.ok.cab x c O B).trans t⟩
  .obtain⟨o',t⟩:=I.base.there b o e hx;exact⟨o',(l.2 b<|J1<|B0 (Q0 e)<|I.ok.cab x c O B).trans t⟩
  .by_cases L:j=i
   .subst L;rw[hi]at t;cases t;rw[h8 hiσ]at C;cases C;exact⟨u,r,.inr ⟨.inl F,c,B,qf⟩⟩
   .rw[P1<|G3 L]at C;obtain⟨u',r',q⟩:=hl j y v' t C e3;refine⟨u',r',?_⟩;rcases q with q|⟨k,c',e,z'⟩
    .exact .inl q
    .refine .inr ⟨k,c',e,z'.sameBut l ?_⟩;rintro rfl;exact L<|VD hN t<|I.ok.inj _ _ _ e B ▸ hi
  .by_cases Y:c'=c
   .subst Y;exact⟨_,qf⟩
   .obtain⟨w2,z2⟩:=I.cell y c' e;exact⟨w2,z2.sameBut l Y⟩
  .obtain⟨e,n,ne,nf,d⟩:=I.pin p hp;refine⟨(l.2 p.1 ?_).trans e,n,ne,nf,d⟩;intro q;rw[q,R]at e;have q':oc=p.2:=E3 e;exact d Z (by rw[<-q'];exact U)
theorem WD{M:Model}{i:Nat}{x:Str}{v:V}{Q:Unit->Ge->Prop}(I:Inv X de σ H s)(hN:X.N.Nodup)(hi:X.N[i]?=some x)(hx:HE X.env.scope x)(r:RelV v u)
  (h:∀s',Inv X de (σ.set i<|some v) H s'->Q () s') (hf:X.fn x=true\/X.env.scope.names.lookup x=some .local:=by first|exact .inl rfl|exact .inr rfl|assumption):Ie M A (storeName X.env x u) Q E s :=
 DG I hN hi hx r (λs' a _=>h s' a) hf
theorem Inv.call'(I:Inv X de σ H s)(d:s'.os=s.os)(u:Un (Px X.stack) ch H H' s.heap s'.heap)(a:HOk X.prog X.w H' s'.heap)(i:Hi s'.gens)(j:∀b∈ch,(b∈X.ex\/X.s₀.heap.objs.size<=b)/\b≠X.env.locals/\(∀x c,X.env.cells.lookup x=some c->c≠b)/\∀p∈X.pn++de,p.1≠b):Inv X de σ H' s':=by
 obtain⟨h',g',d',t',k⟩:=s';have e:k=s.os:=d;subst e;exact I.call (g':=g') (t':=t') (d':=d') u a i j
end
noncomputable abbrev XK:=Be->Jn Ee->Hp->Prop
noncomputable abbrev St:=List<|Jn V
noncomputable abbrev VK:=V->Hp->Prop
noncomputable abbrev TE:=St->Hp->VK->Prop
noncomputable abbrev TT:=St->Hp->(Bool->Hp->Prop)->Prop
noncomputable abbrev TA:=St->Hp->(List V->Hp->Prop)->Prop
structure Ends where
 nx:St->Hp->Prop
 rt:VK
 bk:St->Hp->Prop:=λ_ _=>Ln
 ct:St->Hp->Prop:=λ_ _=>Ln
noncomputable abbrev TS:=Ends->St->Hp->Prop
def EP(X:Cx)(de:List (Ee×Obj))(b:St)(Q:VK)(u:Be)(s':Ge):Prop:=∃v a,Inv X de b a s'/\RelV v u/\Q v a
def TP(X:Cx)(de:List (Ee×Obj))(c:St)(Q:Bool->Hp->Prop)(b:Bool)(s':Ge):Prop:=∃a,Inv X de c a s'/\Q b a
def AP(X:Cx)(de:List (Ee×Obj))(c:St)(Q:List V->Hp->Prop)(us:List Be)(s':Ge):Prop:=∃a b,Inv X de c b s'/\Vals a us/\Q a b
def SP(X:Cx)(de:List (Ee×Obj))(D:Ends)(f:Flow)(s':Ge):Prop :=
 match f with
 | .next=>∃a b,Inv X de a b s'/\D.nx a b
 | .brk=>∃a b,Inv X de a b s'/\D.bk a b
 | .cont=>∃a b,Inv X de a b s'/\D.ct a b
 | .ret u=>∃v a b,Inv X de a b s'/\RelV v u/\D.rt v b
def PE(X:Cx)(e:We)(t:TE):Prop:=∀(de:List (Ee×Obj)) (s:Ge) (a:St) (H:Hp) (Q:VK),Inv X de a H s->t a H Q->Ie (Ke X.prog X.w) X.A (Rf e X.env) (EP X de a Q) X.xe s
def PT(X:Cx)(e:We)(t:TT):Prop:=∀(de:List (Ee×Obj)) (s:Ge) (a:St) (H:Hp) (Q:Bool->Hp->Prop),Inv X de a H s->t a H Q->Ie (Ke X.prog X.w) X.A (En e X.env<|Rf e X.env) (TP X de a Q) X.xe s
def PW(X:Cx)(e:We)(t:TT):Prop:=∀(b:Sem Be) (de:List (Ee×Obj)) (s:Ge) (a:St) (H:Hp) (Q:Bool->Hp->Prop),Inv X de a H s->t a H Q->Ie (Ke X.prog X.w) X.A (En e X.env b) (TP X de a Q) X.xe s
theorem PW.pt(h:PW X e t):PT X e t:=h _
def PA(X:Cx)(c:List We)(t:TA):Prop:=∀(a:Pos) (de:List (Ee×Obj)) (s:Ge) (b:St) (H:Hp) (Q:List V->Hp->Prop),Inv X de b H s->t b H Q->Ie (Ke X.prog X.w) X.A (spliced<|Wf a<|Re c X.env) (AP X de b Q) X.xe s
def PS(X:Cx)(st:Ah)(t:TS):Prop:=∀(de:List (Ee×Obj)) (s:Ge) (a:St) (H:Hp) (D:Ends),Inv X de a H s->t D a H->Ie (Ke X.prog X.w) X.A (exec st X.env) (SP X de D) X.xe s
def PSs(X:Cx)(st:List Ah)(t:TS):Prop:=∀(de:List (Ee×Obj)) (s:Ge) (a:St) (H:Hp) (D:Ends),Inv X de a H s->t D a H->Ie (Ke X.prog X.w) X.A (execs st X.env) (SP X de D) X.xe s
theorem vJ{t:Sem α}{Q b:α->Ge->Prop}(h:Ie M A t Q E s)(c:∀a s,Q a s->b a s):Ie M A t b E s:=wpAny_mono h c λ_ _ x=>x
section
variable {X:Cx}
def IK(i:Nat):TE:=λa H Q=>∃v,a[i]?=some (some v)/\Q v H
def tC(v:V):TE:=λ_ H Q=>Q v H
theorem Wz{i:Nat}{x:Str}{b:Pos}(hN:X.N[i]?=some x)(k:UE X.env.scope x)(hd:(x==("__debug__":Str))=false:=by decide)(q:(x==("__classdict__":Str))=false:=by decide):PE X (.Name x b) (IK i):=by
 intro de s t H Q I h;obtain⟨v,e,h⟩:=h;obtain⟨m,w,hl⟩:=I.loc;obtain⟨u,r,l⟩:=hl i x v hN e k;have fin:EP X de t Q u s:=⟨v,H,I,r,h⟩;rcases l with⟨a,y⟩|⟨a,c,d,j⟩
 .exact wpAny_Name (wpAny_loadName_local I.ok.kind a w y fin) hd
 .rcases a with a|a
  .exact wpAny_Name (wpAny_loadName_cell I.ok.kind a d j fin) hd
  .exact wpAny_Name (wpAny_loadName_free I.ok.kind a d j fin q) hd
theorem RV{i j pos}:PE X (.Constant (.int i) j pos) (tC<|.int i):=λ_ _ _ H _ I h=>wpAny_Constant_int ⟨.int i,H,I.tok _,⟨_,rfl⟩,h⟩
theorem SM{b j pos}:PE X (.Constant (.bool b) j pos) (tC<|.bl b):=λ_ _ _ H _ I h=>Constant_bool ⟨.bl b,H,I,rfl,h⟩
theorem DF{x j pos}:PE X (.Constant (.str x) j pos) (tC<|.str x):=λ_ _ _ H _ I h=>Calls.Constant_str ⟨.str x,H,I.tok _,⟨_,rfl⟩,h⟩
def Gl(X:Cx)(x:Str):Prop:=X.env.kindOf x=some .globalImplicit
theorem Qx{b:St}{H:Hp}{x:Str}{a:Pos}(I:Inv X de b H s)(c:Gl X x)(d:X.mg x=some u)(h:Q u s)
  (hd:(x==("__debug__":Str))=false:=by decide):Ie (Ke X.prog X.w) X.A (Rf (.Name x a) X.env) Q E s :=
 Calls.Name_function_global I.ok.kind c (Calls.loadGlobal_global (by rw[I.ok.glob];exact I.mod.glob.keeps I.bk) d h) hd
theorem ZK{b:St}{H:Hp}{x:Str}{a:Pos}(I:Inv X de b H s)(c:Gl X x)(d:X.mg x=none)(e:Qf x=some u)(h:Q u s)
  (i:x ≠ "__name__":=by decide) (hd:(x==("__debug__":Str))=false:=by decide):Ie (Ke X.prog X.w) X.A (Rf (.Name x a) X.env) Q E s:=by
 obtain⟨l,j,k⟩:=I.mod.blt;exact Calls.Name_function_global I.ok.kind c (Calls.loadGlobal_builtin (by rw[I.ok.glob];exact I.mod.glob.keeps I.bk) d (by rw[I.ok.blt];exact j.keeps I.bk) ((k x i).trans e) h) hd
theorem VE{x:Str}{v:V}{a:Pos}(b:Gl X x)(c:X.mg x=some u)(r:RelV v u)(hd:(x==("__debug__":Str))=false:=by decide):PE X (.Name x a) (tC v):=λ_ _ _ H _ I h=>Qx I b c ⟨v,H,I,r,h⟩ hd
theorem Rx{x:Str}{v:V}{a:Pos}(b:Gl X x)(c:X.mg x=none)(d:Qf x=some u)(r:RelV v u)(e:x ≠ "__name__":=by decide)(hd:(x==("__debug__":Str))=false:=by decide):PE X (.Name x a) (tC v):=λ_ _ _ H _ I h=>ZK I b c d ⟨v,H,I,r,h⟩ e hd
variable {a b:We}{ta tb:TE}{pos:Pos}
def tB(t:TE):TT:=λd H Q=>t d H λx e=>∃c,x=.bl c/\Q c e
theorem YN{e:We}{t:TE}(h:PE X e t)(i:∀c,En e X.env c=(do let v<-c;standAt e.pos;Wh [v] (truthy v)):=by intro _;rfl):PT X e (tB t):=by intro de s j H Q I hw;refine isTrue_plain (vJ (h de s j H _ I hw) λv w ⟨x,k,l,m,r⟩=>?_)<|i _;obtain⟨d,rfl,q⟩:=r;cases m;exact Hg ⟨k,l,q⟩
variable {tA tB':TT}{rest:List We}
def ZN(t u:TT):TT:=λd H Q=>t d H λc e=>if c=true then u d e Q else Q false e
def ma(t u:TT):TT:=λd H Q=>t d H λc e=>if c=true then Q true e else u d e Q
def aO(t:TT):TT:=λd H Q=>t d H λc e=>Q (!c) e
theorem XE(d:PT X a tA):PW X (.BoolOp .And [a] pos) tA:=by
 intro j de s i H Q I h;refine isTrue_and<|vJ (d de s i H Q I h) λc k e=>?_;cases c with
 |true=>exact isTrue_and_nil e
 |false=>exact e
theorem bO(d:PT X a tA):PW X (.BoolOp .Or [a] pos) tA:=by
 intro j de s i H Q I h;refine isTrue_or<|vJ (d de s i H Q I h) λc k e=>?_;cases c with
 |false=>exact isTrue_or_nil e
 |true=>exact e
theorem cO(k:PT X a tA)(l:PW X (.BoolOp .And (b::rest) pos) tB'):PW X (.BoolOp .And (a::b::rest) pos) (ZN tA tB'):=by
 intro m de s d H Q I h;refine isTrue_and<|vJ (k de s d H _ I h) λc q ⟨e,i,j⟩=>?_;cases c with
 |true=>exact l m de q d e Q i j
 |false=>exact⟨e,i,j⟩
theorem JS(k:PT X a tA)(l:PW X (.BoolOp .Or (b::rest) pos) tB'):PW X (.BoolOp .Or (a::b::rest) pos) (ma tA tB'):=by
 intro m de s d H Q I h;refine isTrue_or<|vJ (k de s d H _ I h) λc q ⟨e,i,j⟩=>?_;cases c with
 |true=>exact⟨e,i,j⟩
 |false=>exact l m de q d e Q i j
theorem dO(d:PT X a tA):PT X (.UnaryOp .Not a pos) (aO tA):=by intro de s e H Q I h;exact isTrue_not<|d de s e H (λc i=>Q (!c) i) I h
def Ry(ta tb:TE):TE:=λd H Q=>ta d H λx e=>∃c,x=.bl c/\if c=true then tb d e Q else Q (.bl false) e
def Uy(ta:TE):TE:=λd H Q=>ta d H λx e=>∃c,x=.bl c/\Q (.bl<|!c) e
theorem eO(h:PE X a t):PE X (.BoolOp op [a] pos) t:=λde s c H Q I hw=>BoolOp_one<|h de s c H Q I hw
theorem fO(k:PE X a ta)(l:PE X (.BoolOp .And (b::rest) pos) tb):PE X (.BoolOp .And (a::b::rest) pos) (Ry ta tb):=by
 intro de s e H Q I h;refine BoolOp_and<|vJ (k de s e H _ I h) λv m ⟨x,i,j,q,d⟩=>?_;obtain⟨c,rfl,d⟩:=d;cases q;refine Hg ?_;cases c with
 |true=>exact l de m e i Q j d
 |false=>exact⟨.bl false,i,j,rfl,d⟩
theorem iO(e:PE X a ta):PE X (.UnaryOp .Not a pos) (Uy ta):=by intro de s i H Q I h;refine UnaryOp_<|vJ (e de s i H _ I h) λv m ⟨x,j,k,l,d⟩=>?_;obtain⟨c,rfl,d⟩:=d;cases l;exact not_of<|Hg ⟨.bl<|!c,j,k,rfl,d⟩
end
def SqL(K:K0)(H:Hp)(a:Ee)(b:List V):Prop :=
 Rd H a (.lst b) \/
  ∃(o:Obj) (its:Kn Be) (n:Nat),K.lookup a=some o/\o.cls=.type "list"/\o.dict=none/\o.data=.seq its n/\its.size<=sizeLine/\Vals b its.toList
def SqT(K:K0)(H:Hp)(a:Ee)(b:List V):Prop :=
 Rd H a (.tup b) \/
  ∃(o:Obj) (its:Kn Be) (n:Nat),K.lookup a=some o/\o.cls=.type "tuple"/\o.data=.seq its n/\its.size<=sizeLine/\Vals b its.toList
noncomputable def qa:Be->Jn V
 | .none=>some .non
 | .bool b=>some<|.bl b
 | .int i _=>some<|.int i
 | .str x _=>some<|.str x
 | .bytes b _=>some<|.byt b
 | .float b _=>some<|.flt b
 | .ref a=>some<|.ref a
 | .type n=>some<|.ty n
 |_=>none
theorem RelV.abs(r:RelV x u):qa u=some x:=by
 cases x with
 |non=>cases r;rfl
 |bl _=>cases r;rfl
 |int _=>obtain⟨t,rfl⟩:=r;rfl
 |str _=>obtain⟨t,rfl⟩:=r;rfl
 |byt _=>obtain⟨t,rfl⟩:=r;rfl
 |flt _=>obtain⟨t,rfl⟩:=r;rfl
 |ref _=>cases r;rfl
 |ty _=>cases r;rfl
theorem RelV.inj(r:RelV x u)(q:RelV y u):x=y:=E3<|r.abs.symm.trans q.abs
theorem Vals.inj:∀{a b:List V}{us:List Be},Vals a us->Vals b us->a=b
 |_,_,_,.nil,.nil=>rfl
 |_,_,_,.cons r t,.cons c t'=>by rw[r.inj c,Vals.inj t t']
section
variable {X:Cx}{σ:St}{H:Hp}{a:Ee}{xs ys:List V}
theorem SqL.of{K:K0}(h:H a=some (.lst xs)):SqL K H a xs:=.inl<|.inl h
theorem SqT.of{K:K0}(h:H a=some (.tup xs)):SqT K H a xs:=.inl<|.inl h
theorem Inv.list(I:Inv X de σ H s)(h:SqL X.K H a xs):∃its:List Be,Vals xs its/\PlainL s.heap a its.toArray/\xs.length<=sizeLine:=by
 rcases h with h|⟨o,its,n,b,c,hd,d,i,r⟩
 .obtain⟨z,its,n,r,e⟩:=h.ok I.hok;exact⟨its,r,⟨_,n,e,rfl,rfl,rfl⟩,z⟩
 .refine⟨its.toList,r,⟨o,n,I.kIn a o b,c,hd,by simpa using d⟩,?_⟩;have e:=r.length;simp only[Z0]at e;exact le_of_eq_of_le e i
theorem Inv.tuple(I:Inv X de σ H s)(h:SqT X.K H a xs):∃its:List Be,Vals xs its/\Jm s.heap a its.toArray/\xs.length<=sizeLine:=by
 rcases h with h|⟨o,its,n,b,c,d,i,r⟩
 .obtain⟨z,its,r,p⟩:=h.ok I.hok;exact⟨its,r,p.t,z⟩
 .refine⟨its.toList,r,⟨o,I.kIn a o b,c,n,by simpa using d⟩,?_⟩;have e:=r.length;simp only[Z0]at e
  lia
theorem Inv.list_inj(I:Inv X de σ H s)(h:SqL X.K H a xs)(h':SqL X.K H a ys):xs=ys:=by
 obtain⟨its,r,⟨o,n,e,_,_,d⟩,_⟩:=I.list h;obtain⟨b,j,⟨k,l,c,_,_,i⟩,_⟩:=I.list h';rw[e]at c;cases c;rw[d]at i;injection i with d1 _;have:its=b:=by simpa using Te Array.toList d1
 subst this;exact r.inj j
theorem Inv.tuple_inj(I:Inv X de σ H s)(h:SqT X.K H a xs)(h':SqT X.K H a ys):xs=ys:=by
 obtain⟨its,r,⟨o,e,_,n,d⟩,_⟩:=I.tuple h;obtain⟨b,j,⟨k,c,_,l,i⟩,_⟩:=I.tuple h';rw[e]at c;cases c;rw[d]at i;injection i with d1 _;have:its=b:=by simpa using Te Array.toList d1
 subst this;exact r.inj j
end
noncomputable abbrev Cx.wish(X:Cx)(E:Be->Ge->Prop):Cx:={X with xe:=E}
noncomputable abbrev Cx.nox(X:Cx):Cx:=X.wish λ_ _=>Ln
theorem Cx.Ok.wish{X:Cx}(ok:X.Ok)(E:Be->Ge->Prop):(X.wish E).Ok:=⟨ok.mod,ok.kind,ok.glob,ok.blt,ok.above,ok.inj,ok.has,ok.cab,ok.hd,ok.frames,ok.stk,ok.exf,ok.bs,ok.bsz,ok.noex,ok.exfs,ok.funs,ok.frf⟩
theorem Cx.Ok.unwish{X:Cx}(ok:(X.wish E).Ok):X.Ok:=⟨ok.mod,ok.kind,ok.glob,ok.blt,ok.above,ok.inj,ok.has,ok.cab,ok.hd,ok.frames,ok.stk,ok.exf,ok.bs,ok.bsz,ok.noex,ok.exfs,ok.funs,ok.frf⟩
section
variable {X:Cx}{σ:St}{H:Hp}
theorem Inv.wish(I:Inv X de σ H s)(E:Be->Ge->Prop):Inv (X.wish E) de σ H s:=⟨I.ok.wish E,I.os,I.bare,I.base,I.loc,I.cell,I.free,I.freeC,I.pin,I.hok,I.len⟩
theorem Inv.unwish(I:Inv (X.wish E) de σ H s):Inv X de σ H s:=⟨I.ok.unwish,I.os,I.bare,I.base,I.loc,I.cell,I.free,I.freeC,I.pin,I.hok,I.len⟩
theorem SP.unwish{f:Flow}(h:SP (X.wish E) de D f s'):SP X de D f s':=by
 cases f with
 |next=>obtain⟨a,b,I,q⟩:=h;exact⟨a,b,I.unwish,q⟩
 |brk=>obtain⟨a,b,I,q⟩:=h;exact⟨a,b,I.unwish,q⟩
 |cont=>obtain⟨a,b,I,q⟩:=h;exact⟨a,b,I.unwish,q⟩
 |ret u=>obtain⟨v,a,b,I,r,q⟩:=h;exact⟨v,a,b,I.unwish,r,q⟩
theorem PSs.nox{st:List Ah}(h:PSs X.nox st t):PSs X st t:=λde s σ H D I hw=>wpAny_mono (h de s σ H D (I.wish _) hw) (λ_ _ q=>q.unwish) λ_ _ z=>False.elim z
end
section
variable {X:Cx}{st:Ah}{rest:List Ah}{t u:TS}{e:We}{te:TE}{pos:Pos}
def Ux:TS:=λD a H=>D.nx a H
def cv(t u:TS):TS:=λD a H=>t {D with nx:=u D} a H
theorem Vx:PSs X [] Ux:=λ_ _ a H _ I h=>Sh ⟨a,H,I,h⟩
theorem cV(a:PS X st t)(b:PSs X rest u):PSs X (st::rest) (cv t u):=by
 intro de s c H D I h;refine wpAny_execs_cons<|vJ (a de s c H {D with nx:=u D} I h) λf d q=>?_;cases f with
 |next=>obtain⟨σ',H',I',q⟩:=q;exact b de d σ' H' D I' q
 |ret v=>exact q
 |brk=>exact q
 |cont=>exact q
theorem EF(a:PS X st t):PSs X [st] t:=by
 intro de s b H D I h;refine wpAny_execs_cons<|vJ (a de s b H D I h) λf c q=>?_;cases f with
 |next=>exact Sh q
 |ret v=>exact q
 |brk=>exact q
 |cont=>exact q
theorem Inv.quiet{a:St}(I:Inv X de a H s):interactive X.env=false:=by simp[interactive,I.ok.kind]
def XD(te:TE):TS:=λD a H=>te a H λ_ b=>D.nx a b
theorem FF(b:PE X e te)(c:Nh e none pos.line X.env=pure false:=by rfl):PS X (.Expr e pos) (XD te):=by intro de s a H D I h;exact wpAny_Expr_any (vJ (b de s a H _ I h) λv k ⟨x,d,i,l,j⟩=>⟨a,d,i,j⟩) I.quiet c
def fv(te:TE):TS:=λD a H=>te a H D.rt
theorem Xz(b:PE X e te):PS X (.Return (some e) pos) (fv te):=by intro de s a H D I h;exact wpAny_Return_some<|vJ (b de s a H _ I h) λv k ⟨x,c,d,i,j⟩=>⟨x,a,c,d,i,j⟩
def YE(c:TT)(t u:TS):TS:=λD a H=>c a H λb d=>if b=true then t D a d else u D a d
theorem TM(q:PT X c tc)(r:PSs X a t)(v:PSs X b u):PS X (.If c a b pos) (YE tc t u):=by
 intro de s i H D I h;refine wpAny_If<|vJ (q de s i H _ I h) λd j ⟨k,l,m⟩=>?_;cases d with
 |true=>exact r de j i k D l m
 |false=>exact v de j i k D l m
end
noncomputable abbrev TG:=V->St->Hp->(St->Hp->Prop)->Prop
noncomputable abbrev Oy:=List V->St->Hp->(St->Hp->Prop)->Prop
def PG(X:Cx)(d:We)(t:TG):Prop :=
 ∀(de:List (Ee×Obj)) (s:Ge) (b:St) (H:Hp) (v:V) (u:Be) (Q:St->Hp->Prop),Inv X de b H s->RelV v u->t v b H Q ->
  Ie (Ke X.prog X.w) X.A (Bi d X.env u) (λ_ s'=>∃a c,Inv X de a c s'/\Q a c) X.xe s
def ZE(X:Cx)(e:List We)(t:Oy):Prop :=
 ∀(de:List (Ee×Obj)) (s:Ge) (b:St) (H:Hp) (c:List V) (us:List Be) (Q:St->Hp->Prop),Inv X de b H s->Vals c us->t c b H Q ->
  Ie (Ke X.prog X.w) X.A (assignInOrder ((Bf e X.env).map (·.2)) us) (λ_ s'=>∃a d,Inv X de a d s'/\Q a d) X.xe s
noncomputable abbrev jO:=V->V->V->Hp->(Hp->Prop)->Prop
def KS(X:Cx)(t:jO):Prop :=
 ∀(de:List (Ee×Obj)) (s:Ge) (a:St) (H:Hp) (o i v:V) (b c u:Be) (Q:Hp->Prop),Inv X de a H s->RelV o b->RelV i c->RelV v u->t o i v H Q ->
  Ie (Ke X.prog X.w) X.A (Zm b c u) (λ_ s'=>∃d,Inv X de a d s'/\Q d) X.xe s
section
variable {X:Cx}{pos:Pos}
def FY(i:Nat):TG:=λv a H Q=>Q (a.set i<|some v) H
theorem aI{i:Nat}{x:Str}(hN:X.N.Nodup)(hi:X.N[i]?=some x)(hx:HE X.env.scope x)(hf:X.fn x=true\/X.env.scope.names.lookup x=some .local:=by first|exact .inl rfl|exact .inr rfl|assumption):PG X (.Name x pos) (FY i):=by intro de s b H v u Q I r h;exact wpAny_assign_Name<|WD I hN hi hx r (λs' a=>⟨_,H,a,h⟩) hf
noncomputable def LS:Oy:=λa b H Q=>a=[]/\Q b H
noncomputable def UM(t:TG)(u:Oy):Oy:=λb c H Q=>∃v r,b=v::r/\t v c H λa d=>u r a d Q
theorem bI:ZE X [] LS:=by intro de s a H b us Q I r h;obtain⟨e,h⟩:=h;subst e;cases r;exact assignInOrder_nil ⟨a,H,I,h⟩
theorem Vy{e:We}{a:List We}{t:TG}{u:Oy}(c:PG X e t)(d:ZE X a u)
  (i:(Bf (e::a) X.env).map (·.2)=Bi e X.env::(Bf a X.env).map (·.2):=by rfl):ZE X (e::a) (UM t u):=by
 intro de s j H y us Q I r h;obtain⟨v,B,k,h⟩:=h;subst k;cases r with
 |cons r l=>rw[i];refine assignInOrder_cons<|vJ (c de s j H _ _ _ I r h) λ_ m ⟨b,q,w,x⟩=>?_;exact d de m b q _ _ Q w l x
def cI(K:K0)(n:Nat)(t:Oy):TG:=λv c H Q=>∃a b,v=.ref a/\SqT K H a b/\b.length=n/\t b c H Q
theorem kO{c:List We}{k:Nat}{t:Oy}(j:X.calm=true)(h:ZE X c t)
  (l:(Bf c X.env).length=n:=by rfl) (m:(Bf c X.env).findIdx? (·.1)=none:=by rfl):PG X (.Tuple c k pos) (cI X.K n t):=by
 intro de s d H v u Q I r hw;obtain⟨a,q,w,x,hl,hw⟩:=hw;subst w;cases r;obtain⟨its,i,y,C⟩:=I.tuple x;refine assign_Tuple_tuple (I.ok.hd j) y (by simp[l,<-hl,i.length]) m λh' hx=>?_;have B:Inv X de d H {s with heap:=h'}:=I.kept (t':=s.toks) λb o e=>hx b o (J1<|Q0 e) e;exact h de _ d H q _ Q B (by simpa using i) hw
def lO(to b:TE)(t:jO):TG:=λv a H Q=>to a H λo c=>b a c λi d=>t o i v d λe=>Q a e
theorem mO{o i:We}{to d:TE}{t:jO}(e:PE X o to)(hi:PE X i d)(j:KS X t)
  (k:∀v,Bi (.Subscript o i pos) X.env v=(do
    let a<-Wh [v] (Rf o X.env)
    let b<-Wh [v,a] (Rf i X.env)
    standAt pos
    Wh [v,a,b] (Zm a b v)
    release [v,a,b] []):=by intro _;rfl):PG X (.Subscript o i pos) (lO to d t):=by
 intro de s c H v u Q I r h;rw[k];refine Ae<|Ye<|vJ (e de s c H _ I h) λa l ⟨x,m,q,w,B⟩=>?_;refine Ae<|Ye<|vJ (hi de l c m _ q B) λb C ⟨y,F,G,L,M⟩=>?_;refine Ae<|Oi<|Ae<|Ye<|vJ (j de C c F x y v a b u _ G w L r M) λ_ U ⟨O,P,R⟩=>?_;exact wpAny_release ⟨c,O,P,R⟩
def eV(b:TE)(g:TG):TS:=λD a H=>b a H λx c=>g x a c D.nx
theorem Wy{e:We}{a:TE}{g:TG}(c:PE X e a)(d:PG X tg g)(i:Bm [tg] e pos.line X.env=pure false:=by rfl)(hw:Cm [tg] e X.env=pure none:=by rfl)
  (j:(Bf [tg] X.env).map (·.2)=[Bi tg X.env]:=by rfl):PS X (.Assign [tg] e pos) (eV a g):=by
 intro de s b H D I h;refine wpAny_Assign_stores (vJ (c de s b H _ I h) λv k ⟨x,l,m,r,t⟩=>?_) i hw;rw[j];exact vJ (d de k b l x v _ m r t) λ_ w q=>q
theorem Yz{i:Nat}{x:Str}{e:We}{a:TE}{b:Pos}(hN:X.N.Nodup)(hi:X.N[i]?=some x)(hx:HE X.env.scope x)(c:PE X e a)(d:Nh e (some<|.Name x b) pos.line X.env=pure false:=by rfl)(hf:X.fn x=true\/X.env.scope.names.lookup x=some .local:=by first|exact .inl rfl|exact .inr rfl|assumption) :
  PS X (.Assign [.Name x b] e pos) (eV a<|FY i):=by
 intro de s j H D I h;refine wpAny_Assign_Name (vJ (c de s j H _ I h) λv t ⟨y,k,l,m,q⟩=>?_) d;exact WD l hN hi hx m (λw r=>⟨_,k,r,q⟩) hf
end
section
variable {X:Cx}{pos:Pos}
def Zz(c:TT)(k:TS):TS:=λD a H=>∃W:Nat->St->Hp->Prop,(∃m,W m a H)/\∀m a H,W m a H ->
 c a H λb e=>if b=true then ∃N:St->Hp->Prop,(∀d i,N d i->∃j,j<m/\W j d i)/\k {D with nx:=N,ct:=N,bk:=D.nx} a e else D.nx a e
theorem Xy(x:Vm (Ke X.prog X.w) X.A X.env X.xe)(G:PT X c tc)(L:PSs X body tb):PS X (.While c body [] pos) (Zz tc tb):=by
 intro de s M H D I h;obtain⟨W,⟨O,P⟩,turn⟩:=h;refine wpAny_While<|codeAny_whileLoop (λn s'=>∃e y,Inv X de e y s'/\W n e y) ?_ O ⟨M,H,I,P⟩;rintro n R ⟨d,B,U,Y⟩;refine Cg x<|vJ (G de R d B _ U<|turn n d B Y) λb Z ⟨C,F,j⟩=>?_;cases b with
 |true =>
  obtain⟨N,hN,j⟩:=j;rw[De rfl];refine Cg x<|vJ (L de Z d C _ F j) λf s3 k=>?_;cases f with
  |next=>obtain⟨a,i,l,m⟩:=k;obtain⟨q,r,t⟩:=hN a i m;exact⟨q,r,a,i,l,t⟩
  |cont=>obtain⟨a,i,l,m⟩:=k;obtain⟨q,r,t⟩:=hN a i m;exact⟨q,r,a,i,l,t⟩
  |brk=>exact k
  |ret v=>exact k
 |false=>rw[Ce X1];exact Sh ⟨d,C,F,j⟩
end
structure It where
 go:Nat->Hp->Prop
 yld:Nat->Hp->V->Hp->Prop
 stop:Nat->Hp->Prop
def zU(X:Cx)(de:List (Ee×Obj))(H:Hp)(b:Ee):Prop:=H b=none/\b≠X.env.locals/\b∉X.fs/\(b∈X.ex\/X.s₀.heap.objs.size<=b)/\(∀x c,X.env.cells.lookup x=some c->c≠b)/\∀p∈X.pn++de,p.1≠b
theorem Inv.fpOk{d:St}{b:Ee}(I:Inv X de d H s)(a:s.heap.objs.size<=b)(i:H' b=none):zU X de H' b:=by
 refine⟨i,V3<|B0 I.lt a,I.nofs a,.inr<|A0 I.sz a,λx c e z=>?_,λp j z=>?_⟩
 .obtain⟨v,q⟩:=I.cell x c e;exact absurd (B0 q.lt<|by rw[z];exact a)<|T2 _
 .exact absurd (B0 (Q0 (I.pin p j).1)<|by rw[z];exact a) (T2 _)
structure Turn(P:Cf)(w:Xe)(K:K0)(tg:We)(J:It)(fp:List Ee)(it:Ee)(tn:Nat->Gf->Prop):Prop where
 mem:it∈fp
 obj:∀i h,tn i h->∀b∈fp,∃o,h.get? b=some o/\∀v,o.data≠.cell v
 keep:∀i h h',tn i h->(∀b∈fp,∀o,h.get? b=some o->h'.get? b=some o)->tn i h'
 item:∀(X:Cx),X.prog=P->X.w=w->X.K=K->X.calm=true->∀(i:Nat) (de:List (Ee×Obj)) (s:Ge) (σ:St) (H:Hp) (E:Be->Ge->Prop),Inv X de σ H s->(∀b∈fp,zU X de H b)->tn i s.heap->J.go i H ->
  Ie (Ke P w) X.A (Lg<|.ref it) (λr s1=>∃u,r=some u /\
    Ie (Ke P w) X.A (Th tg (.ref it) u) (λ_ s2=>∃x H',Inv X de σ H' s2/\RelV x u/\J.yld i H x H'/\tn (i+1) s2.heap/\∀b∈fp,H' b=none) E s1) E s
 done:∀(X:Cx),X.prog=P->X.w=w->X.K=K->X.calm=true->∀(i:Nat) (de:List (Ee×Obj)) (s:Ge) (σ:St) (H:Hp) (E:Be->Ge->Prop),Inv X de σ H s->(∀b∈fp,zU X de H b)->tn i s.heap->J.stop i H ->
  Ie (Ke P w) X.A (Lg<|.ref it) (λr s1=>r=none/\Inv X de σ H s1) E s
 self:∀(A:Dh) (i:Nat) (s:Ge) (Q:Be->Ge->Prop) (E:Be->Ge->Prop),tn i s.heap->Q (.ref it) s->Ie (Ke P w) A (pyIter<|.ref it) Q E s
noncomputable abbrev TI:=St->Hp->(It->Hp->Prop)->Prop
def uc(X:Cx)(de:List (Ee×Obj))(i:St)(tg:We)(R:It->Hp->Prop)(a:Be)(d:Ge):Prop:=∃(it:Ee) (fp:List Ee) (e:Nat->Gf->Prop) (J:It) (c:Hp),a=.ref it/\Inv X de i c d/\Turn X.prog X.w X.K tg J fp it e/\e 0 d.heap/\(∀b∈fp,zU X de c b)/\R J c
def PI(X:Cx)(tg we:We)(b:TI):Prop :=
 ∀(de:List (Ee×Obj)) (s:Ge) (a:St) (H:Hp) (R:It->Hp->Prop),Inv X de a H s->b a H R ->
  Ie (Ke X.prog X.w) X.A (Rf we X.env) (λv c=>Ie (Ke X.prog X.w) X.A (pyIter v) (uc X de a tg R) X.xe c) X.xe s
theorem Wx{n:String}{Q:Unit->Ge->Prop}(b:s.heap.get? it=some o)(c:o.cls=.type n)(hd:o.data=.fields vs)(d:["enumerate","zip","dict_itemiterator","dict_reverseitemiterator","odict_iterator","itertools.zip_longest","itertools.pairwise"].contains n=false) (a:Q () s):Ie M A (Th tg (.ref it) u) Q E s:=by
 unfold Th;cases tg<;>first
  |exact Fe a
  | (cases u<;>first
      |exact Fe a
      | (refine Ae<|wpAny_load b ?_
         rw[c,hd];show Ie M A (if (["enumerate","zip","dict_itemiterator","dict_reverseitemiterator","odict_iterator","itertools.zip_longest","itertools.pairwise"].contains n&&vs[0]?==some (Zg _))=true then _ else _) Q E s;rw[Ce<|by intro h;rw[d,W7]at h;cases h];exact Fe a))
noncomputable def ua(K:K0)(a:Ee):It:=⟨λi H=>∃b x,SqL K H a b/\b[i]?=some x,λi H x c=>c=H/\∀b,SqL K H a b->b[i]?=some x,λi H=>∃b,SqL K H a b/\b.length<=i⟩
noncomputable def va(K:K0)(a:Ee):It:=⟨λi H=>∃b x,SqT K H a b/\b[i]?=some x,λi H x c=>c=H/\∀b,SqT K H a b->b[i]?=some x,λi H=>∃b,SqT K H a b/\b.length<=i⟩
noncomputable def MS(lo:Int)(n:Nat):It:=⟨λi _=>i<n,λi H x a=>a=H/\x=.int (lo+i),λi _=>n<=i⟩
theorem jv{K:K0}(a it:Ee):Turn P w K tg (ua K a) [it] it (λi h=>h.IsListIter it a i) where
 mem:=by simp
 obj:=λi h st b j=>by
  have e:b=it:=by simpa using j
  subst e;obtain⟨o,e,c,d⟩:=st;exact⟨o,e,λv z=>by rw[d]at z;cases z⟩
 keep:=λi h h' st k=>st.at λo e=>k it (by simp) o e
 item:=by intro X m hw q G i de s L H E I hf st r;subst m hw q;obtain⟨O,x,l,hx⟩:=r;obtain⟨its,t,p,R⟩:=I.list l;obtain⟨u,U,Y⟩:=t.get hx;obtain⟨f0,y,Z,B,C,F⟩:=hf it (by simp);refine Hl st p.isList (x:=u) (by simpa using U) λh' M sb=>?_;have I1:Inv X de L H {s with heap:=h'}:=I.turned (t':=s.toks) (λb o j e=>(sb.2 b j).trans e) f0 y B C F;obtain⟨o,e,c,d⟩:=id M;exact⟨u,rfl,Wx (s:={s with heap:=h'}) e c d (by decide) ⟨x,H,I1,Y,⟨rfl,λys hy=>by rw[I.list_inj hy l];exact hx⟩,M,λb j=>(hf b j).1⟩⟩
 done:=by intro X m hw q G i de s L H E I hf st r;subst m hw q;obtain⟨O,l,hx⟩:=r;obtain⟨its,t,p,R⟩:=I.list l;obtain⟨f0,y,Z,B,C,F⟩:=hf it (by simp);have hl:=t.length;exact Kl (I.ok.hd G) st p.isList (by simp;lia) λh' eb=>⟨rfl,I.turned (t':=s.toks) (λb o j e=>eb b o j e) f0 y B C F⟩
 self:=λ_ _ _ _ _ st h=>wpAny_pyIter_listiter st h
theorem aj{K:K0}(a it:Ee):Turn P w K tg (va K a) [it] it (λi h=>h.IsTupleIter it a i) where
 mem:=by simp
 obj:=λi h st b j=>by
  have e:b=it:=by simpa using j
  subst e;obtain⟨o,e,c,d⟩:=st;exact⟨o,e,λv z=>by rw[d]at z;cases z⟩
 keep:=λi h h' st k=>st.at λo e=>k it (by simp) o e
 item:=by intro X m hw q G i de s L H E I hf st r;subst m hw q;obtain⟨O,x,l,hx⟩:=r;obtain⟨its,t,p,R⟩:=I.tuple l;obtain⟨u,U,Y⟩:=t.get hx;obtain⟨f0,y,Z,B,C,F⟩:=hf it (by simp);refine wpAny_pyNext_tuple_item st (show s.heap.IsTuple a its.toArray from p) (x:=u) (by simpa using U) λh' M sb=>?_;have I1:Inv X de L H {s with heap:=h'}:=I.turned (t':=s.toks) (λb o j e=>(sb.2 b j).trans e) f0 y B C F;obtain⟨o,e,c,d⟩:=id M;exact⟨u,rfl,Wx (s:={s with heap:=h'}) e c d (by decide) ⟨x,H,I1,Y,⟨rfl,λys hy=>by rw[I.tuple_inj hy l];exact hx⟩,M,λb j=>(hf b j).1⟩⟩
 done:=by intro X m hw q G i de s L H E I hf st r;subst m hw q;obtain⟨O,l,hx⟩:=r;obtain⟨its,t,p,R⟩:=I.tuple l;obtain⟨f0,y,Z,B,C,F⟩:=hf it (by simp);have hl:=t.length;exact wpAny_pyNext_tuple_end (I.ok.hd G) st (show s.heap.IsTuple a its.toArray from p) (by simp;lia) λh' eb=>⟨rfl,I.turned (t':=s.toks) (λb o j e=>eb b o j e) f0 y B C F⟩
 self:=λ_ _ _ _ _ st h=>wpAny_pyIter_tupleiter st h
theorem bj{K:K0}(it:Ee)(lo:Int)(n:Nat):Turn P w K tg (MS lo n) [it] it (λi h=>IsRangeIter h it (lo+(i:Nat)*1) ((n:Int)-(i:Nat)) 1) where
 mem:=by simp
 obj:=λi h st b a=>by
  have e:b=it:=by simpa using a
  subst e;exact⟨_,st,λv z=>by have F:Data.fields _=Data.cell v:=z;cases F⟩
 keep:=λi h h' st k=>k it (by simp) _ st
 item:=by intro X c hw d j i de s y H E I hf st l;subst c hw d;obtain⟨f0,m,G,q,r,x⟩:=hf it (by simp);have W:=Walks.range (prog:=X.prog) (w:=X.w) (I.ok.hd j) it lo 1 n;refine W.item i s _ _ l st λv h' B L C kk=>?_;obtain⟨t,rfl⟩:=L;have M:Inv X de y H {s with heap:=h',toks:=B}:=I.turned (λb o a e=>kk b o (by simpa using a) e) f0 m q r x;refine⟨_,rfl,Wx (s:={s with heap:=h',toks:=B}) (n:="range_iterator") C rfl rfl (by decide) ⟨.int<|lo+i,H,M,⟨t,?_⟩,⟨rfl,rfl⟩,C,λb a=>(hf b a).1⟩⟩;rw[Z8]
 done:=by intro X c hw d j i de s y H E I hf st l;subst c hw d;obtain⟨f0,m,G,q,r,x⟩:=hf it (by simp);exact wpAny_pyNext_range_end (I.ok.hd j) st (by have:n<=i:=l;lia) λh' O=>⟨rfl,I.turned (t':=s.toks) (λb o a e=>O b o a e) f0 m q r x⟩
 self:=λ_ _ _ _ _ st h=>wpAny_pyIter_rangeiter st h
section
variable {X:Cx}
theorem YD{a:St}{lo hi:Int}{u:Tok}(I:Inv X de a H s)(d:-(2 ^ 62)<=lo)(i:lo<2 ^ 62)(j:-(2 ^ 62)<=hi)(k:hi<2 ^ 62)(q:R (MS lo (hi-lo).toNat) H):Ie (Ke X.prog X.w) X.A (pyIter<|.ref s.heap.objs.size) (uc X de a tg R) E {s with heap:=s.heap.push {cls:=.type "range",data:=.fields #[.int lo t,.int hi u,.int 1 v]},toks:=tk}:=by
 refine wpAny_pyIter_range (IsRange.new ..) (small_one d i j k) ?_;have c:Inv X de a H {s with heap:=s.heap.push {cls:=.type "range",data:=.fields #[.int lo t,.int hi u,.int 1 v]},toks:=tk}:=I.kept λb o e=>i0 _ e;refine⟨(s.heap.push {cls:=.type "range",data:=.fields #[.int lo t,.int hi u,.int 1 v]}).objs.size,[(s.heap.push {cls:=.type "range",data:=.fields #[.int lo t,.int hi u,.int 1 v]}).objs.size],_,_,H,rfl,
   c.kept (t':=tk) λb o e=>i0 _ e,bj _ lo (hi-lo).toNat,?_,λb l=>?_,q⟩
 .have m:lo+((0:Nat):Int)*1=lo:=by simp
  have r:(((hi-lo).toNat:Nat):Int)-((0:Nat):Int)=PQ lo hi 1:=by rw[rangeSize_one];split<;>lia
  show IsRangeIter _ _ (lo+((0:Nat):Int)*1) ((((hi-lo).toNat:Nat):Int)-((0:Nat):Int)) 1;rw[m,r];exact U0 _ rfl
 .have e:b=(s.heap.push {cls:=.type "range",data:=.fields #[.int lo t,.int hi u,.int 1 v]}).objs.size:=by simpa using l
  subst e;exact c.fpOk (V0 _)<|c.hok.fresh<|V0 _
def Yy(a:TA):TI:=λb H R=>a b H λc d=>∃j:Int,c=[.int j]/\-(2 ^ 62)<=j/\j<2 ^ 62/\R (MS 0 j.toNat) d
def Zy(a:TA):TI:=λb H R=>a b H λc d=>∃i j:Int,c=[.int i,.int j]/\(-(2 ^ 62)<=i/\i<2 ^ 62/\-(2 ^ 62)<=j/\j<2 ^ 62)/\R (MS i (j-i).toNat) d
theorem lv{a:We}{d:TA}{p b:Pos}(i:Gl X "range")(k:X.mg "range"=none)(l:PA X [a] d)(m:Re [a] X.env=[(false,Rf a X.env)]:=by rfl):PI X tg (.Call (.Name "range" p) [a] [] b) (Yy d):=by
 intro de s v H R I h;refine Call_<|ZK I i k boot_range<|u4 (vJ (l b de s v H _ I h) λus C ⟨F,G,w,x,c⟩=>?_) m rfl;obtain⟨j,e,c,y,q⟩:=c;subst e;cases x with
 |cons r B=>cases B;obtain⟨t,rfl⟩:=r;exact call_range_1 (YD w (by lia) (by lia) c y<|by simpa using q)
theorem mv{a b:We}{l:TA}{p c:Pos}(v:Gl X "range")(w:X.mg "range"=none)(x:PA X [a,b] l)(y:Re [a,b] X.env=[(false,Rf a X.env),(false,Rf b X.env)]:=by rfl)(m:Re [b] X.env=[(false,Rf b X.env)]:=by rfl) :
  PI X tg (.Call (.Name "range" p) [a,b] [] c) (Zy l):=by
 intro de s B H R I h;refine Call_ (ZK I v w boot_range<|u4 (vJ (x c de s B H _ I h) λus P ⟨U,Y,C,F,d⟩=>?_) (by rw[y,m])<|by rw[m];rfl);obtain⟨i,j,e,⟨d,G,L,M⟩,q⟩:=d;subst e;cases F with
 |cons r k =>
  cases k with
  |cons O k=>cases k;obtain⟨t,rfl⟩:=r;obtain⟨t',rfl⟩:=O;exact call_range_2<|YD C d G L M q
def nO(j:TI)(g:TG)(k:TS):TS:=λD a H=>j a H λJ l=>∃W:Nat->Nat->St->Hp->Prop,(∃m,W 0 m a l)/\∀i m a H,W i m a H ->
 (J.stop i H/\D.nx a H)\/(J.go i H/\∃N:St->Hp->Prop,(∀b c,N b c->∃e,e<m/\W (i+1) e b c)/\∀x c,J.yld i H x c->g x a c λd q=>k {D with nx:=N,ct:=N,bk:=D.nx} d q)
noncomputable def SV(fp:List Ee)(h:Gf):List (Ee×Obj):=fp.filterMap λb=>(h.get? b).map λo=>(b,o)
theorem oY(a:b∈fp)(e:h.get? b=some o):(b,o)∈SV fp h:=PX.mpr ⟨b,a,by rw[e];rfl⟩
theorem EG{p:Ee×Obj}(a:p∈SV fp h):p.1∈fp/\h.get? p.1=some p.2:=by
 obtain⟨b,c,e⟩:=PX.mp a;cases q:h.get? b with
 |none=>rw[q]at e;cases e
 |some o=>rw[q]at e;have d:(b,o)=p:=E3 e;subst d;exact⟨c,q⟩
theorem Inv.pinned{a:St}(I:Inv X de a H s)(hf:∀b∈fp,zU X de H b)(j:∀b∈fp,∃o,s.heap.get? b=some o/\∀v,o.data≠.cell v):Inv X (de++SV fp s.heap) a H s :=
 I.pins_of λp k=>(O2.mp k).elim (λz=>I.pin p<|K2 _ z) λz=>by obtain⟨c,e⟩:=EG z;obtain⟨f0,l,m,_⟩:=hf p.1 c;obtain⟨o,i,d⟩:=j p.1 c;rw[e]at i;cases i;exact⟨e,f0,l,m,d⟩
theorem Inv.unpinned{a:St}(I:Inv X (de++pl) a H s):Inv X de a H s:=I.pins_of λp b=>I.pin p<|K2 _<|v8 _ b
theorem oO{B:List Ah}{wi:TI}{g:TG}{tb:TS}{R:Pos}(G:Vm (Ke X.prog X.w) X.A X.env X.xe)(hc:X.calm=true)(hi:PI X tg we wi)(hg:PG X tg g)(c:PSs X B tb)
  (hs:∀x,Ig we X.env x=pure x:=by intro _;rfl):PS X (.For tg we B [] R) (nO wi g tb):=by
 intro de s σ H D I h;refine wpAny_For (vJ (hi de s σ H _ I h) λv s1 h1=>vJ h1 λitv s2 h2=>?_) hs;obtain⟨it,fp,tn,J,H2,e,I2,T,si,f2,W,⟨m0,w0⟩,turn⟩:=h2;subst e;have j:∀{y:Hp},(∀b∈fp,y b=none)->∀b∈fp,zU X de y b:=λhn b c=>⟨hn b c,(f2 b c).2⟩;refine codeAny_forLoop_any (λn s'=>∃i k y,Inv X de k y s'/\tn i s'.heap/\(∀b∈fp,y b=none)/\W i n k y) ?_ m0 ⟨0,σ,H2,I2,si,λb c=>(f2 b c).1,w0⟩;rintro n s3 ⟨i,l,P,I3,zp,L,w3⟩;rcases turn i n l P w3 with⟨M,qn⟩|⟨go,N,hN,step⟩
 .refine Cg G (vJ (T.done X rfl rfl rfl hc i de s3 l P X.xe I3 (j L) zp M) λr s4 ⟨U,I4⟩=>?_);subst U;exact Sh ⟨l,P,I4,qn⟩
 .refine Cg G (vJ (T.item X rfl rfl rfl hc i de s3 l P X.xe I3 (j L) zp go) λr s4 ⟨u,U,h4⟩=>?_);subst U;refine Cg G<|vJ h4 λ_ s5 ⟨x,H5,I5,r5,y5,F,Y⟩=>?_;have Z:=I5.pinned (j Y)<|T.obj _ _ F;refine Cg G<|vJ (hg _ s5 l H5 x u _ Z r5<|step x H5 y5) λ_ s6 ⟨σ6,H6,I6,q6⟩=>?_;refine Cg G<|vJ (c _ s6 σ6 H6 _ I6 q6) λf s7 C=>?_;have again:∀{a:St}{q:Hp},Inv X (de++SV fp s5.heap) a q s7->N a q->∃m,m<n/\∃i k y,Inv X de k y s7/\tn i s7.heap/\(∀b∈fp,y b=none)/\W i m k y:=λ{a q} t O=>by
   obtain⟨m',hm,w7⟩:=hN a q O;refine⟨m',hm,i+1,a,q,t.unpinned,T.keep _ _ _ F λb c o e=>(t.pin (b,o)<|K2 _<|K2 _<|oY c e).1,λb c=>?_,w7⟩;obtain⟨o,e,d⟩:=T.obj _ _ F b c;exact(t.pin (b,o)<|K2 _<|K2 _<|oY c e).2.1
  cases f with
  |next=>obtain⟨a,q,t,O⟩:=C;exact again t O
  |cont=>obtain⟨a,q,t,O⟩:=C;exact again t O
  |brk=>obtain⟨a,q,t,C⟩:=C;exact⟨a,q,t.unpinned,C⟩
  |ret v=>obtain⟨x7,a,q,t,r7,C⟩:=C;exact⟨x7,a,q,t.unpinned,r7,C⟩
end
noncomputable abbrev R2:=V->V->Hp->VK->Prop
def OpR(X:Cx)(f:Be->Be->Sem Be)(r:R2):Prop :=
 ∀(de:List (Ee×Obj)) (s:Ge) (a:St) (H:Hp) (x y:V) (v u:Be) (Q:VK),Inv X de a H s->RelV x v->RelV y u->r x y H Q ->
  Ie (Ke X.prog X.w) X.A (f v u) (EP X de a Q) X.xe s
def wa(X:Cx)(f:Be->Sem Be)(r:V->Hp->VK->Prop):Prop :=
 ∀(de:List (Ee×Obj)) (s:Ge) (a:St) (H:Hp) (x:V) (v:Be) (Q:VK),Inv X de a H s->RelV x v->r x H Q ->
  Ie (Ke X.prog X.w) X.A (f v) (EP X de a Q) X.xe s
def YZ(X:Cx)(f:Be)(r:List V->Hp->VK->Prop):Prop :=
 ∀(de:List (Ee×Obj)) (s:Ge) (a:St) (H:Hp) (b:List V) (us:List Be) (Q:VK),Inv X de a H s->Vals b us->r b H Q ->
  Ie (Ke X.prog X.w) X.A (call f us) (EP X de a Q) X.xe s
def dI(r:R2)(b c:TE):TE:=λa H Q=>b a H λx d=>c a d λy e=>r x y e Q
def vc(r:V->Hp->VK->Prop)(a:TE):TE:=λb H Q=>a b H λx c=>r x c Q
def rI(C:Int->Int->Prop)(g:Int->Int->V):R2:=λx y H Q=>∃i j,x=.int i/\y=.int j/\C i j/\Q (g i j) H
def AU(g:Int->Int->V):R2:=λx y H Q=>∃i j,x=.int i/\y=.int j/\Q (g i j) H
def rU(g:Int->V):V->Hp->VK->Prop:=λx H Q=>∃i,x=.int i/\Q (g i) H
section
variable {X:Cx}{a b c:We}{ta tb tc:TE}{pos:Pos}
theorem pO(m:PE X a ta)(q:PE X b tb){de:List (Ee×Obj)}{s:Ge}{d:St}{H:Hp}{R:V->V->Hp->Prop}(I:Inv X de d H s)(h:ta d H λx l=>tb d l λy e=>R x y e) {Q:Be->Ge->Prop}{f:Be->Be->Sem Be}(hf:∀v u k x y e,Inv X de d e k->RelV x v->RelV y u->R x y e->Ie (Ke X.prog X.w) X.A (f v u) Q X.xe k):Ie (Ke X.prog X.w) X.A (Rf a X.env) (λv i=>Ie (Ke X.prog X.w) X.A (Rf b X.env) (λu j=>Ie (Ke X.prog X.w) X.A (f v u) Q X.xe j) X.xe i) X.xe s:=by
 refine vJ (m de s d H _ I h) λv r ⟨x,l,t,B,C⟩=>?_;refine vJ (q de r d l _ t C) λu k ⟨y,e,F,G,L⟩=>?_;exact hf v u k x y e F B G L
theorem NS(d:OpR X (Xf op) r)(e:PE X a ta)(i:PE X b tb):PE X (.BinOp a op b pos) (dI r ta tb):=by intro de s j H Q I h;exact wpAny_BinOp<|pO e i I h λv u k x y l m t w q=>d de k j l x y v u Q m t w q
theorem OS(e:wa X (unaryOp op) r)(i:PE X a ta):PE X (.UnaryOp op a pos) (vc r ta):=by intro de s d H Q I h;exact UnaryOp_<|vJ (i de s d H _ I h) λv j ⟨x,k,l,m,q⟩=>e de j d k x v Q l m q
theorem A_{f:Be->Be->Sem Be}(rule:∀(i j:Int) (t u:Tok) (s:Ge) (Q:Be->Ge->Prop) (E:Be->Ge->Prop),C i j->Q (.int (g i j) s.toks) {s with toks:=s.toks+1}->Ie (Ke X.prog X.w) X.A (f (.int i t)<|.int j u) Q E s):OpR X f (rI C λi j=>.int<|g i j):=by
 intro de s l H x y v u Q I d e h;obtain⟨i,j,rfl,rfl,k,q⟩:=h;obtain⟨t,rfl⟩:=d;obtain⟨t',rfl⟩:=e;exact rule i j t t' s _ _ k ⟨.int<|g i j,H,I.tok _,⟨_,rfl⟩,q⟩
theorem QS{f:Be->Be->Sem Be}(rule:∀(i j:Int) (t u:Tok) (s:Ge) (Q:Be->Ge->Prop) (E:Be->Ge->Prop),Q (.int (g i j) s.toks) {s with toks:=s.toks+1}->Ie (Ke X.prog X.w) X.A (f (.int i t)<|.int j u) Q E s):OpR X f (AU λi j=>.int<|g i j):=by
 intro de s k H x y v u Q I d e h;obtain⟨i,j,rfl,rfl,q⟩:=h;obtain⟨t,rfl⟩:=d;obtain⟨t',rfl⟩:=e;exact rule i j t t' s _ _ ⟨.int<|g i j,H,I.tok _,⟨_,rfl⟩,q⟩
theorem eI{f:Be->Be->Sem Be}{g:Int->Int->Bool}(rule:∀(i j:Int) (t u:Tok) (s:Ge) (Q:Be->Ge->Prop) (E:Be->Ge->Prop),Q (.bool<|g i j) s->Ie (Ke X.prog X.w) X.A (f (.int i t)<|.int j u) Q E s):OpR X f (AU λi j=>.bl<|g i j):=by
 intro de s k H x y v u Q I d e h;obtain⟨i,j,rfl,rfl,q⟩:=h;obtain⟨t,rfl⟩:=d;obtain⟨t',rfl⟩:=e;exact rule i j t t' s _ _ ⟨.bl<|g i j,H,I,rfl,q⟩
def qO(i j:Int):Prop:=0<j/\j<1073741824
def rO(i j:Int):Prop:=0<=j/\j<=1000000/\i.natAbs<2 ^ 64
def CMul(i j:Int):Prop:=(-(2 ^ 64)<i/\i<2 ^ 64)\/(-(2 ^ 64)<j/\j<2 ^ 64)
theorem CMul.ok(h:CMul i j):IntMulOk i j:=by
 rcases h with⟨d,e⟩|⟨d,e⟩
 .exact .of_left (intBits_le_64 d e)
 .exact .of_right (intBits_le_64 d e)
theorem op_add:OpR X (Xf .Add) (AU λi j=>.int<|i+j):=QS λ_ _ _ _ _ _ _ q=>add_int q
theorem sO:OpR X (Xf .Sub) (AU λi j=>.int<|i-j):=QS λ_ _ _ _ _ _ _ q=>sub_int q
theorem op_mul:OpR X (Xf .Mult) (rI CMul λi j=>.int<|i*j):=A_ λ_ _ _ _ _ _ _ d q=>mul_int q d.ok
theorem qW:OpR X (Xf .FloorDiv) (rI qO λi j=>.int<|i / j):=A_ λi j _ _ _ _ _ d q=>by have e:(0:Int)<j:=d.1;have k:j<1073741824:=d.2;exact floordiv_int (b9 e) (by rw[Int.fdiv_eq_ediv_of_nonneg i<|Q1 e];exact q) (.inl<|PyProof.noPylong_small<|by omega)
theorem pY:OpR X (Xf .Mod) (rI (λ_ j=>0<j) λi j=>.int<|i % j):=A_ λi j _ _ _ _ _ e q=>by have d:(0:Int)<j:=e;exact mod_int' (b9 d) (by rw[Int.fmod_eq_emod_of_nonneg i<|Q1 d];exact q)
theorem au:OpR X (Xf .Pow) (rI rO λi j=>.int<|i ^ j.toNat):=A_ λ_ _ _ _ _ _ _ d q=>pow_int_small d.1 d.2.1 d.2.2 q
theorem unI{f:Be->Sem Be}{g:Int->Int}(rule:∀(i:Int) (t:Tok) (s:Ge) (Q:Be->Ge->Prop) (E:Be->Ge->Prop),Q (.int (g i) s.toks) {s with toks:=s.toks+1}->Ie (Ke X.prog X.w) X.A (f<|.int i t) Q E s):wa X f (rU λi=>.int<|g i):=by
 intro de s e H x v Q I d h;obtain⟨i,rfl,q⟩:=h;obtain⟨t,rfl⟩:=d;exact rule i t s _ _ ⟨.int<|g i,H,I.tok _,⟨_,rfl⟩,q⟩
theorem tO:wa X (unaryOp .USub) (rU λi=>.int<|-i):=unI λ_ _ _ _ _ q=>neg_int q
end
noncomputable def RS:V->V->Bool
 | .non,.non=>true | .non,.int _=>true | .int _,.non=>true | .non,.bl _=>true | .bl _,.non=>true | .non,.str _=>true | .str _,.non=>true
 | .int _,.int _=>true | .bl _,.bl _=>true | .str _,.str _=>true | .byt _,.byt _=>true
 | .int _,.str _=>true | .str _,.int _=>true | .bl _,.str _=>true | .str _,.bl _=>true
 |_,_=>false
def B_:R2:=λx y H Q=>RS x y=true/\Q (.bl<|decide<|x=y) H
def C_:R2:=λx y H Q=>RS x y=true/\Q (.bl<|!decide (x=y)) H
theorem FU:decide (V.int i=V.int j)=(i==j):=by rw[G7];simp
theorem bu:decide (V.bl i=V.bl j)=(i==j):=by rw[G7];simp
theorem GU:decide (V.str i=V.str j)=(i==j):=by rw[G7];simp
theorem Xx:decide (V.byt i=V.byt j)=(i.toList==j.toList):=by rw[G7];cases i;cases j;simp
section
variable {X:Cx}{a b c:We}{ta tb tc:TE}{pos:Pos}
theorem NZ{d:St}{Q:VK}(I:Inv X de d H s)(q:Q (.bl k) H)(e:k=k'):EP X de d Q (.bool k') s:=by subst e;exact⟨.bl k,H,I,rfl,q⟩
theorem op_eq:OpR X (Ef .Eq) B_:=by
 intro de s l H x y v u Q I k d h;obtain⟨e,q⟩:=h;cases x with
 |non =>
  cases k;cases y with
  |non=>cases d;exact PySem.EqNone.eq_none_none (NZ I q<|by simp)
  |bl j=>cases d;exact PySem.EqNone.eq_none_bool (NZ I q<|by simp)
  |int j=>obtain⟨t',rfl⟩:=d;exact PySem.EqNone.eq_none_int (NZ I q<|by simp)
  |str j=>obtain⟨t',rfl⟩:=d;exact PySem.EqNone.eq_none_str (NZ I q<|by simp)
  |_=>exact absurd (show false=true from e) X1
 |bl i =>
  cases k;cases y with
  |non=>cases d;exact PySem.EqNone.eq_bool_none (NZ I q<|by simp)
  |bl j=>cases d;exact eq_bool<|NZ I q bu
  |str j=>obtain⟨t',rfl⟩:=d;exact PySem.EqMixed.eq_bool_str (NZ I q<|by simp)
  |_=>exact absurd (show false=true from e) X1
 |int i =>
  obtain⟨t,rfl⟩:=k;cases y with
  |non=>cases d;exact PySem.EqNone.eq_int_none (NZ I q<|by simp)
  |int j=>obtain⟨t',rfl⟩:=d;exact eq_int<|NZ I q FU
  |str j=>obtain⟨t',rfl⟩:=d;exact PySem.EqMixed.eq_int_str (NZ I q<|by simp)
  |_=>exact absurd (show false=true from e) X1
 |str i =>
  obtain⟨t,rfl⟩:=k;cases y with
  |non=>cases d;exact PySem.EqNone.eq_str_none (NZ I q<|by simp)
  |bl j=>cases d;exact PySem.EqMixed.eq_str_bool (NZ I q<|by simp)
  |int j=>obtain⟨t',rfl⟩:=d;exact PySem.EqMixed.eq_str_int (NZ I q<|by simp)
  |str j=>obtain⟨t',rfl⟩:=d;exact eq_str<|NZ I q GU
  |_=>exact absurd (show false=true from e) X1
 |byt i =>
  obtain⟨t,rfl⟩:=k;cases y with
  |byt j=>obtain⟨t',rfl⟩:=d;exact PySem.W.eq_bytes<|NZ I q Xx
  |_=>exact absurd (show false=true from e) X1
 |_=>cases y<;>exact absurd (show false=true from e) X1
theorem op_ne:OpR X (Ef .NotEq) C_:=by
 intro de s l H x y v u Q I k d h;obtain⟨e,q⟩:=h;cases x with
 |non =>
  cases k;cases y with
  |non=>cases d;exact PySem.EqNone.ne_none_none (NZ I q<|by simp)
  |bl j=>cases d;exact PySem.EqNone.ne_none_bool (NZ I q<|by simp)
  |int j=>obtain⟨t',rfl⟩:=d;exact PySem.EqNone.ne_none_int (NZ I q<|by simp)
  |str j=>obtain⟨t',rfl⟩:=d;exact PySem.EqNone.ne_none_str (NZ I q<|by simp)
  |_=>exact absurd (show false=true from e) X1
 |bl i =>
  cases k;cases y with
  |non=>cases d;exact PySem.EqNone.ne_bool_none (NZ I q<|by simp)
  |bl j=>cases d;exact ne_bool<|NZ I q<|Te not bu
  |str j=>obtain⟨t',rfl⟩:=d;exact PySem.EqMixed.ne_bool_str (NZ I q<|by simp)
  |_=>exact absurd (show false=true from e) X1
 |int i =>
  obtain⟨t,rfl⟩:=k;cases y with
  |non=>cases d;exact PySem.EqNone.ne_int_none (NZ I q<|by simp)
  |int j=>obtain⟨t',rfl⟩:=d;exact ne_int<|NZ I q<|Te not FU
  |str j=>obtain⟨t',rfl⟩:=d;exact PySem.EqMixed.ne_int_str (NZ I q<|by simp)
  |_=>exact absurd (show false=true from e) X1
 |str i =>
  obtain⟨t,rfl⟩:=k;cases y with
  |non=>cases d;exact PySem.EqNone.ne_str_none (NZ I q<|by simp)
  |bl j=>cases d;exact PySem.EqMixed.ne_str_bool (NZ I q<|by simp)
  |int j=>obtain⟨t',rfl⟩:=d;exact PySem.EqMixed.ne_str_int (NZ I q<|by simp)
  |str j=>obtain⟨t',rfl⟩:=d;exact ne_str<|NZ I q<|Te not GU
  |_=>exact absurd (show false=true from e) X1
 |byt i =>
  obtain⟨t,rfl⟩:=k;cases y with
  |byt j=>obtain⟨t',rfl⟩:=d;exact PySem.W.ne_bytes<|NZ I q<|Te not Xx
  |_=>exact absurd (show false=true from e) X1
 |_=>cases y<;>exact absurd (show false=true from e) X1
theorem fV:OpR X (Ef .Lt) (AU λi j=>.bl<|decide<|i<j):=eI λ_ _ _ _ _ _ _ q=>lt_int q
theorem iV:OpR X (Ef .LtE) (AU λi j=>.bl<|decide<|i<=j):=eI λ_ _ _ _ _ _ _ q=>le_int q
theorem ZD:OpR X (Ef .Gt) (AU λi j=>.bl<|decide<|j<i):=eI λ_ _ _ _ _ _ _ q=>gt_int q
theorem VM:OpR X (Ef .GtE) (AU λi j=>.bl<|decide<|j<=i):=eI λ_ _ _ _ _ _ _ q=>ge_int q
theorem OpR.or{f:Be->Be->Sem Be}(h:OpR X f r)(h':OpR X f r'):OpR X f (λx y H Q=>r x y H Q\/r' x y H Q):=by
 intro de s d H x y v u Q I e i q;rcases q with q|q
 .exact h de s d H x y v u Q I e i q
 .exact h' de s d H x y v u Q I e i q
theorem cu(b:We){d:CmpOp}(h:d≠.In:=by decide)(e:d≠.NotIn:=by decide):Rh d b=false:=by
 have i:(d==CmpOp.In)=false:=by cases d<;>first|rfl|exact absurd rfl h
 have j:(d==CmpOp.NotIn)=false:=by cases d<;>first|rfl|exact absurd rfl e
 cases b<;>simp[Rh,i,j]
theorem gI(d:OpR X (Ef op) r)(e:PE X a ta)(i:PE X b tb)(j:Rh op b=false):PE X (.Compare a [op] [b] pos) (dI r ta tb):=by intro de s k H Q I h;exact wpAny_Compare1 (pO e i I h λv u l x y m t w B q=>d de l k m x y v u Q t w B q) j
def du(t:TE):TT:=λd H Q=>t d H λx e=>∃k,x=.bl k/\Q k e
theorem Yx(i:OpR X (Ef op) r)(j:PE X a ta)(l:PE X b tb)(m:Rh op b=false):PT X (.Compare a [op] [b] pos) (du<|dI r ta tb):=by
 intro de s d H Q I h;refine wpAny_isTrue_Compare1 (vJ (j de s d H _ I h) λv q ⟨x,t,w,B,C⟩=>vJ (l de q d t _ w C) λu F ⟨y,G,L,M,O⟩=>vJ (i de F d G x y v u _ L B M O) λc Z ⟨z,P,R,U,k,e,Y⟩=>?_) m;subst e;cases U;exact Hg ⟨P,R,Y⟩
def cj(r i:R2)(ta tb tc:TE):TE:=λd H Q=>ta d H λx j=>tb d j λy l=>r x y l λz e=>∃k,z=.bl k /\
 (if k=true then tc d e λm q=>i y m q Q else Q (.bl false) e)
theorem fu{l i:CmpOp}{r m:R2}(C:OpR X (Ef l) r)(F:OpR X (Ef i) m)(G:PE X a ta)(L:PE X b tb)(M:PE X c tc)
  (O:lastMarks [l,i] [b,c]=false:=by with_unfolding_all rfl):PE X (.Compare a [l,i] [b,c] pos) (cj r m ta tb tc):=by
 intro de s j H Q I h;refine Compare_chain (vJ (G de s j H _ I h) λv P ⟨x,R,U,Y,Z⟩=>chain_link<|vJ (L de P j R _ U Z) λu s2 ⟨y,H2,I2,q,q2⟩=>vJ (C de s2 j H2 x y v u _ I2 Y q q2) λd s3 ⟨z,t,w,r3,k,e,B⟩=>?_) O;subst e;cases r3;refine Hg ?_;cases k with
 |false=>exact ite_ff ⟨.bl false,t,w,rfl,B⟩
 |true=>exact ite_tt<|chain_last<|vJ (M de s3 j t _ w B) λw' s4 ⟨z',H4,I4,r4,q4⟩=>F de s4 j H4 y z' u w' Q I4 q r4 q4
theorem GF:(sizeLine:Nat)<2 ^ 63:=by rw[Wm];decide
theorem wK(r:Vals [x] us):∃u,us=[u]/\RelV x u:=by
 cases r with
 |cons d e=>cases e;exact⟨_,rfl,d⟩
theorem eY(r:Vals [x,y] us):∃u d,us=[u,d]/\RelV x u/\RelV y d:=by
 cases r with
 |cons e i =>
  cases i with
  |cons j k=>cases k;exact⟨_,_,rfl,e,j⟩
theorem aq:YZ X (.builtin "abs") (λd H Q=>∃i,d=[.int i]/\Q (.int<|if i<0 then -i else i) H):=by intro de s e H d us Q I r h;obtain⟨i,rfl,q⟩:=h;obtain⟨u,rfl,t,rfl⟩:=wK r;exact call_abs_int λu j=>⟨.int<|if i<0 then -i else i,H,I.tok _,⟨_,rfl⟩,q⟩
theorem nv(l:X.calm=true):YZ X (.builtin "min") (λe H Q=>∃i j,e=[.int i,.int j]/\Q (.int<|if j<i then j else i) H):=by
 intro de s m H e us Q I r h;obtain⟨i,j,rfl,q⟩:=h;obtain⟨u,v,rfl,⟨t,rfl⟩,⟨t',rfl⟩⟩:=eY r;refine min_two_ints (I.ok.hd l) λh' w k=>⟨_,H,I.kept k,?_,q⟩;by_cases d:j<i
 .rw[De d,De d];exact⟨_,rfl⟩
 .rw[Ce d,Ce d];exact⟨_,rfl⟩
theorem qv:YZ X (.type "int") (λd H Q=>(∃i,d=[.int i]/\Q (.int i) H)\/∃k,d=[.bl k]/\Q (.int<|if k then 1 else 0) H):=by
 intro de s j H d us Q I r h;rcases h with⟨i,rfl,q⟩|⟨k,rfl,q⟩
 .obtain⟨u,rfl,t,rfl⟩:=wK r;exact call_int_int ⟨.int i,H,I,⟨_,rfl⟩,q⟩
 .obtain⟨u,rfl,e⟩:=wK r;cases e;exact call_int_bool ⟨.int<|if k then 1 else 0,H,I.tok _,⟨_,rfl⟩,q⟩
end
structure ObjM(h:Gf)(x dx C:Ee)(mA:Str->Jn Be):Prop where
 obj:h.get? x=some (dZ C dx)
 ns:h.Ns1 dx mA
 ne:dx≠x
section
variable {w:Xe}{K:K0}{x dx C:Ee}{mA:Str->Jn Be}{v:Be}
end
theorem RelO.some_of{o:Jn Be}(r:RelO (some v) o):∃u,o=some u/\RelV v u:=by
 cases o with
 |none=>exact(show Ln from r).elim
 |some u=>exact⟨u,rfl,r⟩
section
variable {P:Cf}{w:Xe}{H H':Hp}{a C dx:Ee}{fs fs':List (Str×V)}
end
structure Cls(K:K0)(C:Ee):Prop where
 pg:PySem.W.plainGet K C Str.empty=true
 hd:PySem.W.hasDictIn K C=true
 po:PySem.W.plainOver K C=true
 sa:k9 K (.ref C) "__setattr__"=some (some<|.builtin "object.__setattr__")
structure Con(K:K0)(C:Ee)(f:Str)(v:V)(u:Be):Prop where
 at_:k9 K (.ref C) f=some (some u)
 rel:RelV v u
 get:YX K u "__get__"=some none
 cp:PySem.W.copiedNames.contains f=false
structure Meth(K:K0)(C:Ee)(m:Str)(f:Ee):Prop where
 at_:k9 K (.ref C) m=some (some<|.ref f)
 fn:PySem.W.isFn K (.ref f)=true
 kp:t7 K (.ref f)=true
section
variable {X:Cx}{σ:St}{H:Hp}{a C dx:Ee}{fs:List (Str×V)}{f:Str}{v:V}
end
section
variable {X:Cx}{o e value:We}{f:Str}{pos ze kg:Pos}{ta tv:TE}
end
section
variable {X:Cx}{σ:St}{H:Hp}{c:Be}{b:Bool}
inductive TyOf (K:K0) (H:Hp):V->Be->Prop where
 |non:TyOf K H .non (.type "NoneType")
 |bl (x:Bool):TyOf K H (.bl x) (.type "bool")
 |int (i:Int):TyOf K H (.int i) (.type "int")
 |str (x:Str):TyOf K H (.str x) (.type "str")
 |flt (x:UInt64):TyOf K H (.flt x) (.type "float")
 |lst {a:Ee}{xs:List V} (e:H a=some (.lst xs)):TyOf K H (.ref a) (.type "list")
 |frz {a:Ee}{o:Obj}{xs:List V} (e:H a=some (.frz o<|.lst xs)):TyOf K H (.ref a) (.type "list")
 |tup {a:Ee}{xs:List V} (e:H a=some (.tup xs)):TyOf K H (.ref a) (.type "tuple")
 |dK {a:Ee}{fe:List (VZ×V)} (e:H a=some (.dK fe)):TyOf K H (.ref a) (.type "dict")
 |dT {a:Ee}{fe:List (List VZ×V)} (e:H a=some (.dT fe)):TyOf K H (.ref a) (.type "dict")
 | ins {a C dx:Ee}{fs:List (Str×V)} (e:H a=some (.ins C dx fs)) (cl:Cls K C) (ha:k9 K (.ref C) "__class__"=some (some<|.builtin "object.__class__"))
   (hn:YX K (.builtin "object.__class__") "__get__"=some (some<|.builtin "getset_descriptor.__get__")) (htk:PySem.W.takesIn K (.builtin "object.__class__")=some true)
   (hm:PySem.W.mroIn K C (.type "object")=some true):TyOf K H (.ref a) (.ref C)
end
structure Room(k:Nat)(A:Dh):Prop where
 hd:A.handled=none
 dp:A.depth+3*k+5<recursionLimit
 un:A.units+16*k+200<Mf
 gd:A.guards=some []
theorem Room.mono(r:Room k A)(h:j<=k):Room j A:=⟨r.hd,by have:=r.dp;lia,by have:=r.un;lia,r.gd⟩
theorem Room.m{j k:Nat}(r:Room k A)(h:j<=k:=by first|decide|omega):Room j A:=r.mono h
theorem Room.deeper(r:Room (k+1) A)(env:Env):Room k (A.deeper env):=⟨r.hd,by have:=r.dp;show A.depth+1+3*k+5<_;lia,by have:=r.un;show A.units+3+16*k+200<_;lia,r.gd⟩
theorem Room.depth(r:Room k A):A.depth<recursionLimit:=by have:=r.dp;lia
theorem Room.units(r:Room k A):A.units+64<Mf:=by have:=r.un;lia
def sv:TA:=λ_ H Q=>Q [] H
def DW(b:TE)(c:TA):TA:=λa H Q=>b a H λx d=>c a d λe i=>Q (x::e) i
section
variable {X:Cx}{e:We}{es:List We}{te:TE}{t:TA}{pos:Pos}
theorem TV:PA X [] sv:=λ_ _ _ _ H Q I h=>Calls.spliced_nil ⟨[],H,I,.nil,h⟩
theorem cK(b:PE X e te)(c:PA X es t)(d:Re (e::es) X.env=(false,Rf e X.env)::Re es X.env:=by rfl):PA X (e::es) (DW te t):=by intro pos de s a H Q I h;rw[d];show Ie _ _ (spliced ((false,Rf e X.env)::Wf pos (Re es X.env))) _ _ s;refine Calls.spliced_cons<|vJ (b de s a H _ I h) λu i ⟨x,j,k,l,m⟩=>?_;exact vJ (c pos de i a j _ k m) λus B ⟨q,r,v,w,y⟩=>⟨x::q,r,v,.cons l w,y⟩
def uO(t:TA):TE:=λc H Q=>t c H λa b=>a.length<=sizeLine/\∀p,b p=none->Q (.ref p) (bJ b p<|.tup a)
def vO(t:TA):TE:=λc H Q=>t c H λa b=>a.length<=sizeLine/\∀p,b p=none->Q (.ref p) (bJ b p<|.lst a)
theorem wO{x1}(h:PA X es t):PE X (.Tuple es x1 pos) (uO t):=by intro de s i H Q I j;refine wpAny_Tuple_spliced<|vJ (h pos de s i H _ I j) λus a ⟨k,c,d,r,z,q⟩=>⟨by rw[<-r.length];exact z,?_⟩;have hf:c a.heap.objs.size=none:=d.hok.fresh<|V0 _;refine⟨.ref a.heap.objs.size,bJ c a.heap.objs.size<|.tup k,d.laid (t':=a.toks) (λb u e=>i0 _ e) (V0 _) ?_,rfl,q _ hf⟩;exact⟨z,us,r,⟨_,U0 _ rfl,rfl,_,rfl,rfl⟩⟩
theorem xO(h:PA X es t):PE X (.List es pos) (vO t):=by intro de s i H Q I j;refine wpAny_List_spliced<|vJ (h pos de s i H _ I j) λus a ⟨k,c,d,r,z,q⟩=>⟨by rw[<-r.length];exact z,?_⟩;have hf:c a.heap.objs.size=none:=d.hok.fresh<|V0 _;refine⟨.ref a.heap.objs.size,bJ c a.heap.objs.size<|.lst k,d.laid (t':=a.toks) (λb u e=>i0 _ e) (V0 _) ?_,rfl,q _ hf⟩;exact⟨z,us,0,r,U0 _ rfl⟩
end
noncomputable abbrev Sp:=List V->Hp->VK->XK->Prop
noncomputable abbrev gu:=List Env->Hp->Ge->XK->Be->Ge->Prop
structure Env0(P:Cf)(w:Xe)(K:K0)(mg:Str->Jn Be)(base:Gf)(A:Dh)(outer:List Env)(s:Ge)(H:Hp):Prop where
 frames:A.frames=some outer
 mod:Mod K mg base
 bs:∀b o,base.get? b=some o->s.heap.get? b=some o/\H b=none
 bsz:base.objs.size<=s.heap.objs.size
 funs:s.heap.FunFrames base outer
 frf:∀b∈Px outer,H b=none
 hok:HOk P w H s.heap
 bare:Hi s.gens
def CE(outer:List Env)(P:Cf)(w:Xe)(H:Hp)(s:Ge)(Q:VK)(u:Be)(s':Ge):Prop:=∃v a,s'.os=s.os/\Hi s'.gens/\Un (Px outer) [] H a s.heap s'.heap/\HOk P w a s'.heap/\RelV v u/\Q v a
def CR(a:gu)(outer:List Env)(P:Cf)(w:Xe)(H:Hp)(s:Ge)(Q:VK)(E:XK)(r:Fn)(s':Ge):Prop :=
 match r with
 | .ok (.ret u)=>CE outer P w H s Q u s'
 | .ok _=>Ln
 | .error e=>a outer H s E e s'
structure FnOk(P:Cf)(w:Xe)(K:K0)(mg:Str->Jn Be)(base:Gf)(CX:gu)(k:Nat)(f:Ee)(fd:Yg)(ps:List Str)(sp:Sp):Prop where
 len:∀vs H Q E,sp vs H Q E->vs.length=ps.length
 run:∀(A:Dh) (outer:List Env) (s:Ge) (H:Hp) (args:Args) (us:List Be) (vs:List V) (Q:VK) (E:XK),Room k A->Env0 P w K mg base A outer s H->Wl s fd args (ps.zip us)->Vals vs us->sp vs H Q E ->
  Yh (Ke P w) A (.call (.ref f) args) (CR CX outer P w H s Q E) s
section
variable {X:Cx}{σ:St}{H:Hp}
theorem Inv.env0(I:Inv X de σ H s):Env0 X.prog X.w X.K X.mg X.base X.A X.stack s H:=⟨I.ok.frames,I.ok.mod,I.bs,A0 I.ok.bsz I.sz,I.stack,I.stkFree,I.hok,I.bare⟩
theorem Inv.after{Q:VK}(I:Inv X de σ H s)(h:CE X.stack X.prog X.w H s Q u s'):EP X de σ Q u s':=by obtain⟨v,i,os,a,un,c,r,q⟩:=h;obtain⟨j,g,d,t,e⟩:=s';obtain rfl:e=s.os:=os;exact⟨v,i,I.call (h':=j) (g':=g) (d':=d) (t':=t) (ch:=[]) un c a (λb z=>absurd z<|by simp),r,q⟩
end
def VU(a:Sp)(b:List V)(E:XK)(t:TA):TE:=λc H Q=>t c H λd e=>a (d++b) e Q E
def Binds(K:K0)(fd:Yg)(a:List Str)(b:List Be):Prop:=∀(s:Ge) (us:List Be),K.In s.heap->(us++b).length=a.length->Wl s fd ⟨us,[]⟩ (a.zip<|us++b)
theorem Binds.all{K:K0}(h:∀us:List Be,us.length=ps.length->bindArgs fd ⟨us,[]⟩=pure (ps.zip us)):Binds K fd ps []:=λs us _ hl=>by rw[Z2]at hl ⊢;exact .of_eq<|h us hl
def dj(a:gu)(X:Cx)(E:XK):Prop:=∀(de:List (Ee×Obj)) (b:St) (H:Hp) (s:Ge) (e:Be) (s':Ge),Inv X de b H s->a X.stack H s E e s'->X.xe e s'
section
variable {X:Cx}{CX:gu}{k:Nat}{C:Ee}{ps:List Str}{sp:Sp}{ur:List V}{ds:List Be}{E:XK}{x m:Str}{p pos wf:Pos}{e o:We}{es:List We}{ta:TE}{t:TA}
theorem yO{b:St}{Q:VK}(F:FnOk X.prog X.w X.K X.mg X.base CX k f fd ps sp)(i:Room k X.A)(j:Binds X.K fd ps ds)(hd:Vals ur ds)(hx:dj CX X E)(I:Inv X de b H s) (r:Vals c us) (h:sp (c++ur) H Q E):Ie (Ke X.prog X.w) X.A (call (.ref f) us) (EP X de b Q) X.xe s:=by
 have d:Vals (c++ur) (us++ds):=r.append hd;have hl:(us++ds).length=ps.length:=by rw[<-d.length];exact F.len _ _ _ _ h
 refine wpAny_call<|Pm (F.run X.A X.stack s H ⟨us,[]⟩ (us++ds) (c++ur) Q E i I.env0 (j s us I.kIn hl) d h) λr s' a=>?_;cases r with
 |error e=>exact hx de b H s e s' I a
 |ok fl =>
  cases fl with
  |ret u=>exact I.after a
  |next=>exact False.elim a
  |brk=>exact False.elim a
  |cont=>exact False.elim a
theorem iI(F:FnOk X.prog X.w X.K X.mg X.base CX k f fd ps sp)(b:Room k X.A)(c:Gl X x)(d:X.mg x=some (.ref f))(i:t7 X.K (.ref f)=true)(j:Binds X.K fd ps ds)(hd:Vals ur ds)(hx:dj CX X E)
  (l:PA X (e::es) t) (v:(x==("__debug__":Str))=false:=by decide) (y:Re (e::es) X.env=(false,Rf e X.env)::Re es X.env:=by rfl) (B:(Wf pos<|Re es X.env).any (·.1)=false:=by rfl) :
  PE X (.Call (.Name x p) (e::es) [] pos) (VU sp ur E t):=by
 intro de s G H Q I h;refine Fh<|Qx I c d ?_ v;refine PySem.W.callWith_K (h₀:=X.base) I.ok.mod.kin i (vJ (l pos de s G H _ I h) λus L ⟨M,O,a,r,q⟩=>⟨a.kIn,?_⟩) y B;exact yO F b j hd hx a r q
structure Mk(K:K0)(C f:Ee):Prop where
 makes:PySem.W.makesIn K C=true
 init:k9 K (.ref C) "__init__"=some (some<|.ref f)
 fn:PySem.W.isFn K (.ref f)=true
 kp:t7 K (.ref C)=true
end
section
variable {X:Cx}{CX:gu}{k:Nat}{C:Ee}{ps ks:List Str}{sp:Sp}{E:XK}{x m:Str}{p pos wf kpos:Pos}{e o:We}{es:List We}{kws:List Qh}{te ta:TE}{t tk:TA}{nm:Jn Str}
structure KBinds(K:K0)(fd:Yg)(ps ks:List Str)(g:List Be->List Be->List Be)(gV:List V->List V->List V):Prop where
 to:∀(s:Ge) (us ws:List Be),K.In s.heap->(g us ws).length=ps.length->Wl s fd ⟨us,ks.zip ws⟩ (ps.zip<|g us ws)
 rel:∀{vs:List V}{us:List Be}{zs:List V}{ws:List Be},Vals vs us->Vals zs ws->Vals (gV vs zs) (g us ws)
variable {g:List Be->List Be->List Be}{gV:List V->List V->List V}
end
structure FnScope(N P:List Str)(sc:Am):Prop where
 kind:sc.kind=.function:=by rfl
 co:sc.isCoroutine=false:=by rfl
 gen:sc.isGenerator=false:=by rfl
 nd:N.Nodup:=by decide +kernel
 pre:N.take P.length=P:=by rfl
 par:∀x∈P,sc.names.lookup x=some .local\/sc.names.lookup x=some .cell:=by decide +kernel
 nofree:∀y∈sc.names,y.2≠.free:=by decide +kernel
theorem FG{kindOf:Str->Jn Qg}{x:Str}:∀{binds:List (Str×Be)}{m:Str->Jn Be},(∀v,(x,v)∉binds)->Bn kindOf binds m x=m x
 |[],_,_=>rfl
 |(n,v)::r,m,h=>by
  unfold Bn;rw[FG λw hw=>h w<|G0 _ hw];split
  .have:x≠n:=by rintro rfl;exact h v L0
   simp[this]
  .rfl
theorem GG{kindOf:Str->Jn Qg}{x:Str}:∀{binds:List (Str×Be)}{m:Str->Jn Be},(∀v,(x,v)∉binds)->Cn kindOf binds m x=m x
 |[],_,_=>rfl
 |(n,v)::r,m,h=>by
  unfold Cn;rw[GG λw hw=>h w<|G0 _ hw];split
  .rfl
  .have:x≠n:=by rintro rfl;exact h v L0
   simp[this]
theorem HG{kindOf:Str->Jn Qg}{x:Str}{v:Be}:∀{P:List Str}{a:List Be}{i:Nat}{m:Str->Jn Be},P.Nodup->P[i]?=some x->a[i]?=some v->kindOf x=some .local -> Bn kindOf (P.zip a) m x=some v
 |[],_,_,_,_,h,_,_=>by simp at h
 |_::_,[],_,_,_,_,h,_=>by simp at h
 |p::P,w::a,0,m,d,b,c,e=>by simp at b c;subst b;subst c;show Bn kindOf ((p,w)::P.zip a) m p=_;unfold Bn;rw[FG λv j=>(w6.mp d).1 (x6 j).1,De e];simp
 |p::P,w::a,i+1,m,d,b,c,e=>by show Bn kindOf ((p,w)::P.zip a) m x=_;unfold Bn;exact HG (i:=i) (w6.mp d).2 (by simpa using b) (by simpa using c) e
theorem IG{kindOf:Str->Jn Qg}{x:Str}{v:Be}:∀{P:List Str}{a:List Be}{i:Nat}{m:Str->Jn Be},P.Nodup->P[i]?=some x->a[i]?=some v->kindOf x≠some .local -> Cn kindOf (P.zip a) m x=some v
 |[],_,_,_,_,h,_,_=>by simp at h
 |_::_,[],_,_,_,_,h,_=>by simp at h
 |p::P,w::a,0,m,d,b,c,e=>by simp at b c;subst b;subst c;show Cn kindOf ((p,w)::P.zip a) m p=_;unfold Cn;rw[GG λv j=>(w6.mp d).1 (x6 j).1,Ce e];simp
 |p::P,w::a,i+1,m,d,b,c,e=>by show Cn kindOf ((p,w)::P.zip a) m x=_;unfold Cn;exact IG (i:=i) (w6.mp d).2 (by simpa using b) (by simpa using c) e
noncomputable def start(N:List Str)(a:List V):St:=a.map some++B1 (N.length-a.length) none
noncomputable def HF(c:gu)(P:Cf)(w:Xe)(K:K0)(mg:Str->Jn Be)(base:Gf)(N:List Str)(qual:Str)(scope:Am)(f:Ee)(a:Be)(A:Dh)(outer:List Env)(s:Ge)(H:Hp)(E:XK):Cx where
 prog:=P
 w:=w
 K:=K
 mg:=mg
 base:=base
 A:=A.deeper (Ai qual scope s.heap.objs.size f a)
 N:=N
 s₀:=s
 H₀:=H
 env:=Ai qual scope s.heap.objs.size f a
 outer:=outer
 stack:=Ai qual scope s.heap.objs.size f a::outer
 ex:=[]
 calm:=true
 fn:=λ_=>true
 pn:=[]
 xe:=λe s'=>Ie (Ke P w) (A.deeper<|Ai qual scope s.heap.objs.size f a) (leaving (Ai qual scope s.heap.objs.size f a) e) (λ_ b=>c outer H s E e b) (λd b=>c outer H s E d b) s'
theorem jV(h:sc.names.lookup x=some .cell):∃c,(Ff n sc.names []).lookup x=some c:=by have q:=ZQ sc.names n []<|.inl h;exact EQ.mp q
theorem uv{K:K0}{E:XK}(S:FnScope N ps scope) (hd:A.handled=none) (j:Env0 P w K mg base A outer s H) (hl:vs.length=ps.length) (r:Vals vs us)(x:InCallC s s.heap.objs.size (Bn (Ai qual scope s.heap.objs.size f cd).kindOf (ps.zip us) λ_=>none) (Ff (s.heap.objs.size+1) scope.names []) (Cn (Ai qual scope s.heap.objs.size f cd).kindOf (ps.zip us) λ_=>none) s1):Inv (HF CX P w K mg base N qual scope f cd A outer s H E) [] (start N vs) H s1:=by
 have G:ps.length<=N.length:=by have:=Te E5 S.pre;rw[B5]at this;lia
 obtain⟨B,M,rfl,C⟩:=x.done;have l:∀b:Ee,b∉(HF CX P w K mg base N qual scope f cd A outer s H E).ex:=λb z=>absurd (show b∈([]:List Ee) from z) (by simp);refine⟨⟨j.mod,S.kind,rfl,rfl,V0 _,λy z c B d=>?_,λy hy=>?_,λy c _ h=>?_,λ_=>hd,Around.frames_deeper j.frames,.inr ⟨rfl,rfl⟩,λb z=>absurd z<|l b,j.bs,j.bsz,λb _ _=>l b,λb z=>absurd z<|l b,j.funs,j.frf⟩,
   rfl,j.bare,Un.kept C,⟨_,x.toInCall.ns,λi y v B d O=>?_⟩,λy c h=>⟨_,x.cell y c h⟩,j.hok.fresh<|V0 _,λy c h=>?_,λp m=>absurd (show p∈([]:List (Ee×Obj)) from m)<|by simp,j.hok.kept C,?_⟩
 .exact name_of_addr x.apart (PySem.mem_of_lookup B) (PySem.mem_of_lookup d)
 .have hy:scope.names.lookup y=some .cell\/scope.names.lookup y=some .free:=hy;rcases hy with hy|hy
  .exact jV hy
  .exact absurd rfl (S.nofree _<|PySem.mem_of_lookup hy)
 .exact N1 (x.above y c<|PySem.mem_of_lookup h)
 .have hi:i<vs.length:=by
   unfold start at d;by_cases hi:i<vs.length
   .exact hi
   .rw[S2<|by simpa using hi]at d;rw[QQ]at d;split at d<;>cases d
  have I:vs[i]?=some v:=by
   unfold start at d;rw[A3 (by simpa using hi),S1]at d;cases e:vs[i]? with
   |none=>rw[e]at d;cases d
   |some a=>rw[e]at d;cases d;rfl
  obtain⟨u,F,L⟩:=r.get I;have m:ps[i]?=some y:=by rw[<-S.pre,FQ<|B0 hi<|P0 hl];exact B
  have t:ps.Nodup:=by rw[<-S.pre];exact S.nd.sublist<|sQ _ _
  refine⟨u,L,?_⟩;rcases S.par y (O3 m) with k|k
  .exact .inl ⟨k,HG t m F k⟩
  .obtain⟨c,e⟩:=jV (n:=s.heap.objs.size+1) k;refine .inr ⟨.inl k,c,e,?_⟩;have q:=x.cell y c e;rw[IG t m F<|by show scope.names.lookup y≠_;rw[k];decide]at q;exact q
 .exact j.hok.fresh (N1<|x.above y c<|PySem.mem_of_lookup h)
 .unfold start;show _=N.length;rw[R0,g0,E9];exact M3<|le_of_eq_of_le hl G
theorem SS{C:gu}{P:Cf}{w:Xe}{K:K0}{mg:Str->Jn Be}{base:Gf}{k:Nat}{a:Arguments}{c:List Ah}{R kV U X l Y oc:Be}{Z od:Jn Ee}{qm:Kn (Jn Be)}{F:List Str}{G:Sp} (lk:K.lookup f=some ⟨oc,od,.func<|L7 name qual a c scope R kV U X Z l Y,qm⟩) (lh:jQ K l qual=true) (S:FnScope N F scope)(len:∀d H Q E,G d H Q E->d.length=F.length)(vn:∀(A:Dh) (outer:List Env) (s:Ge) (H:Hp) (d:List V) (Q:VK) (E:XK),Room k (A.deeper<|Ai qual scope s.heap.objs.size f l)->G d H Q E -> ∃t,PSs (HF C P w K mg base N qual scope f l A outer s H E) c t/\t {nx:=λ_ j=>Q .non j,rt:=Q} (start N d) H):FnOk P w K mg base C (k+1) f (L7 name qual a c scope R kV U X Z l Y) F G:=by
 refine⟨len,λA outer s H args us d Q E L B hb r qr=>?_⟩;have hl:=len _ _ _ _ qr;have KX:K.In s.heap:=B.mod.kin.keeps λb o e=>(B.bs b o e).1;have M:s.heap.NoLimit:=B.mod.nolimit.keeps λb o e=>(B.bs b o e).1;have cn:∀y∈F.zip us,scope.names.lookup y.1=some .local\/(scope.names.lookup y.1=some .cell/\((Ff (s.heap.objs.size+1) scope.names []).lookup y.1).isSome=true):=λ⟨n,v⟩ hy=>by
  rcases S.par n (x6 hy).1 with q|q
  .exact .inl q
  .exact .inr ⟨q,ZQ _ _ _<|.inl q⟩
 refine codeAny_call_function L.depth (KX _ _ lk) rfl S.co S.gen rfl (PySem.W.codeRec_of KX lh)<|hb _ _ _ _ ?_;refine wpAny_newFunctionEnv_cells S.kind cn λenv he s1 x=>?_;subst he;refine⟨M.keeps x.toInCall.keep,codeAny_func ?_⟩;obtain⟨t,ht,hq⟩:=vn A outer s H d Q E (L.deeper _) qr;have I:Inv (HF C P w K mg base N qual scope f l A outer s H E) [] (start N d) H s1:=uv S L.hd B hl r x;refine wpAny_mono (ht [] s1 (start N d) H _ I hq) (λfl s' m=>?_) λe s' m=>m;have fin:∀{i:St}{j:Hp}{v:V}{u:Be},Inv (HF C P w K mg base N qual scope f l A outer s H E) [] i j s'->RelV v u->Q v j->CE outer P w H s Q u s':=λ{i j v u} J O q=>⟨v,j,J.os,J.bare,J.base,J.hok,O,q⟩;cases fl with
 |ret u=>obtain⟨v,i,j,J,O,q⟩:=m;exact fin J O q
 |next=>obtain⟨i,j,J,q⟩:=m;exact fin (v:=V.non) (u:=S7) J rfl q
 |brk=>obtain⟨_,_,_,q⟩:=m;exact False.elim q
 |cont=>obtain⟨_,_,_,q⟩:=m;exact False.elim q
section
variable {X:Cx}{x:Str}{p pos:Pos}{e:We}{es:List We}{t:TA}{id T:String}{r:List V->Hp->VK->Prop}
def wS(r:List V->Hp->VK->Prop)(t:TA):TE:=λa H Q=>t a H λb c=>r b c Q
theorem WU(b:YZ X (.builtin id) r)(c:Gl X x)(d:X.mg x=none)(i:Qf x=some (.builtin id))(j:PA X (e::es) t)(k:x ≠ "__name__":=by decide)(l:(x==("__debug__":Str))=false:=by decide)
  (m:Re (e::es) X.env=(false,Rf e X.env)::Re es X.env:=by rfl) (q:(Wf pos<|Re es X.env).any (·.1)=false:=by rfl):PE X (.Call (.Name x p) (e::es) [] pos) (wS r t):=by
 intro de s a H Q I h;refine Fh<|ZK I c d i ?_ k l;exact PyProof.Rows.callWith_builtin1 (vJ (j pos de s a H _ I h) λus v ⟨w,y,B,C,F⟩=>b de v a y w us Q B C F) m q
theorem UV(b:YZ X (.type T) r)(c:Gl X x)(d:X.mg x=none)(i:Qf x=some (.type T))(j:PA X (e::es) t)(k:x ≠ "__name__":=by decide)(l:(x==("__debug__":Str))=false:=by decide)
  (m:Re (e::es) X.env=(false,Rf e X.env)::Re es X.env:=by rfl) (q:(Wf pos<|Re es X.env).any (·.1)=false:=by rfl):PE X (.Call (.Name x p) (e::es) [] pos) (wS r t):=by
 intro de s a H Q I h;refine Fh<|ZK I c d i ?_ k l;exact u4 (vJ (j pos de s a H _ I h) λus v ⟨w,y,B,C,F⟩=>b de v a y w us Q B C F) m q
end
end L2
variable {r:L2.V->List L2.V->L2.Hp->L2.VK->Prop}{σ:L2.St}{H H':L2.Hp}{ys:List L2.V}{X:L2.Cx}
namespace HT
noncomputable def lexLt:Qn->Qn->Bool
 |[],[]=>false
 |[],_::_=>true
 |_::_,[]=>false
 |x::a,y::ys=>if x=y then lexLt a ys else decide (x<y)
theorem lexLt_cons(x y:Int)(a ys:Qn):lexLt (x::a) (y::ys)=if x=y then lexLt a ys else decide (x<y):=rfl
theorem pG:lexLt [] []=false:=rfl
theorem XU(y:Int)(ys:Qn):lexLt [] (y::ys)=true:=rfl
theorem YU(x:Int)(a:Qn):lexLt (x::a) []=false:=rfl
theorem iu(A:Dh)(s:Ge)(a:Int)(t:Tok)(c:Int)(u:Tok):∃e,SeqAt.EqAt A s (.int a t) (.int c u) e/\(e=true↔a=c):=⟨(a==c),SeqAt.EqAt.int_int a t c u,by simp⟩
theorem ju(A:Dh)(s:Ge)(a:Int)(t:Tok)(c:Int)(u:Tok)(prog:Cf)(w:Xe)(E:Be->Ge->Prop)(Q:Be->Ge->Prop)(h:Q (.bool<|decide<|a<c) s):Ie (Ke prog w) A (Ji .Lt (.int a t)<|.int c u) Q E s:=
 (PyProof.Rows.lt_int h:Ie (Ke prog w) A (Ef .Lt (.int a t)<|.int c u) Q E s)
section
open PySem.SeqAt
open PySem.AutoSeq1 (wpAny_loadPart')
open PySem.MeetsSeq PySem.MeetsSeq2 PySem.MeetsSeq3
theorem qG(l b:Ee)(items C:Kn Be)(n n2:Nat)(dd zl:Jn Ee)(sl ao:Kn (Jn Be))(ns M:Qn)(hi:Ag items.toList ns)(hj:Ag C.toList M):Meets (Builtin.«tuple.__lt__» ⟨[.ref l,.ref b],[]⟩) (λ_ R s=>s.heap.get? l=some {cls:=.type "tuple",dict:=dd,data:=.seq items n,slots:=sl}/\s.heap.get? b=some {cls:=.type "tuple",dict:=zl,data:=.seq C n2,slots:=ao} /\ R (.ok<|.ret<|.bool<|lexLt ns M) s):=
 .of_wp λprog w A R s h=>by
  obtain⟨O,g,d,P,os⟩:=s;obtain⟨hl,hb,h⟩:=h;have f2:=AutoSeq1.sub_tuple_tuple;have z1:items.size=ns.length:=by rw[<-hi.length];simp
  have z2:C.size=M.length:=by rw[<-hj.length];simp
  wp_walk using Tg hl,Tg hb,Zi _ (λrest b s'=>b.1=none/\s'=⟨O,g,d,P,os⟩/\∃(U Y:List Be) (F i:Qn),rest=U.zip Y /\
    Ag U F/\Ag Y i/\F.length+C.size=i.length+items.size/\R (.ok<|.ret<|.bool<|lexLt F i) ⟨O,g,d,P,os⟩) _
  case turn =>
   rintro⟨y,x⟩ rest b s' ⟨v,rfl,U,Y,F,i,j,B,Z,G,k⟩;cases B with
   |nil=>rw[List.zip_nil_left]at j;cases j
   |cons a t I =>
    cases Z with
    |nil=>rw[List.zip_nil_right]at j;cases j
    |cons c u L =>
     rw[A5]at j;injection j with hyx hrest;injection hyx with hy hx;subst hy hx;rw[lexLt_cons]at k;simp only[L1]at G;obtain⟨e,he,m⟩:=iu A.in1 ⟨O,g,d,P,os⟩ a t c u;refine Ae<|he prog w _ _ ?_;cases e with
     |true =>
      rw[De<|m.mp rfl]at k
      wp_walk
      exact⟨rfl,rfl,_,_,_,_,hrest,I,L,by lia,k⟩
     |false =>
      rw[Ce<|λq=>absurd (m.mpr q) X1]at k;have hri:=ju A.in1 ⟨O,g,d,P,os⟩ a t c u prog w
      wp_walk using hri
      exact⟨_,rfl,by simpa using k⟩
  case fin =>
   rintro⟨b1,b2⟩ s' ⟨v,rfl,U,Y,F,i,j,B,Z,G,k⟩;simp only at v;subst v;have hv:lexLt F i=decide (items.size<C.size):=by
    cases B with
    |nil =>
     cases Z with
     |nil=>simp only[U5]at G;rw[pG];exact(Ve<|L9<|P0<|Nat.add_left_cancel G).symm
     |cons c u hw=>simp only[U5,L1]at G;rw[XU];exact(Je<|by lia).symm
    |cons a t hv =>
     cases Z with
     |nil=>simp only[U5,L1]at G;rw[YU];exact(Ve<|by lia).symm
     |cons c u hw=>rw[A5]at j;cases j
   rw[hv]at k
   wp_walk
   exact⟨_,rfl,by simpa [B9]using k⟩
  case h=>exact⟨rfl,rfl,items.toList,C.toList,ns,M,rfl,hi,hj,by lia,h⟩
end
section
variable {w:Xe}
theorem lt_tupInts(hl:Jm s.heap l items)(q:Jm s.heap b me)(hi:Ag items.toList ns)(t:Ag me.toList a)(v:A.units<Mf) (h:Q (.bool<|lexLt ns a) s):Ie (Ke prog w) A (Ef .Lt (.ref l)<|.ref b) Q E s:=by
 obtain⟨⟨y,B,c,sl⟩,d,e,n,hd⟩:=id hl;obtain⟨⟨i,C,data2,G⟩,j,k,I,m⟩:=id q;simp only at e hd k m;subst e hd k m;exact Lh (op:=.Lt) ⟨_,d,rfl⟩ ⟨_,j,rfl⟩ PySem.F.slot_tuple_lt PySem.F.entry_tuple_lt (PySem.F.args_tuple_lt_2 _ _) (qG l b items me n I B C sl G ns a hi t)
  ⟨d,j,show OX (lexLt ns a)≠EX/\Q (.bool<|lexLt ns a) s from ⟨(λx=>nomatch x),h⟩⟩ v
theorem cat_tup(B:Jm s.heap t vs.toArray)(C:Jm s.heap b ws.toArray)(i:vs≠[])(G:ws=[]->Q (.ref t) s) (I:ws≠[]->Q (.ref s.heap.objs.size) {s with heap:=s.heap.push {cls:=.type "tuple",data:=.seq (vs++ws).toArray}})(d:vs.length+ws.length<=sizeLine):Ie (Ke prog w) A (Xf .Add (.ref t)<|.ref b) Q E s:=by
 obtain⟨⟨cls,j,data,sl⟩,a,k,n,hd⟩:=id B;obtain⟨⟨l,m,data2,q⟩,c,v,x,y⟩:=id C;simp only at k hd v y;subst k hd v y;have e:vs.toArray++ws.toArray=(vs++ws).toArray:=by simp
 by_cases hw:ws=[]
 .exact Om ⟨_,a,rfl⟩ ⟨_,c,rfl⟩ Al Em PySem.F.slot_tuple_add PySem.F.entry_tuple_add (PySem.F.args_tuple_add_2 _ _)
   (tuple_addW1 t b vs.toArray ws.toArray n x j m sl q (by simpa using i)<|by simp[hw]) ⟨a,c,G hw⟩
 .refine Om ⟨_,a,rfl⟩ ⟨_,c,rfl⟩ Al Em PySem.F.slot_tuple_add PySem.F.entry_tuple_add (PySem.F.args_tuple_add_2 _ _)
   (tuple_addW2 t b vs.toArray ws.toArray n x j m sl q (by simpa using i) (by simpa using hw)<|by rw[S0,S0];exact d) ⟨a,c,?_⟩;rw[e];exact I hw
noncomputable def sIx(n d:Nat):Jn Int->Nat
 |none=>d
 |some v=>if v<0 then (v+(n:Int)).toNat else min v.toNat n
theorem AO(n d:Nat)(hd:d<=n)(o:Jn Int):sIx n d o<=n:=by
 cases o with
 |none=>exact hd
 |some v =>
  show (if v<0 then (v+(n:Int)).toNat else min v.toNat n)<=n;by_cases a:v<0
  .rw[De a];lia
  .rw[Ce a];exact h7 _ _
theorem Zx(v:Int)(n d:Nat):(if v<0 then max (v+(n:Int)) 0 else min v (n:Int))=((sIx n d (some v):Nat):Int):=by
 show (if v<0 then max (v+(n:Int)) 0 else min v (n:Int))=(((if v<0 then (v+(n:Int)).toNat else min v.toNat n):Nat):Int);by_cases a:v<0
 .simp only[De a];lia
 .simp only[Ce a];lia
theorem fj(lo hi:Jn Int)(n:Nat):P8 lo hi 1 (n:Int)=(((sIx n 0 lo:Nat):Int),((sIx n n hi:Nat):Int)):=by
 have a:¬((1:Int)<0):=Y7<|l9 _;unfold P8;simp only[a,if_false];refine Prod.ext ?_ ?_
 .cases lo with
  |none=>rfl
  |some v=>exact Zx v n 0
 .cases hi with
  |none=>rfl
  |some v=>exact Zx v n n
theorem gj(i j:Nat):F7 (i:Int) (j:Int) 1=j-i:=by unfold F7;have a:(1:Int) > 0:=Int.zero_lt_one;simp only[a,if_true,Int.ediv_one];split<;>lia
theorem ZU{o:Jn Int}{Q:Jn Int->Ge->Prop}(p:Bl v o)(h:Q o s):Ie (Ke prog w) A (Builtin.Slice.slicePartIndex v) Q E s:=by
 cases p with
 |none=>exact slicePart_none h
 |int i t=>exact slicePart_int h
theorem fY{lo hi:Jn Int}{Q:Int×Int×Nat->Ge->Prop}(c:s.heap.IsSliceOf sl vl vu .none)(d:Bl vl lo)(e:Bl vu hi)(h:Q (((sIx n 0 lo:Nat):Int),1,sIx n n hi-sIx n 0 lo) s):Ie (Ke prog w) A (lQ (.ref sl)<|pure (n:Int)) Q E s:=by
 obtain⟨os,a,i,b⟩:=id c;unfold lQ Builtin.Slice.sliceFields;refine Ae<|Ae<|Ze a b (x:=vl) rfl<|Ae<|Ze a b (x:=vu) rfl<|Ae<|Ze a b (x:=.none) rfl<|Fe ?_;refine Ae<|slicePart_none ?_;show Ie _ _ (if ((1:Int)==0)=true then _ else _) _ _ s;rw[Ce<|by decide];refine Ae<|ZU d<|Ae<|ZU e<|Ae<|Fe ?_;show Ie _ _ (match P8 lo hi 1 (n:Int) with|(lo,hi)=>pure (lo,(1:Int),F7 lo hi 1)) _ _ s;rw[fj lo hi n];show Ie _ _ (pure (((sIx n 0 lo:Nat):Int),(1:Int),F7 ((sIx n 0 lo:Nat):Int) ((sIx n n hi:Nat):Int) 1)) _ _ s;rw[gj];exact Fe h
theorem ku(a:Kn Be)(i k:Nat):((G2 k).filterMap λ(m:Nat)=>a[((i:Int)+(m:Int)*1).toNat]?).toArray=((a.toList.drop i).take k).toArray:=by
 have e:(λ(m:Nat)=>a[((i:Int)+(m:Int)*1).toNat]?)=λm=>a[i+m]?:=by
  funext m;have:((i:Int)+(m:Int)*1).toNat=i+m:=by lia
  rw[this]
 rw[e];have:=pick_run a i k;rw[List.filterMap_map]at this;have b:((λx=>a[x]?)∘λx=>i+x)=λm=>a[i+m]?:=rfl;rw[b]at this;rw[this]
theorem getItem_tuple_cut{lo hi:Jn Int}(a:Jm s.heap t items)(j:s.heap.IsSliceOf sl vl vu .none)(k:Bl vl lo)(l:Bl vu hi)(hw:¬(sIx items.size 0 lo=0/\sIx items.size items.size hi=items.size))(h:Q (.ref s.heap.objs.size) {s with heap:=s.heap.push {cls:=.type "tuple",data:=.seq ((items.toList.drop<|sIx items.size 0 lo).take<|sIx items.size items.size hi-sIx items.size 0 lo).toArray}})(c:items.size<=sizeLine):Ie (Ke prog w) A (Xh (.ref t)<|.ref sl) Q E s:=by
 have b:sizeOk (.seq ((items.toList.drop<|sIx items.size 0 lo).take<|sIx items.size items.size hi-sIx items.size 0 lo).toArray):=by show ((items.toList.drop<|sIx items.size 0 lo).take<|sIx items.size items.size hi-sIx items.size 0 lo).toArray.size<=sizeLine;rw[S0,B5,M5,Z0];exact A0 (h7 _ _)<|A0 (R7 _ _) c
 have v:sIx items.size items.size hi<=items.size:=AO _ _ (V0 _) hi;obtain⟨os,d,x,y⟩:=id j;have e:s.TypeIs (.ref sl) "slice":=⟨os,d,x⟩;unfold Xh;try with_reducible refine Ye ?_
 first|refine Ae (Fe ?_)|skip
 refine Ae<|wpAny_sequenceKey a.typeIs (by decide) ?_;refine Ae<|Af (name:=Str.ofString "__getitem__") a.typeIs B6
   (Jf B6 a.typeIs Yl ?_<|args_tuple_getitem _ _);show Ie _ _ (mQ (.ref t) >>= _) _ _ s;refine Ae<|tupleItemsOf_ a ?_;refine Ae<|Jh e ?_;rw[De<|by decide];refine Ae<|fY j k l ?_;have i:¬((((sIx items.size 0 lo:Nat):Int)==0&&(1:Int)==1&&(sIx items.size items.size hi-sIx items.size 0 lo)==items.size)=true):=by
  intro q;rw[A4,A4]at q;have B:((sIx items.size 0 lo:Nat):Int)=0:=eq_of_beq q.1.1;have C:sIx items.size items.size hi-sIx items.size 0 lo=items.size:=eq_of_beq q.2;exact hw ⟨Int.ofNat.inj B,N3 v<|A0 (P0 C.symm)<|R7 _ _⟩
 show Ie _ _ (if (((sIx items.size 0 lo:Nat):Int)==0&&(1:Int)==1&&(sIx items.size items.size hi-sIx items.size 0 lo)==items.size)=true then _ else _) _ _ s;rw[Ce i,ku];first
  |exact Ae (m:=T7 _)<|Kf (Fe ⟨_,rfl,Fe h⟩) b
  |exact Ae (m:=T7 _)<|Kf (Ae<|Fe<|Fe ⟨_,rfl,Fe h⟩) b
  |exact Ae<|Ae (m:=T7 _)<|Kf (Fe<|Fe ⟨_,rfl,Fe h⟩) b
  |exact Ae<|Ae (m:=T7 _)<|Kf (Fe ⟨_,rfl,Fe h⟩) b
end
end HT
namespace L2
noncomputable abbrev TO:=St->Hp->(Jn Int->Hp->Prop)->Prop
def PO(X:Cx)(e:Jn We)(t:TO):Prop :=
 ∀(de:List (Ee×Obj)) (s:Ge) (σ:St) (H:Hp) (Q:Jn Int->Hp->Prop),Inv X de σ H s->t σ H Q ->
  Ie (Ke X.prog X.w) X.A (evalPart e X.env) (λu s'=>∃o H',Inv X de σ H' s'/\Bl u o/\Q o H') X.xe s
noncomputable def jI:TO:=λ_ H Q=>Q none H
noncomputable def lu(t:TE):TO:=λσ H Q=>t σ H λx a=>∃i,x=.int i/\Q (some i) a
theorem JZ:∀{us:List Be},Vals (ns.map V.int) us->Ag us ns:=by
 induction ns with
 |nil=>intro us r;rw[T5]at r;cases r;exact .nil
 |cons n ns a =>
  intro us r;rw[Y0]at r;cases r with
  |cons b c=>obtain⟨t,e⟩:=b;subst e;exact .cons n t<|a c
section
variable {e:We}{te:TE}{lo hi:Jn We}{tl th:TO}{pos p2:Pos}
theorem kI:PO X none jI:=by intro de s σ H Q I h;rw[evalPart_none];exact Fe ⟨none,H,I,.none,h⟩
theorem IF(h:PE X e te):PO X (some e) (lu te):=by intro de s σ H Q I hw;rw[evalPart_some];refine vJ (h de s σ H _ I hw) λu j ⟨x,a,b,c,d⟩=>?_;obtain⟨i,rfl,q⟩:=d;obtain⟨t,rfl⟩:=c;exact⟨some i,a,b,.int i t,q⟩
def ya(X:Cx)(r:V->Jn Int->Jn Int->Hp->VK->Prop):Prop :=
 ∀(de:List (Ee×Obj)) (s:Ge) (σ:St) (H:Hp) (x:V) (v a b:Be) (lo hi:Jn Int) (sl:Ee) (Q:VK),Inv X de σ H s->RelV x v->s.heap.IsSliceOf sl a b .none->Bl a lo->Bl b hi->r x lo hi H Q ->
  ∃T id,Di (.type T) "__getitem__"=pure (some<|.builtin id)/\s.TypeIs v T/\Ie (Ke X.prog X.w) X.A (Xh v<|.ref sl) (EP X de σ Q) X.xe s
def wc(r:V->Jn Int->Jn Int->Hp->VK->Prop)(te:TE)(tl th:TO):TE:=λσ H Q=>te σ H λx a=>tl σ a λl b=>th σ b λu c=>r x l u c Q
theorem bq{r:V->Jn Int->Jn Int->Hp->VK->Prop}(j:ya X r)(k:PE X e te)(hl:PO X lo tl)(m:PO X hi th):PE X (.Subscript e (.Slice lo hi none p2) pos) (wc r te tl th):=by intro de s σ H Q I h;refine Subscript_<|vJ (k de s σ H _ I h) λv t ⟨x,y,B,C,F⟩=>?_;refine wpAny_Slice<|vJ (hl de t σ y _ B F) λc G ⟨l,L,M,O,P⟩=>vJ (m de G σ L _ M P) λd a ⟨u,i,R,U,Y⟩=>?_;rw[evalPart_none];refine Fe ?_;have Z:Inv X de σ i {a with heap:=a.heap.push {cls:=.type "slice",data:=.fields #[c,d,.none]}}:=R.kept (t':=a.toks) λb ob q=>i0 _ q;obtain⟨T,id,hT,ht,hg⟩:=j de {a with heap:=a.heap.push {cls:=.type "slice",data:=.fields #[c,d,.none]}} σ i x v c d l u a.heap.objs.size Q Z C (Heap.IsSliceOf.new ..) O U Y;show Ie (Ke X.prog X.w) X.A (Dm e (.Slice lo hi none p2) v<|.ref a.heap.objs.size) (EP X de σ Q) X.xe {a with heap:=a.heap.push {cls:=.type "slice",data:=.fields #[c,d,.none]}};exact tail_any (ops:=[.ref a.heap.objs.size,v]) ht hT hg (by with_unfolding_all rfl)
noncomputable def aH(a:List V)(lo hi:Jn Int):List V:=(a.drop<|HT.sIx a.length 0 lo).take<|HT.sIx a.length a.length hi-HT.sIx a.length 0 lo
theorem cq(a:List V)(lo hi:Jn Int):(aH a lo hi).length<=a.length:=by unfold aH;rw[B5,M5];exact A0 (h7 _ _)<|R7 _ _
def US(K:K0):V->Jn Int->Jn Int->Hp->VK->Prop:=λx lo hi H Q=>∃a b,x=.ref a/\SqT K H a b /\
 ¬(HT.sIx b.length 0 lo=0/\HT.sIx b.length b.length hi=b.length)/\∀p,H p=none->Q (.ref p) (bJ H p<|.tup<|aH b lo hi)
theorem nu:ya X (US X.K):=by
 intro de s σ H x v w y lo hi sl Q I k l m t h;obtain⟨a,c,rfl,hx,hw,q⟩:=h;cases k;obtain⟨its,r,i,j⟩:=I.tuple hx;have d:its.toArray.size=c.length:=by rw[S0];exact r.length.symm
 refine⟨"tuple",_,B6.lookup,i.typeIs,?_⟩;refine HT.getItem_tuple_cut i l m t (by rw[d];exact hw) ?_ (by rw[d];exact j);rw[d];refine⟨.ref s.heap.objs.size,_,I.laid (t':=s.toks) (o:=.tup<|aH c lo hi) (λb B q=>i0 _ q) (V0 _) ?_,rfl,q _<|I.hok.fresh<|V0 _⟩;exact⟨A0 (cq c lo hi) j,_,(r.drop<|HT.sIx c.length 0 lo).take<|HT.sIx c.length c.length hi-HT.sIx c.length 0 lo,IsTupD.new _ _⟩
def VS(K:K0):R2:=λx y H Q=>∃a b c ys,x=.ref a/\y=.ref b/\SqT K H a c/\SqT K H b ys/\c≠[]/\c.length+ys.length<=sizeLine /\
 (ys=[]->Q (.ref a) H)/\(ys≠[]->∀p,H p=none->Q (.ref p) (bJ H p<|.tup<|c++ys))
theorem Vals.nil_iff(r:Vals xs us):us=[]↔xs=[]:=by
 cases r with
 |nil=>simp
 |cons _ _=>simp
theorem lI:OpR X (Xf .Add) (VS X.K):=by intro de s σ H x y v u Q I j k h;obtain⟨a,b,l,ys,rfl,rfl,m,t,hx,i,B,C⟩:=h;cases j;cases k;obtain⟨its,d,F,_⟩:=I.tuple m;obtain⟨G,c,p2,_⟩:=I.tuple t;refine HT.cat_tup F p2 (λz=>hx<|d.nil_iff.mp z) (λz=>⟨.ref a,H,I,rfl,B<|c.nil_iff.mp z⟩) (λz=>?_) (by rw[<-d.length,<-c.length];exact i);refine⟨.ref s.heap.objs.size,_,I.laid (t':=s.toks) (o:=.tup<|l++ys) (λb L q=>i0 _ q) (V0 _) ?_,rfl,C (λw=>z<|c.nil_iff.mpr w) _<|I.hok.fresh<|V0 _⟩;exact⟨by rw[R0];exact i,_,d.append c,IsTupD.new _ _⟩
end
noncomputable def Sz(n:Nat)(i:Int):Jn Nat:=if 0<=i then (if i<n then some i.toNat else none) else if -(n:Int)<=i then some (i+n).toNat else none
noncomputable def lV{α:Type}(a:List α)(i:Int):Jn α:=(Sz a.length i).bind λj=>a[j]?
theorem ck(h:Sz n i=some j):seqIndex? i n=some j/\j<n/\-(n:Int)<=i/\i<n:=by
 unfold Sz at h;by_cases h0:0<=i
 .rw[De h0]at h;by_cases a:i<n
  .rw[De a]at h;have e:i.toNat=j:=E3 h;exact⟨by rw[Xm h0 a,e],by omega,by lia,a⟩
  .rw[Ce a]at h;cases h
 .rw[Ce h0]at h;by_cases a:-(n:Int)<=i
  .rw[De a]at h;have e:(i+n).toNat=j:=E3 h;exact⟨by rw[Nm (JQ h0) a,e],by lia,a,Int.lt_of_lt_of_le (J9.1 h0)<|X4 _⟩
  .rw[Ce a]at h;cases h
theorem fk(h:lV a i=some v):∃j,seqIndex? i a.length=some j/\a[j]?=some v/\j<a.length/\-(a.length:Int)<=i/\i<a.length:=by
 unfold lV at h;cases e:Sz a.length i with
 |none=>rw[e]at h;cases h
 |some j=>rw[e]at h;obtain⟨b,c,d,k⟩:=ck e;exact⟨j,b,h,c,d,k⟩
theorem rW{a:List α}{j:Nat}{v:α}(h:a[j]?=some v):lV a (j:Int)=some v:=by
 have b:j<a.length:=(Y1.mp h).1;have e:Sz a.length (j:Int)=some j:=by unfold Sz;rw[De<|X4 _,De<|E8.2 b];simp
 unfold lV;rw[e];exact h
def JF(b:We):Prop:=∀o i,Ml b false o i=operate [o,i] (Xh o i)
def IxR(X:Cx)(r:R2):Prop :=
 ∀(a b:We) (de:List (Ee×Obj)) (s:Ge) (σ:St) (H:Hp) (x y:V) (v u:Be) (Q:VK),Inv X de σ H s->RelV x v->RelV y u->r x y H Q ->
  Ml b false v u=operate [v,u] (Xh v u)->Ie (Ke X.prog X.w) X.A (Dm a b v u) (EP X de σ Q) X.xe s
def D_(X:Cx)(id:String)(r:V->List V->Hp->VK->Prop):Prop :=
 ∀(de:List (Ee×Obj)) (s:Ge) (σ:St) (H:Hp) (x:V) (a:List V) (v:Be) (us:List Be) (Q:VK),Inv X de σ H s->RelV x v->Vals a us->r x a H Q ->
  Ie (Ke X.prog X.w) X.A (call (.builtin id) (v::us)) (EP X de σ Q) X.xe s
section
variable {a b:We}{ta tb:TE}{pos:Pos}
theorem IxR.or{r:R2}(h:IxR X r)(h':IxR X r'):IxR X (λx y H Q=>r x y H Q\/r' x y H Q):=by
 intro c d de s σ H x y v u Q I e i q j;rcases q with q|q
 .exact h c d de s σ H x y v u Q I e i q j
 .exact h' c d de s σ H x y v u Q I e i q j
theorem ou{r:R2}(c:IxR X r)(d:PE X a ta)(e:PE X b tb)(i:JF b):PE X (.Subscript a b pos) (dI r ta tb):=by intro de s σ H Q I h;exact Subscript_<|pO d e I h λv u j x y k l m t q=>c a b de j σ k x y v u Q l m t q<|i _ _
def mI(K:K0):R2:=λx y H Q=>∃p c i v,x=.ref p/\y=.int i/\SqL K H p c/\lV c i=some v/\Q v H
def vv(K:K0):R2:=λx y H Q=>∃p c i v,x=.ref p/\y=.int i/\SqT K H p c/\lV c i=some v/\Q v H
theorem oI:IxR X (mI X.K):=by
 intro d R de s σ H x y v u Q I B C h l;obtain⟨p,U,i,z,rfl,rfl,F,G,q⟩:=h;cases B;obtain⟨t,rfl⟩:=C;obtain⟨its,r,e,Y⟩:=I.list F;obtain⟨j,c,L,Z,M,O⟩:=fk G;obtain⟨w,m,P⟩:=r.get L;have hl:=r.length;have hn:=GF;have fin:EP X de σ Q w s:=⟨z,H,I,P,q⟩;by_cases h0:0<=i
 .have k:i.toNat=j:=by
   rw[Xm h0 O]at c;exact E3 c
  exact item_listR e.isList h0 (by lia) (by rw[k];simpa using m) fin l
 .have k:(i+(its.toArray.size:Int)).toNat=j:=by
   rw[Nm (JQ h0) M]at c;rw[S0,<-hl];exact E3 c
  exact Jl (x:=w) e.isList.typeIs slot_list_getitem.lookup
   (wpAny_getItem_list_neg (Q:=λr s'=>r=w/\EP X de σ Q r s') e.isList (J9.1 h0) (by rw[S0]<;>lia) (by lia) (by rw[k];simpa using m) ⟨rfl,fin⟩) l
theorem ij:IxR X (vv X.K):=by
 intro c M de s σ H x y v u Q I e k h l;obtain⟨p,O,i,z,rfl,rfl,m,B,q⟩:=h;cases e;obtain⟨t,rfl⟩:=k;obtain⟨its,r,d,P⟩:=I.tuple m;obtain⟨j,C,F,R,U,Y⟩:=fk B;obtain⟨w,G,L⟩:=r.get F;have hl:=r.length;have Z:=GF;have fin:EP X de σ Q w s:=⟨z,H,I,L,q⟩;exact Jl (x:=w) d.typeIs slot_tuple_getitem.lookup
  (getItem_tuple (j:=j) (Q:=λr s'=>r=w/\EP X de σ Q r s') d (by lia) (by lia) (by rw[S0,<-hl];exact C) (by simpa using G) ⟨rfl,fin⟩) l
theorem kj(its:List Be)(n j:Nat)(u:Be):Q3 (·.setIfInBounds j u) {cls:=.type "list",data:=.seq its.toArray n}={cls:=.type "list",data:=.seq (its.set j u).toArray n}:=by simp[Q3]
theorem Inv.lst{p:Ee}(I:Inv X de σ H s)(h:H p=some (.lst xs)):∃(its:List Be) (n:Nat),Vals xs its/\s.heap.get? p=some {cls:=.type "list",data:=.seq its.toArray n}/\xs.length<=sizeLine:=by
 obtain⟨z,its,n,r,e⟩:=I.hok p _ h;exact⟨its,n,r,e,z⟩
theorem Inv.lstUpd{p:Ee}{f:Obj->Obj}(I:Inv X de σ H s)(h:H p=some (.lst xs))(c:s.heap.get? p=some {cls:=.type "list",data:=.seq its.toArray n}) (hf:f {cls:=.type "list",data:=.seq its.toArray n}={cls:=.type "list",data:=.seq its'.toArray n'}) (r:Vals ys its') (d:ys.length<=sizeLine) (t:Nat):Inv X de σ (bJ H p<|.lst ys) {s with heap:=s.heap.update p f,toks:=t}:=by
 have e:(s.heap.update p f).get? p=some {cls:=.type "list",data:=.seq its'.toArray n'}:=by rw[J4 f c (by rw[hf]<;>rfl),hf]
 refine I.write (x:=p) (e:=p) (by rw[h];trivial) (.inl rfl) (λb u i q=>(O5 _ _<|G3 i).trans q) ⟨_,e⟩ ?_;exact⟨d,its',n',r,e⟩
def gk:V->V->V->Hp->(Hp->Prop)->Prop:=λo i v H Q=>∃p c k j,o=.ref p/\i=.int k/\H p=some (.lst c)/\Sz c.length k=some j/\Q (bJ H p<|.lst<|c.set j v)
theorem qu:KS X gk:=by
 intro de s σ H o i v M O u Q I y B C h;obtain⟨p,F,k,j,rfl,rfl,l,G,q⟩:=h;cases y;obtain⟨t,rfl⟩:=B;obtain⟨its,n,r,d,L⟩:=I.lst l;obtain⟨c,P,m,w⟩:=ck G;have hl:=r.length;have R:=GF;have x:Inv X de σ (bJ H p<|.lst<|F.set j v) {s with heap:=s.heap.update p (Q3 (·.setIfInBounds j u))}:=I.lstUpd l d (kj its n j u) (r.set C j) (by rw[A6];exact L) s.toks;by_cases h0:0<=k
 .have e:k.toNat=j:=by
   rw[Xm h0 w]at c;exact E3 c
  exact PySem.W.ki_setAt d h0 (by lia) (by rw[S0,<-hl];exact w) (by rw[e];exact⟨_,x,q⟩)
 .have e:(k+(its.toArray.size:Int)).toNat=j:=by
   rw[Nm (JQ h0) m]at c;rw[S0,<-hl];exact E3 c
  exact PySem.W.ki_setBack d (J9.1 h0) (by rw[S0,<-hl];exact m) (by lia) (by rw[e];exact⟨_,x,q⟩)
theorem KF:YZ X (.builtin "len") (λj H Q=>∃p ys,j=[.ref p]/\(SqL X.K H p ys\/SqT X.K H p ys)/\Q (.int ys.length) H):=by
 intro de s σ H j us Q I r h;obtain⟨p,ys,rfl,c,q⟩:=h;obtain⟨u,rfl,k⟩:=wK r;cases k;have m:=GF;rcases c with c|c
 .obtain⟨its,d,e,l⟩:=I.list c;have i:=d.length;exact Calls.call_len_list e.isList (by simp only[S0]<;>lia) ⟨.int ys.length,H,I.tok _,⟨s.toks+1,by rw[S0,i]⟩,q⟩
 .obtain⟨its,d,e,l⟩:=I.tuple c;have i:=d.length;exact len_tuple e (by simp only[S0]<;>lia) ⟨.int ys.length,H,I.tok _,⟨s.toks+1,by rw[S0,i]⟩,q⟩
theorem LF:YZ X (.type "list") (λv H Q=>∃p ys,v=[.ref p]/\(SqL X.K H p ys\/SqT X.K H p ys)/\∀l,H l=none->Q (.ref l) (bJ H l<|.lst ys)):=by
 intro de s σ H v us Q I r h;obtain⟨p,ys,rfl,i,q⟩:=h;obtain⟨u,rfl,y⟩:=wK r;cases y;have fin:∀(its:List Be),Vals ys its->ys.length<=sizeLine->∀(h':Gf) (c:Nat),(∀b x,s.heap.get? b=some x->h'.get? b=some x) ->
   h'.get? s.heap.objs.size=some {cls:=.type "list",dict:=none,data:=.seq its.toArray c,slots:=#[]}->EP X de σ Q (.ref s.heap.objs.size) {s with heap:=h'}:=λits d j h' c kp e =>
  ⟨.ref s.heap.objs.size,_,I.laid (t':=s.toks) kp (V0 _)<|show ObjOk X.prog X.w _ h' _ (.lst ys) from ⟨j,its,c,d,e⟩,rfl,q _<|I.hok.fresh<|V0 _⟩;rcases i with i|i
 .obtain⟨its,d,k,j⟩:=I.list i;have B:=d.length;obtain⟨o,m,t,n,hd⟩:=k.isList;exact call_list_seq p (.inl rfl) m t hd (λh' c kp e=>fin its d j h' c kp e) (by simp only[S0]<;>lia)
 .obtain⟨its,d,k,j⟩:=I.tuple i;have B:=d.length;obtain⟨o,m,t,n,hd⟩:=k;exact call_list_seq p (.inr rfl) m t hd (λh' c kp e=>fin its d j h' c kp e) (by simp only[S0]<;>lia)
theorem rG:YZ X (.type "tuple") (λj H Q=>∃p ys,j=[.ref p]/\((SqL X.K H p ys/\∀l,H l=none->Q (.ref l) (bJ H l<|.tup ys))\/(SqT X.K H p ys/\Q (.ref p) H))):=by
 intro de s σ H j us Q I r h;obtain⟨p,ys,rfl,h⟩:=h;obtain⟨u,rfl,t⟩:=wK r;cases t;rcases h with⟨c,q⟩|⟨c,q⟩
 .obtain⟨its,d,i,k⟩:=I.list c;have x:=d.length;refine call_tuple_list i.isList (λh' kp=>?_) (by simp only[S0]<;>lia);have m:Inv X de σ H {s with heap:=h'}:=I.kept (t':=s.toks) kp;have v:Inv X de σ (bJ H h'.objs.size<|.tup ys) {s with heap:=h'.push {cls:=.type "tuple",data:=.seq its.toArray}}:=m.laid (t':=s.toks) (λb o e=>i0 _ e) (V0 _)<|show ObjOk X.prog X.w _ _ _ (.tup ys) from ⟨k,its,d,IsTupD.new _ _⟩;exact⟨.ref h'.objs.size,_,v,rfl,q _<|m.hok.fresh<|V0 _⟩
 .obtain⟨its,d,i,k⟩:=I.tuple c;exact call_tuple_same i ⟨.ref p,H,I,rfl,q⟩
def Aa(K:K0)(T:String)(x:V)(H:Hp):Prop:=match x with
 | .str _=>T = "str"
 | .int _=>T = "int"
 | .ref p=>(T = "list"/\∃d,SqL K H p d)\/(T = "tuple"/\∃o,K.lookup p=some o/\o.cls=.type "tuple"/\o.dict=none) \/
   (T = "dict"/\((∃c,H p=some (.dK c))\/∃c,H p=some (.dT c)))\/(T = "set"/\∃S n,H p=some (.set S n))
 |_=>Ln
theorem su(I:Inv X de σ H s)(r:RelV x v)(ty:Aa X.K T x H):s.TypeIs v T/\∀a,v=.ref a->∃k,s.heap.get? a=some k/\k.dict=none:=by
 cases x with
 |str z=>obtain⟨t,rfl⟩:=r;cases (show T = "str" from ty);exact⟨typeIs_str s z t,λ_ e=>nomatch e⟩
 |int i=>obtain⟨t,rfl⟩:=r;cases (show T = "int" from ty);exact⟨typeIs_int s i t,λ_ e=>nomatch e⟩
 |ref p =>
  cases r;rcases ty with⟨rfl,y,m⟩|⟨rfl,o,d,q,hd⟩|⟨rfl,d⟩|⟨rfl,S,n,d⟩
  .obtain⟨its,_,l,_⟩:=I.list m;refine⟨l.isList.typeIs,λa e=>?_⟩;cases e;obtain⟨o,n,e,c,hd,_⟩:=l;exact⟨o,e,hd⟩
  .refine⟨⟨o,I.kIn p o d,q⟩,λa e=>?_⟩;cases e;exact⟨o,I.kIn _ o d,hd⟩
  .have z:∃o,s.heap.get? p=some o/\o.ExactDict:=by
    rcases d with⟨w,d⟩|⟨w,d⟩
    .obtain⟨_,_,_,_,o,_,_,e,ex,_⟩:=I.hok p _ d;exact⟨o,e,ex⟩
    .obtain⟨_,_,_,_,o,_,_,e,ex,_⟩:=I.hok p _ d;exact⟨o,e,ex⟩
   obtain⟨o,e,ex⟩:=z;refine⟨⟨o,e,ex.1⟩,λa j=>?_⟩;cases j;exact⟨o,e,ex.2.1⟩
  .obtain⟨o,_,_,_,e,ex,_⟩:=I.hok p _ d;refine⟨⟨o,e,ex.1⟩,λa j=>?_⟩;cases j;exact⟨o,e,ex.2.1⟩
 |_=>exact False.elim ty
def BO(K:K0)(T:String)(r:V->List V->Hp->VK->Prop)(to:TE):TE:=λσ H Q=>to σ H λx c=>Aa K T x c/\r x [] c Q
def Ba(K:K0)(T:String)(r:V->List V->Hp->VK->Prop)(to:TE)(t:TA):TE:=λσ H Q=>to σ H λx c=>Aa K T x c/\t σ c λd e=>r x d e Q
variable {o e:We}{es:List We}{to:TE}{t:TA}{wf bf:Pos}{T id:String}
theorem tu(j:PlainAttrs T)(c:Slot T name id)(k:Gm (.builtin id)=pure (.type "method_descriptor"))(l:D_ X id r)(m:PE X o to)
  (q:Kg o name X.env (Rf o X.env)=Rf o X.env:=by rfl) (w:(wf.endLine==bf.line)=true:=by rfl):PE X (.Call (.Attribute o name wf) [] [] bf) (BO X.K T r to):=by
 intro de s σ H Q I h;refine wpAny_Call_method0_late q w<|vJ (m de s σ H _ I h) λv y ⟨x,B,d,i,ty,C⟩=>?_;obtain⟨F,G⟩:=su d i ty;exact⟨T,id,j,c,k,F,G,Calls.callWith_builtin rfl<|PySem.evalArgs_none<|l de y σ B x [] v [] Q d i .nil C⟩
theorem WM(l:PlainAttrs T)(d:Slot T name id)(m:Gm (.builtin id)=pure (.type "method_descriptor"))(q:D_ X id r)(w:PE X o to)(y:PA X (e::es) t)
  (B:Kg o name X.env (Rf o X.env)=Rf o X.env:=by rfl)
  (C:((Wf bf<|Re (e::es) X.env).all (λx=>!x.1)&&(Mm bf<|Li [] X.env).all (λx=>x.1.isSome)
    && decide ((e::es).length+([]:List Qh).length+(if ([]:List Qh).isEmpty then 0 else 1)<30))=true:=by rfl)
  (F:(wf.endLine==bf.line)=true:=by rfl) (G:Re (e::es) X.env=(false,Rf e X.env)::Re es X.env:=by rfl) (c:(Wf bf<|Re es X.env).any (·.1)=false:=by rfl) :
  PE X (.Call (.Attribute o name wf) (e::es) [] bf) (Ba X.K T r to t):=by
 intro de s σ H Q I h;refine wpAny_Call_method_late B C F rfl<|vJ (w de s σ H _ I h) λv L ⟨x,M,i,j,ty,O⟩=>?_;obtain⟨P,R⟩:=su i j ty;refine⟨T,id,l,d,m,P,R,?_⟩;have k:=y bf de L σ M _ i O;rw[G]at k ⊢;refine Calls.callWith_builtin (by show (false||(Wf bf<|Re es X.env).any (·.1))=false;rw[c]<;>rfl)<|Calls.evalArgs_plain ?_;exact vJ k λus U ⟨Y,Z,I2,r2,q2⟩=>q de U σ Z x Y v us Q I2 j r2 q2
end
def xS(X:Cx)(id:String)(r:V->List V->Hp->VK->Prop):Prop :=
 ∀(de:List (Ee×Obj)) (s:Ge) (σ:St) (H:Hp) (x:V) (a:List V) (v:Be) (us:List Be) (Q:VK),Inv X de σ H s->RelV x v->Vals a us->r x a H Q ->
  Ie (Ke X.prog X.w) X.A (call (.builtin id) (v::us)) (EP X de σ Q) X.xe s
theorem Vals.one:∀{x:V}{us:List Be},Vals [x] us->∃u,us=[u]/\RelV x u
 |_,_,.cons r .nil=>⟨_,rfl,r⟩
theorem Vals.zero:∀{us:List Be},Vals [] us->us=[]
 |_,.nil=>rfl
theorem Vals.dropLast(h:Vals xs us):Vals xs.dropLast us.dropLast:=by
 induction h with
 |nil=>exact .nil
 |cons r t a =>
  cases t with
  |nil=>exact .nil
  |cons q t'=>exact .cons r a
theorem Vals.rep{a:List V}(h:Vals a us):∀k:Nat,Vals (B1 k a).flatten (B1 k us).flatten
 |0=>.nil
 |k+1=>by rw[U3,U3,i6,i6];exact Vals.append h<|Vals.rep h k
theorem lj(l:List α):l.eraseIdx (l.length-1)=l.dropLast:=by
 induction l with
 |nil=>rfl
 |cons a r c =>
  cases r with
  |nil=>rfl
  |cons b r =>
   have e:(a::b::r).length-1=((b::r).length-1)+1:=by have d:(a::b::r).length=r.length+2:=rfl;have i:(b::r).length=r.length+1:=rfl;rfl
   rw[e,List.eraseIdx_cons_succ,c];all_goals rfl
theorem JG(its:List Be):∀(k:Nat) (a:List Be), fZ (λb c=>b++c) a.toArray (B1 k its.toArray)=(a++(B1 k its).flatten).toArray
 |0,a=>by simp
 |k+1,a=>by
  have e:a.toArray++its.toArray=(a++its).toArray:=by simp
  have d:(a++its)++(B1 k its).flatten=a++(B1 (k+1) its).flatten:=by rw[U3,i6,u3]
  rw[<-d,<-JG its k (a++its),<-e,U3,S4]
section
variable {l b:Ee}{xs zs:List V}
theorem Inv.lset{f:Kn Be->Kn Be}(I:Inv X de σ H s)(a:H l=some (.lst xs))(e:s.heap.get? l=some {cls:=.type "list",data:=.seq its.toArray n}) (hf:f its.toArray=its'.toArray) (c:Vals ys its') (d:ys.length<=sizeLine):Inv X de σ (bJ H l<|.lst ys) {s with heap:=s.heap.update l (Q3 f),toks:=t'}:=by
 have q:=PySem.IsL.update e f;rw[hf]at q;refine I.write (x:=l) (e:=l) (by rw[a];exact trivial) (.inl rfl) (λk u i j=>(O5 s.heap (Q3 f)<|G3 i).trans j) ⟨_,q⟩ ?_;exact⟨d,its',_,c,q⟩
theorem Inv.lnew(I:Inv X de σ H s)(a:Vals ys its)(c:ys.length<=sizeLine):Inv X de σ (bJ H s.heap.objs.size<|.lst ys) {s with heap:=s.heap.push {cls:=.type "list",data:=.seq its.toArray},toks:=t'}:=
 I.laid (λ_ _ q=>i0 _ q) (V0 _) ⟨c,its,0,a,U0 _ rfl⟩
theorem Inv.fresh(I:Inv X de σ H s):H s.heap.objs.size=none:=I.hok.fresh<|V0 _
theorem Inv.lstM(I:Inv X de σ H s)(a:H l=some (.lst xs)):xs.length<=sizeLine/\∃(its:List Be) (n:Nat),Vals xs its/\xs.length=its.length/\s.heap.get? l=some {cls:=.type "list",data:=.seq its.toArray n}:=by obtain⟨z,its,n,r,e⟩:=I.hok l _ a;exact⟨z,its,n,r,r.length,e⟩
theorem bH(h:n<=sizeLine):S5 n=false:=by unfold S5;exact Ve<|L9 h
end
def MF:V->List V->Hp->VK->Prop:=λx b H Q=>∃l a y,x=.ref l/\b=[y]/\H l=some (.lst a)/\a.length<sizeLine/\Q .non (bJ H l<|.lst<|a++[y])
theorem WJ:xS X "list.append" MF:=by intro de s σ H x j v us Q I b c h;obtain⟨l,k,y,rfl,rfl,a,d,q⟩:=h;cases b;obtain⟨u,rfl,i⟩:=c.one;obtain⟨z,its,n,r,hl,e⟩:=I.lstM a;refine Ng F.slot_list_append ⟨_,e,rfl⟩ F.entry_list_append (F.args_list_append_2 _ _) (PySem.list_append l its.toArray n u<|by rw[S0];exact A0 (P0 hl.symm) z) ⟨e,?_⟩;refine⟨.non,_,I.lset (its':=its++[u]) a e (by simp) (r.append<|.cons i .nil) ?_,rfl,q⟩;rw[R0,i4];exact d
def ik:V->List V->Hp->VK->Prop:=λx d H Q=>∃l b a c,x=.ref l/\d=[.ref b]/\H l=some (.lst a)/\H b=some (.lst c)/\a.length+c.length<=sizeLine/\Q .non (bJ H l<|.lst<|a++c)
theorem KG:xS X "list.extend" ik:=by
 intro de s σ H x B v us Q I i j h;obtain⟨l,b,C,G,rfl,rfl,d,hB,L,q⟩:=h;cases i;obtain⟨u,rfl,k⟩:=j.one;cases k;obtain⟨z,its,n,r,hl,e⟩:=I.lstM d;obtain⟨M,c,m,t,O,w⟩:=I.lstM hB;have a:its.toArray.size+c.toArray.size<=sizeLine:=by rw[S0,S0];lia
 have y:¬(!its.toArray.isEmpty&&S5 (its.toArray.size+c.toArray.size))=true:=by rw[bH a,uX];exact X1
 refine Ng F.slot_list_extend ⟨_,e,rfl⟩ F.entry_list_extend (F.args_list_extend_2 _ _)
  (AutoSeq1.list_extend_list_list_0 l its.toArray n b c.toArray m y (by rw[S0];exact A0 (P0 hl.symm) z)<|K5 a) ⟨e,w,?_⟩;refine⟨.non,_,I.lset (its':=its++c) d e (by simp) (r.append t) ?_,rfl,q⟩;rw[R0];omega
def XS:V->List V->Hp->VK->Prop:=λx b H Q=>∃l a y,x=.ref l/\b=[]/\H l=some (.lst a)/\a[a.length-1]?=some y/\Q y (bJ H l<|.lst a.dropLast)
theorem uu:xS X "list.pop" XS:=by
 intro de s σ H x m v us Q I d i h;obtain⟨l,t,y,rfl,rfl,c,hy,q⟩:=h;cases d;have a:=i.zero;subst a;obtain⟨z,its,n,r,hl,e⟩:=I.lstM c;obtain⟨u,j,k⟩:=r.get hy;have b:its.toArray[its.toArray.size-1]?=some u:=by show its.toArray[its.length-1]?=some u;rw[<-G5,<-hl];exact j
 refine Ng F.slot_list_pop ⟨_,e,rfl⟩ F.entry_list_pop (F.args_list_pop_1 _) (MeetsSeq.list_pop_last l its.toArray n u b<|by rw[S0];lia) ⟨e,?_⟩;refine⟨y,_,I.lset (its':=its.dropLast) c e ?_ r.dropLast ?_,k,q⟩
 .show its.toArray.eraseIdxIfInBounds (its.toArray.size-1)=its.dropLast.toArray;rw[S0,List.eraseIdxIfInBounds_toArray,lj]
 .rw[List.length_dropLast];exact A0 (R7 _ _) z
def wu:V->List V->Hp->VK->Prop:=λx a H Q=>∃l b,x=.ref l/\a=[]/\H l=some (.lst b)/\Q .non (bJ H l<|.lst [])
theorem xu:xS X "list.clear" wu:=by intro de s σ H x i v us Q I c d h;obtain⟨l,j,rfl,rfl,b,q⟩:=h;cases c;have a:=d.zero;subst a;obtain⟨z,its,n,r,hl,e⟩:=I.lstM b;refine Ng F.slot_list_clear ⟨_,e,rfl⟩ F.entry_list_clear (F.args_list_clear_1 _) (AutoSeq1.list_clear_list_0 l its.toArray n<|by rw[S0];lia) ⟨e,?_⟩;exact⟨.non,_,I.lset (its':=[]) (ys:=[]) b e rfl .nil<|j4 _,rfl,q⟩
def CO:R2:=λx y H Q=>∃l b a c,x=.ref l/\y=.ref b/\H l=some (.lst a)/\H b=some (.lst c)/\a.length+c.length<=sizeLine/\∀p,H p=none->Q (.ref p) (bJ H p<|.lst<|a++c)
theorem DO:OpR X (Xf .Add) CO:=by
 intro de s σ H x y v u Q I c d h;obtain⟨l,b,t,w,rfl,rfl,i,hB,B,q⟩:=h;cases c;cases d;obtain⟨z,its,n,r,hl,e⟩:=I.lstM i;obtain⟨C,a,F,j,G,k⟩:=I.lstM hB;refine PySem.P.add_list e k ?_ (by rw[S0,S0];lia);have m:its.toArray++a.toArray=(its++a).toArray:=by simp
 rw[m];exact⟨.ref _,_,I.lnew (t':=s.toks) (r.append j) (by rw[R0];omega),rfl,q _ I.fresh⟩
def EO:R2:=λx y H Q=>∃l k a,x=.ref l/\y=.int k/\H l=some (.lst a)/\-(2 ^ 63)<=k/\k<2 ^ 63/\a.length*k.toNat<=sizeLine /\
 ∀p,H p=none->Q (.ref p) (bJ H p<|.lst (B1 k.toNat a).flatten)
theorem pI(a:List α)(k:Nat):(B1 k a).flatten.length=k*a.length:=by
 induction k with
 |zero=>simp
 |succ k b=>rw[U3,i6,R0,b,F8,B8]
theorem FO:OpR X (Xf .Mult) EO:=by
 intro de s σ H x y v u Q I B C h;obtain⟨l,k,R,rfl,rfl,G,L,M,j,q⟩:=h;cases B;obtain⟨t,rfl⟩:=C;obtain⟨z,its,n,r,hl,e⟩:=I.lstM G;have w:its.toArray.size*k.toNat<=sizeLine:=by rw[S0,<-hl];exact j
 have b:¬its.toArray.size*k.toNat > (2 ^ 63-1) / 8:=by
  have:(sizeLine:Nat)<=(2 ^ 63-1) / 8:=by decide
  exact L9<|A0 w this
 have c:¬(!Builtin.List.listFitsIndex k)=true:=by rw[fitsIndex_both L M];exact X1
 have O:¬S5 (its.toArray.size*k.toNat)=true:=by rw[bH w];exact X1
 have P:fZ (λd i=>d++i) #[] (B1 (if its.toArray.isEmpty=true then 0 else k.toNat) its.toArray)=(B1 k.toNat its).flatten.toArray:=by
  have f0:∀m:Nat,fZ (λd i=>d++i) #[] (B1 m its.toArray)=(B1 m its).flatten.toArray:=λm=>by have:=JG its m [];rw[aQ]at this;exact this
  rw[f0];cases its with
  |nil=>simp
  |cons a Y=>rw[Ce<|by simp]
 refine wpAny_binaryOp_repeat_ref (T:="list") (U:="int") (by decide) ⟨_,e,rfl⟩ (λs'=>typeIs_int s' k t) noFill_list_mul F.fills_int_mul F.slot_int_rmul repeat_list F.slot_int_index.lookup
  (Ng F.slot_int_rmul (typeIs_int s k t) F.entry_int_rmul (F.args_int_rmul_2 _ _) (int___rmul___int_list k t l its.toArray n)
    ⟨e,rfl,⟨_,e,rfl⟩,Ng F.slot_list_mul ⟨_,e,rfl⟩ F.entry_list_mul (F.args_list_mul_2 _ _) (AutoListH.list___mul___list_int_3 l its.toArray n k t c b O) ⟨e,?_⟩⟩);rw[P];exact⟨.ref _,_,I.lnew (t':=s.toks) (r.rep k.toNat) (by rw[pI,G4];exact j),rfl,q _ I.fresh⟩
section
variable {w:Xe}
set_option maxRecDepth 100000 in
end
section
variable {κ:Type}[DecidableEq κ]
noncomputable def qY(a:List (κ×V))(k:κ):Jn V:=(a.find? λb=>decide<|b.1=k).map (·.2)
noncomputable def aY(b:List (κ×V))(k:κ)(v:V):List (κ×V):=if (b.any λa=>decide<|a.1=k)=true then b.map (λa=>if a.1=k then (a.1,v) else a) else b++[(k,v)]
theorem cH{p:κ×V}{r:List (κ×V)}(e:p.1=k):qY (p::r) k=some p.2:=by simp[qY,V5,e]
theorem dH{p:κ×V}{r:List (κ×V)}(e:¬p.1=k):qY (p::r) k=qY r k:=by simp[qY,V5,e]
theorem fH(k:κ):∀a:List (κ×V),(a.any λb=>decide<|b.1=k)=(qY a k).isSome
 |[]=>rfl
 |p::r=>by
  rw[BQ];by_cases e:p.1=k
  .simp only[cH e,Je e,Bool.true_or,QX]
  .rw[dH e,Ve e,Bool.false_or];exact fH k r
theorem LY(a:List (κ×V))(k:κ)(v:V):(aY a k v).length<=a.length+1:=by
 unfold aY;split
 .rw[g0];exact T1 _ _
 .rw[R0,L1,U5];exact P0 rfl
theorem yu{k:κ}(v:V)(h:qY fe k=none):aY fe k v=fe++[(k,v)]:=by unfold aY;rw[fH,h];exact Ce (by decide)
theorem RelO.isSome_eq{o:Jn V}{u:Jn Be}(r:RelO o u):o.isSome=u.isSome:=by
 cases o with
 |none=>cases u with
  |none=>rfl
  |some _=>exact(show Ln from r).elim
 |some _=>cases u with
  |none=>exact(show Ln from r).elim
  |some _=>rfl
theorem KV.val(r:KV fe vs)(k:κ):RelO (qY fe k) (Ul vs k):=by
 unfold KV at r;induction r with
 |nil=>exact True.intro
 |@cons p q l a h t i =>
  obtain⟨d,j⟩:=h;by_cases e:p.1=k
  .have c:q.1=k:=d.symm.trans e;have b:Ul (q::a) k=some q.2:=by simp[Ul,V5,c]
   rw[cH e,b];exact j
  .have c:¬q.1=k:=λz=>e<|d.trans z;have b:Ul (q::a) k=Ul a k:=by simp[Ul,V5,c]
   rw[dH e,b];exact i
theorem KV.any(r:KV fe b)(k:κ):(fe.any λa=>decide<|a.1=k)=b.any λa=>decide (a.1=k):=by
 unfold KV at r;induction r with
 |nil=>rfl
 |cons h t c=>rw[BQ,BQ,c,h.1]
theorem KV.repl(r:KV fe vs)(k:κ){y:V}{u:Be}(c:RelV y u):KV (fe.map λa=>if a.1=k then (a.1,y) else a) (vs.map λa=>if a.1=k then (a.1,u) else a):=by
 unfold KV at r ⊢;induction r with
 |nil=>exact .nil
 |@cons p q j l h t d =>
  rw[Y0,Y0];refine .cons ?_ d;obtain⟨b,i⟩:=h;by_cases e:p.1=k
  .rw[De e,De<|b.symm.trans e];exact⟨b,c⟩
  .rw[Ce e,Ce<|λz=>e<|b.trans z];exact⟨b,i⟩
theorem KV.put(r:KV fe vs)(k:κ){y:V}{u:Be}(a:RelV y u):KV (aY fe k y) (stored vs k u):=by
 unfold aY stored;rw[r.any k];by_cases e:(vs.any λb=>decide<|b.1=k)=true
 .rw[De e,De e];exact r.repl k a
 .rw[Ce e,Ce e];exact Paired.snoc r ⟨rfl,a⟩
theorem KV.length{vs:List (κ×Be)}(r:KV fe vs):fe.length=vs.length:=Paired.length r
end
theorem jk{P:Cf}{w:Xe}{k:VZ}(r:RelV (kV k) u):(DJ P w).is k u=true:=by
 cases k with
 |inl i=>obtain⟨t,e⟩:=(show ∃t,u=iQ i t from r);subst e;exact SD P w i t
 |inr x=>obtain⟨t,e⟩:=(show ∃t,u=Value.str x t from r);subst e;exact UD P w x t
theorem LG{P:Cf}{w:Xe}:∀{ks:List VZ}{us:List Be},Vals (ks.map kV) us->ItemsAre (DJ P w) ks us
 |[],_,r=>by rw[T5]at r;cases r;exact .nil
 |k::ks,_,r=>by
  rw[Y0]at r;cases r with
  |cons h t=>exact .cons (jk h)<|LG t
abbrev KT(H:Hp):List (List VZ×V)->List (List VZ×Ee×Be)->Prop:=Paired λp q=>p.1=q.1/\H q.2.1=some (.tup<|p.1.map kV)/\RelV p.2 q.2.2
theorem KT.val(r:KT H fe xs)(k:List VZ):RelO (qY fe k) ((Xi xs k).map (·.2)):=by
 induction r with
 |nil=>exact True.intro
 |@cons p q l a h t i =>
  obtain⟨d,_,j⟩:=h;by_cases e:p.1=k
  .have c:q.1=k:=d.symm.trans e;have b:Xi (q::a) k=some q.2:=by simp[Xi,V5,c]
   rw[cH e,b];exact j
  .have c:¬q.1=k:=λz=>e<|d.trans z;have b:Xi (q::a) k=Xi a k:=by simp[Xi,V5,c]
   rw[dH e,b];exact i
theorem KT.repl(r:KT H fe xs)(k:List VZ){y:V}{u:Be}(d:RelV y u):KT H (fe.map λb=>if b.1=k then (b.1,y) else b) (xs.map<|putAt k u):=by
 induction r with
 |nil=>exact .nil
 |@cons p q l m h t i =>
  rw[Y0,Y0];refine .cons ?_ i;obtain⟨a,c,j⟩:=h;unfold putAt;by_cases e:p.1=k
  .rw[De e,De<|a.symm.trans e];exact⟨a,c,d⟩
  .rw[Ce e,Ce<|λz=>e<|a.trans z];exact⟨a,c,j⟩
theorem KT.put(r:KT H fe xs)(k:List VZ){b:Ee}{y:V}{u:Be}(c:H b=some (.tup<|k.map kV))(a:RelV y u):KT H (aY fe k y) (storedH xs k b u):=by
 have e:(fe.any λd=>decide<|d.1=k)=(Xi xs k).isSome:=by rw[fH,(r.val k).isSome_eq,tQ]
 unfold aY storedH;rw[e];by_cases q:(Xi xs k).isSome=true
 .rw[De q,De q];exact r.repl k a
 .rw[Ce q,Ce q];exact Paired.snoc r ⟨rfl,c,a⟩
theorem KT.keeps(r:KT H fe xs)(a:∀b ys,H b=some (.tup ys)->H' b=some (.tup ys)):KT H' fe xs:=Paired.mapP r λ_ _ z=>⟨z.1,a _ _ z.2.1,z.2.2⟩
section
variable {P:Cf}{w:Xe}{a:Ee}
theorem XM{u:HO}(ok:HOk P w H h)(e:Rd H a u):ObjOk P w H h a u:=e.ok ok
theorem qk{b:List (VZ×V)}(ok:HOk P w H h)(e:Rd H a (.dK b)):b.length<=sizeLine/\(a==Vf)=false/\∃c,KV b c/\h.DictOf (DJ P w) a c:=show ObjOk P w H h a (.dK b) from XM ok e
theorem YM{b:List (VZ×V)}(ok:HOk P w H h)(e:H a=some (.dK b)):b.length<=sizeLine/\(a==Vf)=false/\∃c,KV b c/\h.DictOf (DJ P w) a c:=qk ok<|.inl e
theorem mj{ks:List VZ}(ok:HOk P w H h)(e:H a=some (.tup<|ks.map kV)):(Uf<|DJ P w).is h ks a:=by obtain⟨_,its,r,o,b,c,n,d,_⟩:=(show ObjOk P w H h a (.tup<|ks.map kV) from ok a _ e);exact⟨o,its.toArray,n,b,c,d,by simpa using LG r⟩
theorem sk{b:List (List VZ×V)}(ok:HOk P w H h)(e:Rd H a (.dT b)):b.length<=sizeLine/\(a==Vf)=false /\ ∃c,KT H b c/\h.DictOfH (Uf<|DJ P w) a c:=by
 obtain⟨z,y,c,r,o,i,j,k,v,B,C,F⟩:=(show ObjOk P w H h a (.dT b) from XM ok e);refine⟨z,y,c,r,o,i,j,k,v,B,C,λx hx=>?_,F⟩;have all:∀{l:List (List VZ×V)}{m:List (List VZ×Ee×Be)},KT H l m->∀x∈m,(Uf<|DJ P w).is h x.1 x.2.1:=by
  intro l m q;induction q with
  |nil=>intro x hx;exact nomatch hx
  |@cons p q I L d t G =>
   intro x hx;rcases E1.mp hx with e|hx
   .subst e;exact mj ok (by rw[<-d.1];exact d.2.1)
   .exact G x hx
 exact all r x hx
theorem YS{b:List (List VZ×V)}(ok:HOk P w H h)(e:H a=some (.dT b)):b.length<=sizeLine/\(a==Vf)=false /\ ∃c,KT H b c/\h.DictOfH (Uf<|DJ P w) a c:=sk ok<|.inl e
end
def zu(H:Hp)(a:Ee)(y:V)(r:Jn V):Prop:=(∃c k,Rd H a (.dK c)/\y=kV k/\r=qY c k)\/∃c k b,Rd H a (.dT c)/\y=.ref b/\H b=some (.tup<|k.map kV)/\r=qY c k
def GO(H:Hp)(a:Ee)(y v:V)(H':Hp):Prop :=
 (∃c k,H a=some (.dK c)/\y=kV k/\c.length<sizeLine/\H'=bJ H a (.dK<|aY c k v)) \/
 ∃c k b,H a=some (.dT c)/\y=.ref b/\H b=some (.tup<|k.map kV)/\c.length<sizeLine/\H'=bJ H a (.dT<|aY c k v)
section
variable {a:Ee}{y v:V}{r:Be}{o:Jn V}
theorem Inv.big(I:Inv X de σ H s):Vf<s.heap.objs.size:=by have h:Ue<s.heap.objs.size:=(I.mod.glob.keeps I.bk).lt;exact M7 (by decide) h
theorem xv(x:A.units+1<Mf)(I:Inv X de σ H s)(g:zu H a y (some v))(t:RelV y u)(h:∀d s',Inv X de σ H s'->RelV v d->Q d s'):Ie (Ke X.prog X.w) A (Xh (.ref a) u) Q E s:=by
 rcases g with⟨B,k,e,i,l⟩|⟨B,k,b,e,i,C,l⟩
 .subst i;obtain⟨z,hd,F,c,j⟩:=qk I.hok e;obtain⟨d,hw,m⟩:=RelO.some_of (v:=v) (o:=Ul F k) (by rw[l];exact c.val k);exact wpAny_getItem_of (jk t) j.mapOf hw<|h d _ (I.tok _) m
 .subst i;cases (show u=B2 b from t);obtain⟨z,hd,G,c,j⟩:=sk I.hok e;obtain⟨d,hw,m⟩:=RelO.some_of (v:=v) (o:=(Xi G k).map (·.2)) (by rw[l];exact c.val k);obtain⟨p,L,q⟩:=o6.mp hw;refine wpAny_getItem_heap (Zf x) (mj I.hok C) j L ?_;rw[q];exact h d _ (I.tok _) m
theorem HU(I:Inv X de σ H s)(c:IS (H a))(d:c6 a s.heap h')(i:∃q,h'.get? a=some q)(new:ObjOk X.prog X.w (bJ H a ob) h' a ob):Inv X de σ (bJ H a ob) {s with heap:=h',toks:=t'}:=
 I.write (x:=a) (e:=a) c (.inl rfl) (λb q j z=>(d.2 b j).trans z) i new
theorem Au{P:Cf}{w:Xe}{b:List (VZ×V)}{c:List (VZ×Be)}(z:b.length<=sizeLine)(hd:(a==Vf)=false)(d:KV b c)(e:h'.DictOf (DJ P w) a c):ObjOk P w H' h' a (.dK b):=⟨z,hd,c,d,e⟩
theorem zv{Q:Unit->Ge->Prop}(P:A.units+1<Mf)(I:Inv X de σ H s)(g:GO H a y v H')(G:RelV y u)(L:RelV v r)(h:∀s',Inv X de σ H' s'->Q () s'):Ie (Ke X.prog X.w) A (Zm (.ref a) u r) Q E s:=by
 rcases g with⟨i,k,e,t,l,x⟩|⟨i,k,b,e,t,M,l,x⟩
 .subst t x;obtain⟨z,hd,R,d,B⟩:=YM I.hok e;have C:R.length<=sizeLine:=by rw[<-d.length];exact z
  have hl:(aY i k v).length<=sizeLine:=by have:=LY i k v;exact A0 this l
  refine wpAny_setItem_pairs (hsz:=C) (jk G) B λh' j F=>h _ ?_;have U:∃q,h'.get? a=some q:=let ⟨q,_,_,m,_⟩:=j;⟨q,m⟩;exact HU I (by rw[e];exact True.intro) F U<|Au hl hd (d.put k L) j
 .subst t x;cases (show u=B2 b from G);obtain⟨z,hd,Y,d,B⟩:=YS I.hok e;have C:Y.length<=sizeLine:=by rw[<-Paired.length d];exact z
  have hl:(aY i k v).length<=sizeLine:=by have:=LY i k v;exact A0 this l
  refine wpAny_setItem_heap (hsz:=C) (Zf P) (mj I.hok M) B λh' j F=>h _ ?_;obtain⟨q,Z,ep,m,h2,h3,h4,_,h5⟩:=j;refine HU I (by rw[e];exact True.intro) F ⟨q,m⟩ ⟨hl,hd,_,(d.put k M L).keeps λc ys O=>?_,q,Z,ep,m,h2,h3,h4,h5⟩;rw[pZ<|HS O e<|λz=>nomatch z];exact O
end
section
variable {a:Ee}{fe:List (VZ×V)}{k:VZ}
end
def Bu(i:We):Prop:=∀a b,Ml i false a b=operate [a,b] (Xh a b)
theorem uk{id:String}(hl:Di (.type T) "__getitem__"=pure (some<|.builtin id)) (q:Bu l)(h:Ie (Ke prog w) A (Rf b env) (λo d=>Ie (Ke prog w) A (Rf l env) (λi a=>a.TypeIs o T/\Ie (Ke prog w) A (Xh o i) Q E a) E d) E s):Ie (Ke prog w) A (Rf (.Subscript b l pos) env) Q E s:=by
 refine Subscript_<|wpAny_mono h (λo d j=>wpAny_mono j (λi a c=>?_) λ_ _ x=>x) λ_ _ x=>x;obtain⟨m,c⟩:=c;unfold Dm;refine Ae ?_;rw[getitemInPython_of_ne m.not_modules];refine Ae<|Bg m hl ?_;have fin:Ie (Ke prog w) A (Ml l false o i) (λr e=>Ie (Ke prog w) A (letTemporaryGo b o r >>= λ_=>pure r) Q E e) E a:=by rw[q o i];exact wpAny_operating<|wpAny_mono c (λr e k=>Ae<|wpAny_letTemporaryGo<|Fe k) λ_ _ x=>x
 first
  |exact Fe<|Ae fin
  |exact Ae<|Fe<|Ae fin
  |exact Ae fin
theorem dq{o:Jn V}(I:Inv X de σ H s)(g:zu H a y o):s.TypeIs (.ref a) "dict":=by
 rcases g with⟨d,k,e,_,_⟩|⟨d,k,b,e,_,_,_⟩
 .obtain⟨_,_,i,_,c⟩:=qk I.hok e;exact c.typeIs
 .obtain⟨_,_,j,_,c⟩:=sk I.hok e;exact c.typeIs
def ZS(c ty:TE):TE:=λσ H Q=>c σ H λx d=>ty σ d λy b=>∃a v,x=.ref a/\zu b a y (some v)/\Q v b
def Cu(c ty d:TE):TS:=λD σ H=>d σ H λv e=>c σ e λx i=>ty σ i λy j=>∃a b,x=.ref a/\GO j a y v b/\D.nx σ b
section
variable {o i e value:We}{pos ze kg:Pos}{td ty tv:TE}
theorem qI(c:X.A.units+1<Mf)(d:PE X o td)(hi:PE X i ty)(j:Bu i):PE X (.Subscript o i pos) (ZS td ty):=by intro de s σ H Q I h;refine uk PySem.F.slot_dict_getitem.lookup j<|vJ (d de s σ H _ I h) λu k ⟨x,l,m,q,t⟩=>vJ (hi de k σ l _ m t) λM O ⟨y,w,b,B,a,v,ex,g,C⟩=>?_;subst ex;obtain rfl:u=B2 a:=q;exact⟨dq b g,xv c b g B λP R G L=>⟨v,w,G,L,C⟩⟩
theorem sI(b:X.A.units+1<Mf)(c:PE X o td)(hi:PE X i ty)(d:PE X value tv)(j:Nh value (some<|.Subscript o i ze) pos.line X.env=pure false):PS X (.Assign [.Subscript o i ze] value pos) (Cu td ty tv):=by
 intro de s σ H D I h;refine Il (vJ (d de s σ H _ I h) λr k ⟨v,l,m,q,t⟩=>vJ (c de k σ l _ m t) λu w ⟨x,B,C,F,G⟩=>vJ (hi de w σ B _ C G) λU Y ⟨y,Z,L,M,a,O,ex,g,P⟩=>?_) j;subst ex;obtain rfl:u=B2 a:=F;exact zv b L g M q λs4 R=>⟨σ,O,R,P⟩
end
theorem Du(h:Gf)(a:Vf<h.objs.size):ObjOk P w H (h.push {cls:=.type "dict",data:=.dict #[]}) h.objs.size (.dK []):=⟨j4 _,beq_eq_false_iff_ne.mpr<|G3<|J1 a,[],.nil,Heap.DictOf.new h⟩
section
variable {pos:Pos}
end
noncomputable def NF:List (TE×TE)->St->Hp->(List (V×V)->Hp->Prop)->Prop
 |[],_,H,Q=>Q [] H
 |(a,b)::r,σ,H,Q=>a σ H λx c=>b σ c λy d=>NF r σ d λe i=>Q ((x,y)::e) i
abbrev VV:List (V×V)->List (Be×Be)->Prop:=Paired λp q=>RelV p.1 q.1/\RelV p.2 q.2
def E_(X:Cx)(a:Pos)(keys:List (Jn We))(d:List We)(b:List (TE×TE)):Prop :=
 ∀(de:List (Ee×Obj)) (s:Ge) (σ:St) (H:Hp) (Q:List (V×V)->Hp->Prop),Inv X de σ H s->NF b σ H Q ->
  Ie (Ke X.prog X.w) X.A (evalPairs<|pairTrees keys d X.env a) (λe s'=>∃c H',Inv X de σ H' s'/\VV c e/\Q c H') X.xe s
theorem uI:E_ X pos [] [] []:=λde s σ H Q I h=>pairTrees_nil_walk ⟨[],H,I,.nil,h⟩
theorem gH(b:PE X k tk)(c:PE X v tv)(d:E_ X pos ks vs trs):E_ X pos (some k::ks) (v::vs) ((tk,tv)::trs):=λde s σ H Q I h =>
 pairTrees_cons_walk (vJ (b de s σ H _ I h) λu e ⟨x,i,j,l,m⟩=>vJ (c de e σ i _ j m) λO q ⟨y,t,w,B,C⟩=>vJ (d de q σ t _ w C) λP R ⟨F,G,L,a,M⟩=>⟨(x,y)::F,G,L,.cons ⟨l,B⟩ a,M⟩)
noncomputable def MY(c more:List (VZ×V)):List (VZ×V):=more.foldl (λa b=>aY a b.1 b.2) c
theorem KV.merge:∀{more:List (VZ×V)}{c:List (VZ×Be)}{a:List (VZ×V)}{b:List (VZ×Be)},KV more c->KV a b->KV (MY a more) (merged b c):=by
 intro more c a b r;unfold KV at r;induction r generalizing a b with
 |nil=>intro q;exact q
 |@cons p q j k h t d =>
  intro i;have e:KV (aY a p.1 p.2) (stored b q.1 q.2):=by have:=i.put p.1 h.2;rw[<-h.1];exact this
  exact d e
theorem EW:∀(more a:List (VZ×V)),(MY a more).length<=a.length+more.length
 |[],a=>by show a.length<=a.length+0;exact T1 _ _
 |p::r,a=>by have b:=EW r<|aY a p.1 p.2;have c:=LY a p.1 p.2;show (MY (aY a p.1 p.2) r).length<=_;rw[L1];lia
theorem iH{P:Cf}{w:Xe}:∀{e:List (VZ×V)}{i:List (Be×Be)},VV (e.map λj=>(kV j.1,j.2)) i->∃d,Carries (DJ P w) i d/\KV e d
 |[],_,r=>by rw[T5]at r;cases r;exact⟨[],True.intro,.nil⟩
 |p::e,_,r=>by
  rw[Y0]at r;cases r with
  |@cons a b as bs h t=>obtain⟨d,c,q⟩:=iH (P:=P) (w:=w) t;obtain⟨k,b2⟩:=b;exact⟨(p.1,b2)::d,⟨jk h.1,rfl,c⟩,.cons ⟨rfl,h.2⟩ q⟩
def Eu(a:List (TE×TE)):TE:=λσ H Q=>∀p,H p=none->NF a σ (bJ H p<|.dK []) λe c=>c p=some (.dK [])/\∃b:List (VZ×V),e=b.map (λd=>(kV d.1,d.2))/\b.length<=15/\Q (.ref p) (bJ c p<|.dK<|MY [] b)
theorem vI(h:E_ X pos keys zh trs)(m:keys.all (·.isSome)=true)(hl:keys.length=zh.length)(h0:keys≠[])(b:keys.length<=15):PE X (.Dict keys zh pos) (Eu trs):=by
 intro de s σ H Q I q;have t:=I.hok.fresh<|V0 s.heap.objs.size;have v:=I.laid (a:=s.heap.objs.size) (o:=.dK []) (h':=s.heap.push {cls:=.type "dict",data:=.dict #[]}) (t':=s.toks) (λ_ _ q=>i0 _ q) (V0 _)<|Du s.heap I.big;refine wpAny_Dict_walk (knd:=DJ X.prog X.w) m hl h0 b<|vJ (h de _ σ _ _ v<|q _ t) λY Z ⟨ps,H2,i,d,e,j,x,y,B⟩=>?_;subst x;obtain⟨C,c,F⟩:=iH (P:=X.prog) (w:=X.w) d;obtain⟨z,hd,G,L,M⟩:=YM i.hok e;cases L;refine⟨C,c,M,λh' k O=>⟨.ref s.heap.objs.size,_,?_,rfl,B⟩⟩;have R:(MY [] j).length<=sizeLine:=by have l:=EW j [];rw[U5]at l;rw[Wm];exact A0 l<|A0 (T0 y _)<|K1 _ _
 have U:∃q,h'.get? s.heap.objs.size=some q:=let ⟨q,_,_,hq,_⟩:=k;⟨q,hq⟩;exact HU i (by rw[e];exact True.intro) O U<|Au R hd (F.merge .nil) k
structure M1(X:Cx)(o:We)(m:Str)(wf:Pos)(e:We)(bf:Pos):Prop where
 base:Kg o m X.env (Rf o X.env)=Rf o X.env
 few:((Wf bf<|Re [e] X.env).all (λx=>!x.1)&&(Mm bf<|Li [] X.env).all (λx=>x.1.isSome)
   && decide (([e]:List We).length+([]:List Qh).length+(if ([]:List Qh).isEmpty then 0 else 1)<30))=true
 line:(wf.endLine==bf.line)=true
 trees:Wf bf (Re [e] X.env)=[(false,Rf e X.env)]
structure M2(X:Cx)(o:We)(m:Str)(wf:Pos)(e f:We)(bf:Pos):Prop where
 base:Kg o m X.env (Rf o X.env)=Rf o X.env
 few:((Wf bf<|Re [e,f] X.env).all (λx=>!x.1)&&(Mm bf<|Li [] X.env).all (λx=>x.1.isSome)
   && decide (([e,f]:List We).length+([]:List Qh).length+(if ([]:List Qh).isEmpty then 0 else 1)<30))=true
 line:(wf.endLine==bf.line)=true
 trees:Wf bf (Re [e,f] X.env)=[(false,Rf e X.env),(false,Rf f X.env)]
def Ca(H:Hp)(a:Ee):Prop:=(∃b,Rd H a<|.dK b)\/∃b,Rd H a (.dT b)
theorem JO(I:Inv X de σ H s)(d:Ca H a):s.TypeIs (.ref a) "dict"/\(∀b,B2 a=.ref b->∃c,s.heap.get? b=some c/\c.dict=none)/\(a==Vf)=false:=by
 rcases d with⟨l,e⟩|⟨l,e⟩
 .obtain⟨_,hd,m,_,i⟩:=qk I.hok e;refine⟨i.typeIs,λb q=>?_,hd⟩;cases q;obtain⟨c,_,_,j,k,_⟩:=i;exact⟨c,j,k.2.1⟩
 .obtain⟨_,hd,t,_,i⟩:=sk I.hok e;refine⟨i.typeIs,λb q=>?_,hd⟩;cases q;obtain⟨c,_,_,j,k,_⟩:=i;exact⟨c,j,k.2.1⟩
section
variable {a:Ee}{y d:V}{r:Be}{o:Jn V}
end
section
variable {o e f:We}{wf bf:Pos}{td ty tx:TE}
end
section
variable {a:Ee}{fe:List (VZ×V)}
end
section
variable {a:Ee}{y:V}
end
end L2
namespace Att
open PySem.W PySem.Calls
theorem BU:∀(ns:Qn) (c:List Be),WellAll P h c (ns.map WData.int)->Ag c ns:=by
 intro ns;induction ns with
 |nil=>intro c w;rw[T5]at w;cases w;exact .nil
 |cons n ns d =>
  intro c w;rw[Y0]at w;cases w with
  |cons a b=>cases a;exact .cons _ _<|d _ b
theorem Av{l:OpenLaw}(t:l.most=some n){P:Params}{h:Gf}{args:List WData}{b:List Be}(j:l.row.toRowW.claim.pre args=true) (v:WellAll P h b args):∃a k ns,b=[B2 a]/\args=[WData.list<|ns.map WData.int]/\h.get? a=some {cls:=.type "list",data:=.seq k.toArray}/\Ag k ns/\ns.length<=n:=by
 have i:WShape.hasAll [] args [.list .int]=true:=(pre_splitW j).1;have m:l.pre.holds [] {args:=args}=true:=(pre_splitW j).2;obtain⟨d,r,rfl,w,x⟩:=hasAllW_cons i;obtain rfl:=hasAllW_nil x;obtain⟨M,rfl,y⟩:=hasW_list w;obtain⟨ns,rfl⟩:=items_int y;have B:ns.length<=n:=by
  unfold OpenLaw.pre at m;have c:(WTm.not<|.lt (.lit<|.int (n:Int))<|.len<|.arg 0).holds [] {args:=[.list<|ns.map .int]}=true:=by have c:=(holds_andW m).1;rw[t]at c;exact c
  have e:=condW_of c<|w_not<|w_lt w_lit<|w_len_list<|w_arg rfl;rw[g0]at e;refine A1 λq=>?_;have C:(n:Int)<((ns.length:Nat):Int):=E8.2 q;first
   |(rw[Je C]at e;exact absurd e<|by decide)
   |(simp at e;omega)
 cases v with
 |cons F G =>
  cases G;cases F with
  |list I L=>exact⟨_,_,ns,rfl,rfl,I,BU ns _ L,B⟩
theorem Bv(l:OpenLaw)(args:List WData):l.row.toRowW.claim.post args (.bool true) args=true :=
 postW_of (r:=l.row.toRowW) (X:=(true==true))
  (show WShape.has [] (.bool true) .bool=true by first|rfl|decide|simp[WShape.has,WShape.arms,WShape.armsAll])
  (show (WTm.eq .res<|.lit<|.bool true).value [] {args:=args,res:=some (.bool true),after:=args}=some (.bool<|true==true) from w_eq_bool (w_res rfl) w_lit) rfl
theorem attach_call{l:OpenLaw}(C:l.most=some n) (F:d.params.defaults=[])(call:∀(w:Xe) (c b:Ge) (mg k:Str->Jn Be) (fa:Ee) (o:Obj) (m j t:Be) (a:Ee) (e:List Be) (ns:Qn), Ground q rl [] XP w c mg k b.heap->YP w b.heap -> b.heap.get? fa=some o->o.data=.func (docDef d.name d.params d.body d.scope m j t)->b.heap.CodeRec j d.name->mg d.name=some (.ref fa) -> b.heap.get? a=some {cls:=.type "list",data:=.seq e.toArray}->Ag e ns->ns.length<=n->b.gens=#[] -> Yh (Ke l.prog w) Vl (.call (.ref fa) ⟨[.ref a],[]⟩) (λr s'=>r=.ok (.ret<|.bool true)/\OldK b.heap s'.heap/\s'.os=b.os/\Hi s'.gens) b):WalkO q rl XP YP l.row.toRowW d [] (λf e=>PySem.call f e):=by
 intro w c b mg k G Y fa o m j t I kV L hd M v hmg O x y as P B R U dr;obtain rfl:I=.none:=Dflts.none v F;obtain rfl:kV=.none:=Dflts.noKw v;obtain⟨a,e,ns,rfl,rfl,i,Z,je⟩:=Av C P U;refine enter_call<|Pm (call w c b mg k fa o m j t a e ns G Y L (fd_plain hd) M hmg i Z je O) λr s' hq=>?_;obtain⟨rfl,h2,h3,h4⟩:=hq;exact⟨.inl ⟨.bool true,.bool true,[],rfl,λ_=>rfl,.bool true,Bv l _,λ_=>⟨List.Pairwise.nil,λ_ hm=>(nomatch hm)⟩⟩,h2,h3,h4⟩
section
variable {w:Xe}{K:Frag}
end
end Att
namespace L2
theorem MG:∀{a:List Be}{ns:Qn},Ag a ns->Vals (ns.map V.int) a
 |_,_,.nil=>.nil
 |_,_,.cons n t h=>.cons ⟨t,rfl⟩<|MG h
def KO(H:Hp):Prop:=∀b,H b=none\/∃o a,H b=some (.frz o<|.lst a)
theorem Fu{K:K0}(KX:K.In c.heap) (km:c.heap.Ns Ue mg) (i:c.heap.Ns Im mb) (Z:∀x:Str,x ≠ "__name__"->mb x=Qf x) (B:c.heap.NoLimit) (hg:c.gens=#[])(Y:c.heap.get? a=some {cls:=.type "list",data:=.seq y.toArray}) (hi:Ag y ns) (hl:ns.length<=sizeLine) (hr:Room k Vl)(F:∀base:Gf,K.In base->base.Ns Ue mg->FnOk P w K mg base CX k fa fd [x] sp) (t:∀(s:Ge) (u:Be),Wl s fd ⟨[u],[]⟩ [(x,u)])(qr:∀H:Hp,KO H->SqL K H a (ns.map V.int)->sp [.ref a] H (λv _=>v=.bl true) λ_ _ _=>Ln)(hCX:∀H e s',CX [] H c (λ_ _ _=>Ln) e s'->Ln):Yh (Ke P w) Vl (.call (.ref fa) ⟨[.ref a],[]⟩) (λr s'=>r=.ok (.ret<|.bool true)/\OldK c.heap s'.heap/\s'.os=c.os/\Hi s'.gens) c:=by
 have rv:=MG hi;have C:=hi.length;have l:∀H:Hp,KO H->SqL K H a (ns.map V.int)->HOk P w H c.heap->(∀b,H b≠none->b=a)->(H a≠none->K.lookup a=none) ->
   Yh (Ke P w) Vl (.call (.ref fa) ⟨[.ref a],[]⟩) (λr s'=>r=.ok (.ret<|.bool true)/\OldK c.heap s'.heap/\s'.os=c.os/\Hi s'.gens) c:=by
  intro H hO hS G hA hK;have wl:∀{b:Ee}{o:Obj},c.heap.get? b=some o->H b=none->(CF c.heap H).get? b=some o:=λe n=>Qy e n;have noA:∀{b:Ee}{o:Obj}{I:Kn DictEntry}{L:Nat},c.heap.get? b=some o->o.data=.dict I L->H b=none:=λ{b o I L} e d=>by
   cases q:H b with
   |none=>rfl
   |some u=>have e':b=a:=hA b (by rw[q];simp);subst e';rw[Y]at e;cases e;have d':Data.seq y.toArray _=Data.dict I L:=d;cases d'
  have j:∀{b:Ee}{m:Str->Jn Be},c.heap.Ns b m->(CF c.heap H).Ns b m:=λ{b m} ⟨o,I,L,e,d,r⟩=>⟨o,I,L,wl e<|noA e d,d,r⟩;have M:K.In (CF c.heap H):=λb o e=>wl (KX b o e) (by
    cases q:H b with
    |none=>rfl
    |some u=>have e':b=a:=hA b (by rw[q];simp);subst e';rw[hK<|by rw[q];simp]at e;cases e);have hM:Mod K mg (CF c.heap H):=⟨M,j km,⟨mb,j i,Z⟩,let ⟨mc,h1,h2⟩:=B;⟨mc,j h1,h2⟩⟩;have e0:Env0 P w K mg (CF c.heap H) Vl [] c H:=⟨rfl,hM,λb o e=>RE e,P0<|bv _ _,trivial,λb i=>absurd (show b∈([]:List Ee) from i)<|by simp,G,.of_eq hg⟩;refine Pm ((F _ M<|j km).run Vl [] c H ⟨[.ref a],[]⟩ [.ref a] [.ref a] _ _ hr e0 (t c<|.ref a) (.cons rfl .nil)<|qr H hO hS) λr s' h=>?_;cases r with
  |error e=>exact(hCX H e s' h).elim
  |ok fl =>
   cases fl with
   |next=>exact False.elim h
   |brk=>exact False.elim h
   |cont=>exact False.elim h
   |ret u =>
    obtain⟨v,H',os,O,un,R,r',q⟩:=h;have q':v=.bl true:=q;subst q';obtain rfl:u=OX true:=r';refine⟨rfl,OldK.of_keep λb o e=>?_,os,O⟩;cases q:H b with
    |none=>exact un.keep b o e q (by intro z;exact absurd (show b∈([]:List Ee) from z)<|by simp) (by simp)
    |some u =>
     rcases hO b with z|⟨ob,xs,z⟩
     .rw[q]at z;cases z
     .have z2:=un.frzs b ob _ z;obtain⟨e1,_⟩:=G b _ z;obtain⟨e2,_⟩:=R b _ z2;rw[e]at e1;cases e1;exact e2
 cases hk:K.lookup a with
 |some o=>have e:=KX a o hk;rw[Y]at e;cases e;refine l (λ_=>none) (λ_=>.inl rfl) (.inr ⟨_,y.toArray,_,hk,rfl,rfl,rfl,by rw[S0,C];exact hl,by simpa using rv⟩) (λb u z=>by have U:(none:Jn HO)=some u:=z;cases U) (λb z=>absurd rfl z) λz=>absurd rfl z
 |none =>
  refine l (λb=>if b=a then some (.frz {cls:=.type "list",data:=.seq y.toArray}<|.lst<|ns.map V.int) else none) (λb=>?_) (.inl<|.inr ⟨{cls:=.type "list",data:=.seq y.toArray},De rfl⟩) (λb u z=>?_) (λb z=>?_) λ_=>hk
  .by_cases i:b=a
   .exact .inr ⟨_,_,De i⟩
   .exact .inl (Ce i)
  .by_cases i:b=a
   .have U:=(De i).symm.trans z;cases U;subst i;exact⟨Y,by rw[g0];exact hl,y,_,rv,Y⟩
   .have U:=(Ce i).symm.trans z;cases U
  .by_cases i:b=a
   .exact i
   .exact absurd (Ce i) z
theorem walk_of{l:dX}{K:Params->K0}{CX:Xe->gu}{sp:Xe->Sp}(B:l.most=some n) (C:n<=sizeLine) (I:d.params.defaults=[]) (L:Room k Vl)(M:∀(w:Xe) (h:Gf),YP w h->(K w.params).In h)(F:∀(w:Xe) (mg:Str->Jn Be) (fa:Ee) (h:Gf),(K w.params).In h->h.Ns Ue mg->mg d.name=some (.ref fa) -> ∃fd:Yg,(∀(s:Ge) (u:Be),Wl s fd ⟨[u],[]⟩ [(x,u)]) /\ ∀base:Gf,(K w.params).In base->base.Ns Ue mg->FnOk l.prog w (K w.params) mg base (CX w) k fa fd [x] (sp w))(O:∀(w:Xe) (H:Hp) (a:Ee) (ns:Qn),ns.length<=n->KO H->SqL (K w.params) H a (ns.map V.int)->sp w [.ref a] H (λv _=>v=.bl true) λ_ _ _=>Ln)(j:∀(w:Xe) (H:Hp) (s:Ge) (e:Be) (s':Ge),CX w [] H s (λ_ _ _=>Ln) e s'->Ln):PySem.W.WalkO q rl XP YP l.row.toRowW d [] (λf m=>PySem.call f m):=by
 refine Att.attach_call B I λw t c mg mb fa o pm cd fh a m ns G Y ho hd lh hmg i P y R=>?_;have KX:=M w _ Y;obtain⟨fd,U,Z⟩:=F w mg fa _ KX G.T.g hmg;exact Fu KX G.T.g G.T.b G.T.builtins G.T.nolimit R i P (A0 y C) L Z U (λH hO hS=>O w H a ns y hO hS) λH e s'=>j w H c e s'
noncomputable def rY(s:Ah):Arguments:=match s with
 | .FunctionDef _ a _ _ _ _ _ _ _ _=>a
 |_=>{posonlyargs:=[],args:=[],vararg:=none,kwonlyargs:=[],kw_defaults:=[],kwarg:=none,defaults:=[]}
noncomputable def eK(s:Ah):List Ah:=match s with
 | .FunctionDef _ _ b _ _ _ _ _ _ _=>b
 |_=>[]
noncomputable def kZ(s:Ah):Am:=match s with
 | .FunctionDef _ _ _ _ _ _ sc _ _ _=>sc
 |_=>{kind:=.function,names:=[],isGenerator:=false,isCoroutine:=false}
noncomputable abbrev VJ:gu:=λ_ _ _ _ _ _=>Ln
noncomputable abbrev E0:XK:=λ_ _ _=>Ln
theorem aT:dj VJ X E0:=λ_ _ _ _ _ _ _ h=>h.elim
structure Fun(K:K0)(x qual:Str)(st:Ah)(f:Ee)(fd:Yg):Prop where
 ex:∃(oc:Be) (od:Jn Ee) (kV fh pm:Be) (an:Jn Ee) (ye ct:Be) (qm:Kn (Jn Be)),
  fd=L7 x qual (rY st) (eK st) (kZ st) .none kV fh pm an ye ct/\K.lookup f=some ⟨oc,od,.func fd,qm⟩/\jQ K ye qual=true
 kp:t7 K (.ref f)=true
section
variable {P:Cf}{w:Xe}{K:K0}{mg:Str->Jn Be}{base:Gf}
theorem Fun.ok{st:Ah}(F:Fun K x qual st f fd)(S:FnScope N ps (kZ st))(len:∀a H Q E,c a H Q E->a.length=ps.length)(d:∀(b:Be) (A:Dh) (outer:List Env) (s:Ge) (H:Hp) (a:List V) (Q:VK) (E:XK),Room k (A.deeper<|Ai qual (kZ st) s.heap.objs.size f b)->c a H Q E -> ∃t,PSs (HF VJ P w K mg base N qual (kZ st) f b A outer s H E).nox (eK st) t/\t {nx:=λ_ H'=>Q .non H',rt:=Q} (start N a) H):FnOk P w K mg base VJ (k+1) f fd ps c:=by
 obtain⟨m,v,kV,y,B,C,b,G,I,rfl,e,i⟩:=F.ex;refine SS e i S len λA outer s H a Q E j l=>?_;obtain⟨t,h,q⟩:=d b A outer s H a Q E j l;exact⟨t,h.nox,q⟩
theorem Fun.binds{st:Ah}(F:Fun K x qual st f fd)(h:∀(kV a b:Be) (c:Jn Ee) (d e:Be) (us:List Be),us.length=ps.length->bindArgs (L7 x qual (rY st) (eK st) (kZ st) .none kV a b c d e) ⟨us,[]⟩=pure (ps.zip us)):Binds K fd ps []:=by
 obtain⟨i,j,kV,a,b,c,d,e,k,rfl,l,m⟩:=F.ex;exact .all<|h kV a b c d e
theorem LO{st:Ah}{kV:Be}(l:K.lookup f=some ⟨oc,od,.func<|L7 x qual (rY st) (eK st) (kZ st) .none kV fh pm an ye ct,qm⟩)(c:jQ K ye qual=true) (k:t7 K (.ref f)=true):Fun K x qual st f (L7 x qual (rY st) (eK st) (kZ st) .none kV fh pm an ye ct):=⟨⟨oc,od,kV,fh,pm,an,ye,ct,qm,rfl,l,c⟩,k⟩
end
theorem mV(a:Room k A):A.units+1<Mf:=W0 (T0 (by decide:1<=64) _) a.units
theorem pv(i:Nat){x:Str}{a:Pos}(hN:X.N[i]?=some x:=by rfl)(b:UE X.env.scope x:=by first|exact Or.inl rfl|exact Or.inr (Or.inl rfl)|exact Or.inr<|Or.inr rfl)(hd:(x==("__debug__":Str))=false:=by decide)
  (c:(x==("__classdict__":Str))=false:=by decide):PE X (.Name x a) (IK i):=Wz hN b hd c
theorem HJ{A:Prop}[Decidable c](a:c->A)(b:¬c->B):if c then A else B:=by
 by_cases h:c
 .rw[De h];exact a h
 .rw[Ce h];exact b h
section
variable {κ:Type}[DecidableEq κ]
end
noncomputable def sY(a:List (Str×Ee)):List (Str×Qg)->List (Str×Ee)->List (Str×Ee)
 |[],b=>b
 |(n,k)::r,b=>sY a r (if k==.free then (n,(a.lookup n).getD 0)::b else b)
theorem jH(h:∀y∈sc.names,y.2=.free->∃c,env.cells.lookup y.1=some c):closureFor sc env=pure (sY env.cells sc.names []):=by
 have go:∀(l:List (Str×Qg)) (b:List (Str×Ee)),(∀y∈l,y.2=.free->∃c,env.cells.lookup y.1=some c) ->
   (forIn l b λ(x:Str×Qg) r=>(if (x.2==NameKind.free)=true then (do let a<-cellOf env x.1;pure (ForInStep.yield ((x.1,a)::r))) else pure (ForInStep.yield r):Sem (ForInStep<|List<|Str×Ee)))=pure (sY env.cells l b):=by
  intro l;induction l with
  |nil=>intro b _;rfl
  |cons y r j =>
   intro b hl;obtain⟨n,k⟩:=y;rw[eX];by_cases d:(k==NameKind.free)=true
   .obtain⟨c,i⟩:=hl (n,k) L0 (by simpa using d);have i:env.cells.lookup n=some c:=i;simp only[d,if_true,cellOf,i,pure_bind,sY,q5];exact j _ λy hy=>hl y<|G0 _ hy
   .simp only[d,if_false,pure_bind,sY];exact j _ λy hy=>hl y<|G0 _ hy
 have e:=go sc.names [] h;unfold closureFor;show (forIn sc.names [] _ >>= λcs=>pure cs)=_;rw[show (forIn sc.names ([]:List (Str×Ee)) λ(x:Str×Qg) r=>(match x with|(name,kind)=>if (kind==NameKind.free)=true then (do let a<-cellOf env name;pure (ForInStep.yield ((name,a)::r))) else pure (ForInStep.yield r):Sem (ForInStep<|List<|Str×Ee)))=pure (sY env.cells sc.names []) from e];rfl
theorem NY{a:List (Str×Ee)}{x:Str}{c:Ee}:∀{l:List (Str×Qg)}{d:List (Str×Ee)},(∀y∈l,y.2=.free->∃c,a.lookup y.1=some c)->(sY a l d).lookup x=some c -> d.lookup x=some c\/a.lookup x=some c
 |[],d,_,h=>.inl h
 |(n,k)::r,d,hl,h=>by
  have b:=NY (l:=r) (λy hy=>hl y<|G0 _ hy) h;rcases b with b|b
  .by_cases j:(k==NameKind.free)=true
   .rw[De j,N5]at b;obtain⟨m,i⟩:=hl (n,k) L0 (by simpa using j);have i:a.lookup n=some m:=i;cases e:x==n with
    |true =>
     rw[e]at b;have:x=n:=by simpa using e
     subst this;simp only[i,q5,Option.some.injEq]at b;subst b;exact .inr i
    |false=>rw[e]at b;exact .inl b
   .rw[Ce j]at b;exact .inl b
  .exact .inr b
theorem kH{cells:List (Str×Ee)}{x:Str}:∀{l:List (Str×Qg)}{acc:List (Str×Ee)},((∃c,acc.lookup x=some c)\/l.lookup x=some .free)->∃c,(sY cells l acc).lookup x=some c
 |[],acc,h=>by
  rcases h with h|h
  .exact h
  .simp at h
 |(n,k)::r,acc,h=>by
  refine kH (l:=r) ?_;rcases h with⟨c,h⟩|h
  .left;by_cases a:(k==NameKind.free)=true
   .rw[De a,N5];cases x==n with
    |true=>exact⟨_,rfl⟩
    |false=>exact⟨c,h⟩
   .rw[Ce a];exact⟨c,h⟩
  .rw[N5]at h;cases e:x==n with
   |true=>rw[e]at h;have a:k=.free:=E3 h;left;subst a;rw[De<|by decide,N5,e];exact⟨_,rfl⟩
   |false=>rw[e]at h;exact .inr h
theorem OY{env:Env}{x:Str}:∀{a:List (Str×Qg)}, (a.map λ(n,k)=>if (k==NameKind.free&&env.scope.kind==.function&&env.kindOf n==some .cell) then (n,NameKind.cell) else (n,k)).lookup x = (a.lookup x).map λk=>if (k==NameKind.free&&env.scope.kind==.function&&env.kindOf x==some .cell) then .cell else k
 |[]=>rfl
 |(n,k)::r=>by
  have c:=@OY env x r;rw[Y0];show qQ x ((if (k==NameKind.free&&env.scope.kind==.function&&env.kindOf n==some .cell)=true then (n,NameKind.cell) else (n,k))::_)=_;cases hx:x==n with
  |true =>
   have e:x=n:=by simpa using hx
   subst e;by_cases b:(k==NameKind.free&&env.scope.kind==.function&&env.kindOf x==some .cell)=true
   .rw[De b];simp only[N5,hx,U6];rw[De b]
   .rw[Ce b];simp only[N5,hx,U6];rw[Ce b]
  |false =>
   by_cases b:(k==NameKind.free&&env.scope.kind==.function&&env.kindOf n==some .cell)=true
   .rw[De b];simp only[N5,hx];exact c
   .rw[Ce b];simp only[N5,hx];exact c
theorem PY(sc:Am)(env:Env)(x:Str):(An sc env).names.lookup x=(sc.names.lookup x).map λk=>if (k==NameKind.free&&env.scope.kind==.function&&env.kindOf x==some .cell) then .cell else k:=OY
theorem tY:∀(a:List (Str×Qg)) (n:Nat) (b:List (Str×Ee)),Ff n a b=Ff n a []++b
 |[],_,_=>rfl
 |(x,k)::r,n,b=>by
  unfold Ff;split
  .rw[tY r (n+1) ((x,n)::b),tY r (n+1) [(x,n)],u3];rfl
  .exact tY r n b
theorem lH{x:Str}{c:Ee}:∀(a:List (Str×Qg)) (n:Nat),(x,c)∈Ff n a []->(x,NameKind.cell)∈a/\n<=c
 |[],_,h=>by cases h
 |(y,k)::r,n,h=>by
  unfold Ff at h;split at h
  .rename_i b;have b:k=.cell:=by simpa using b
   rw[tY,O2]at h;rcases h with h|h
   .have:=lH r (n+1) h;exact⟨G0 _ this.1,N1 this.2⟩
   .have h:(x,c)=(y,n):=by simpa using h
    cases h;subst b;exact⟨L0,V0 _⟩
  .have:=lH r n h;exact⟨G0 _ this.1,this.2⟩
theorem oK{x:Str}:∀{l m:List (Str×α)},(l++m).lookup x=(l.lookup x).or (m.lookup x)
 |[],_=>rfl
 |(y,v)::l,m=>by
  rw[K8,N5,N5];cases x==y with
  |true=>rfl
  |false=>exact oK
theorem WV{Q:Env->Ge->Prop}(c:Q (newEnv scope s.heap.objs.size globals (Ff (s.heap.objs.size+1) scope.names closure) qual none .none (some env) Im) {s with heap:=pushCells (s.heap.push {cls:=.type "dict",data:=.dict #[]}) scope.names}):Ie M A (Pl scope globals closure [] qual none .none<|some env) Q E s:=by
 simp only[Pl,QX,if_true];refine Ae<|wpAny_alloc ?_;refine Ae<|wpAny_layCells _ (λname kind a=>by cases b:kind==NameKind.cell<;>simp[b]) _ _ _ _ ?_;rw[show ({s with heap:=s.heap.push {cls:=.type "dict",data:=.dict #[]}}:Ge).heap.objs.size=s.heap.objs.size+1 from J3 ..];refine Ae ?_;rw[vX];exact Fe<|Fe c
noncomputable def bT(N:List Str)(fr:List Nat):List Str:=fr.map λi=>N.getD i Str.empty
noncomputable def yS(σ:St)(fr:List Nat):St:=fr.map λi=>(σ[i]?).getD none
noncomputable def CZ(X:Cx)(own:List Str)(fr:List Nat)(sc:Am)(C:Ee)(s:Ge)(H:Hp)(ex:List Ee):Cx where
 prog:=X.prog
 w:=X.w
 K:=X.K
 mg:=X.mg
 base:=X.base
 A:=X.A
 N:=own++bT X.N fr
 s₀:=s
 H₀:=H
 env:=compEnvC sc (Ff (C+1) sc.names<|sY X.env.cells sc.names []) C X.env
 outer:=X.stack
 stack:=X.stack
 ex:=ex
 fn:=λx=>sc.names.lookup x==some .cell
 calm:=X.calm
 pn:=[]
 xe:=λ_ _=>Ln
noncomputable def MO(own:List Str)(σ:St)(fr:List Nat):St:=own.map (λ_=>none)++yS σ fr
structure CompSc(X:Cx)(own:List Str)(fr:List Nat)(sc:Am):Prop where
 kind:sc.kind=.function
 cells:∀y∈sc.names,y.2=.cell->sc.names.lookup y.1=some .cell
 loc:∀y∈sc.names,y.2=.local->sc.names.lookup y.1=some .local
 free:∀y∈sc.names,y.2=.free->X.env.kindOf y.1=some .cell\/X.env.kindOf y.1=some .free
 fr:∀i∈fr,∃x,X.N[i]?=some x/\sc.names.lookup x=some .free
theorem nj{C D:Ee}(S:CompSc X own fr sc) (I:Inv X de σ H s) (hf:∀b∈fp,zU X de H b) (hfo:∀b∈fp,∃o,s.heap.get? b=some o) (w:s.heap.objs.size<=C) (hD:s.heap.objs.size<=D) (hDC:D≠C) (hn:M.Ns C λx=>([]:List (Str×Be)).reverse.lookup x)(O:∀b o,s.heap.get? b=some o->M.get? b=some o) (bg:∀x c,(x,c)∈Ff (C+1) sc.names []->M.IsCell c none) (hap:(Ff (C+1) sc.names []).Pairwise λx y=>x.2≠y.2) (hoD:M.get? D=some oD) (hdD:∀v,oD.data≠.cell v):Inv (CZ X own fr sc C s H fp) [(D,oD)] (MO own σ fr) H {s with heap:=M,toks:=tk}:=by
 have qh:∀y∈sc.names,y.2=.free->∃c,X.env.cells.lookup y.1=some c:=λy hy e=>I.ok.has y.1<|S.free y hy e;have R:∀x c,(sY X.env.cells sc.names []).lookup x=some c->X.env.cells.lookup x=some c:=λx c e=>by
  rcases NY qh e with z|z
  .simp at z
  .exact z
 have t:∀x c,(Ff (C+1) sc.names<|sY X.env.cells sc.names []).lookup x=some c->(x,c)∈Ff (C+1) sc.names []\/X.env.cells.lookup x=some c:=λx c e=>by
  rw[tY,oK]at e;cases q:(Ff (C+1) sc.names []).lookup x with
  |none=>rw[q]at e;exact .inr<|R x c e
  |some B=>rw[q]at e;cases e;exact .inl<|PySem.mem_of_lookup q
 have new:∀x c,(x,c)∈Ff (C+1) sc.names []->C+1<=c:=λx c h=>(lH _ _ h).2;have ut:∀x c,X.env.cells.lookup x=some c->c<s.heap.objs.size:=λx c e=>by obtain⟨v,q⟩:=I.cell x c e;exact q.lt
 have kin:∀x k,(An sc X.env).names.lookup x=some k->k=.cell\/k=.free->sc.names.lookup x=some .free\/sc.names.lookup x=some .cell:=λx k e O=>by
  rw[PY]at e;cases q:sc.names.lookup x with
  |none=>rw[q]at e;cases e
  |some j =>
   rw[q,U6,Option.some.injEq]at e;by_cases hj:j=.free
   .rw[hj];exact .inl rfl
   .have sf:(j==NameKind.free)=false:=by simpa using hj
    rw[sf,W7,W7,Ce<|by simp]at e;subst e;rcases O with z|z
    .rw[z];exact .inr rfl
    .exact absurd z hj
 have U:∀x,sc.names.lookup x=some .free->((An sc X.env).names.lookup x=some .cell\/(An sc X.env).names.lookup x=some .free):=λx e=>by
  rw[PY,e,U6];by_cases h:(NameKind.free==NameKind.free&&X.env.scope.kind==.function&&X.env.kindOf x==some .cell)=true
  .rw[De h];exact .inl rfl
  .rw[Ce h];exact .inr rfl
 have Y:∀b∈fp,b<s.heap.objs.size:=λb F=>by obtain⟨o,e⟩:=hfo b F;exact Q0 e
 have fresh:∀{a:Ee},s.heap.objs.size<=a->H a=none:=λh=>I.hok.fresh h;have ok:(CZ X own fr sc C s H fp).Ok:={
   mod:=I.ok.mod
   kind:=S.kind
   glob:=I.ok.glob
   blt:=I.ok.blt
   above:=w
   inj:=λx y c M h2=>by
     have w:s.heap.objs.size<=C:=w;rcases t x c M with a|a<;>rcases t y c h2 with b|b
     . exact name_of_addr hap a b
     . have:=new x c a;have:=ut y c b;exact absurd (B0 (ut y c b)<|A0 w<|S6<|new x c a)<|T2 _
     . exact absurd (B0 (ut x c a)<|A0 w<|S6<|new y c b)<|T2 _
     . exact I.ok.inj x y c a b
   has:=λx hx=>by
     have hx:sc.names.lookup x=some .free\/sc.names.lookup x=some .cell:=by
       rcases hx with hx|hx
       . exact kin x _ hx<|.inl rfl
       . exact kin x _ hx<|.inr rfl
     show ∃c,(Ff (C+1) sc.names<|sY X.env.cells sc.names []).lookup x=some c;rw[tY,oK];rcases hx with hx|hx
     . obtain⟨c,e⟩:=kH (cells:=X.env.cells) (x:=x) (l:=sc.names) (acc:=[])<|.inr hx;rw[e];cases (Ff (C+1) sc.names []).lookup x with
       |none=>exact⟨c,rfl⟩
       |some B=>exact⟨B,rfl⟩
     . obtain⟨c,e⟩:=jV (n:=C+1) hx;rw[e];exact⟨c,rfl⟩
   cab:=λx c h e=>by
     have h:sc.names.lookup x=some .cell:=by simpa [CZ]using h
     have e:(Ff (C+1) sc.names<|sY X.env.cells sc.names []).lookup x=some c:=e;obtain⟨B,q⟩:=jV (n:=C+1) h;rw[tY,oK,q]at e;cases e;exact A0 w (S6<|new x _<|PySem.mem_of_lookup q)
   hd:=I.ok.hd
   frames:=I.ok.frames
   stk:=.inl rfl
   exf:=λb F=>⟨J1<|B0 (Y b F) w,λx c e=>by
     rcases t x c e with z|z
     . exact V3<|B0 (Y b F)<|A0 w<|S6<|new x c z
     . exact(hf b F).2.2.2.2.1 x c z⟩
   bs:=I.bs
   bsz:=A0 I.ok.bsz I.sz
   noex:=λb o e F=>by
     rcases (hf b F).2.2.2.1 with z|z
     . exact I.ok.noex b o e z
     . exact absurd (B0 (Q0 e)<|A0 I.ok.bsz z) (T2 _)
   exfs:=λb F P=>by
     rcases E1.mp (I.stkSub b P) with z|z
     . exact(hf b F).2.1 z
     . exact(hf b F).2.2.1 z
   funs:=I.stack
   frf:=I.stkFree};refine⟨ok,rfl,I.bare,Un.kept O,⟨_,hn,λi x v G d e3=>?_⟩,λx c e=>?_,fresh w,λx c e=>?_,λp hp=>?_,I.hok.kept O,?_⟩
 .have G:(own++bT X.N fr)[i]?=some x:=G;have d:(own.map (λ_=>(none:Jn V))++yS σ fr)[i]?=some (some v):=d;by_cases hi:i<own.length
  .rw[A3 (by simpa using hi),S1]at d;cases q:own[i]? with
   |none=>rw[q]at d;cases d
   |some z=>rw[q]at d;cases d
  .rw[S2<|A1 hi]at G;rw[S2 (by simpa using hi),g0]at d;unfold bT at G;unfold yS at d;rw[S1]at G d;cases q:fr[i-own.length]? with
   |none=>rw[q]at G;cases G
   |some j =>
    rw[q,U6,Option.some.injEq]at G d;obtain⟨y,hy,L⟩:=S.fr j<|O3 q;rw[X0,hy,q5]at G;subst G;have e2':σ[j]?=some (some v):=by
     cases r:σ[j]? with
     |none=>rw[r]at d;cases d
     |some z=>rw[r,q5]at d;rw[d]
    have Z:X.env.kindOf y=some .cell\/X.env.kindOf y=some .free:=S.free (y,.free) (PySem.mem_of_lookup L) rfl;obtain⟨m,P,hl⟩:=I.loc;have vis:UE X.env.scope y:=by
     rcases Z with z|z
     .exact .inr (.inl z)
     .exact .inr (.inr z)
    obtain⟨u,r,l⟩:=hl j y v hy e2' vis;refine⟨u,r,?_⟩;rcases l with⟨k,_⟩|⟨k,c,hc,z⟩
    .rcases Z with k'|k'<;>rw[k]at k'<;>cases k'
    .refine .inr ⟨U y L,?_⟩;obtain⟨B,qf⟩:∃B,(sY X.env.cells sc.names []).lookup y=some B:=kH<|.inr L;have:B=c:=E3<|(R y B qf).symm.trans hc;subst this;obtain⟨o,ho,hd⟩:=z;refine⟨B,?_,o,O _ _ ho,hd⟩;show (Ff (C+1) sc.names<|sY X.env.cells sc.names []).lookup y=some B;rw[tY,oK,qf];cases q:(Ff (C+1) sc.names []).lookup y with
     |none=>rfl
     |some c2=>have:=S.cells _ (lH _ _<|PySem.mem_of_lookup q).1 rfl;rw[L]at this;cases this
 .rcases t x c e with z|z
  .exact⟨_,bg x c z⟩
  .obtain⟨v,o,ho,hd⟩:=I.cell x c z;exact⟨v,o,O _ _ ho,hd⟩
 .rcases t x c e with z|z
  .exact fresh (A0 w<|S6<|new x c z)
  .exact I.freeC x c z
 .have e:p=(D,oD):=by
   have:p∈([]:List (Ee×Obj))++[(D,oD)]:=hp;simpa using this
  subst e;refine⟨hoD,fresh hD,hDC,λP=>?_,hdD⟩;have P:D∈Px X.stack:=P;obtain⟨_,o,ho,_⟩:=I.stack.mem P;exact absurd (B0 (Q0 ho) hD)<|T2 _
 .show (own.map (λ_=>(none:Jn V))++yS σ fr).length=(own++bT X.N fr).length;simp[yS,bT]
theorem Gu{i:St}{C D:Ee}(I:Inv X de σ H s) (hf:∀b∈fp,zU X de H b) (t:s.heap.objs.size<=C) (y:s.heap.objs.size<=D) (j:D≠C)(J:Inv (CZ X own fr sc C s H fp) [(D,oD)] i H' s') (B:oD={cls:=.type "list",data:=.seq us.toArray n}) (r:Vals ys us) (F:ys.length<=sizeLine):Inv X de σ (bJ H' D<|.lst ys) s'/\(∃m,s'.heap.Ns C m)/\zU X de (bJ H' D<|.lst ys) C:=by
 have v:=J.pin (D,oD) (by simp[CZ]);have a:H' D=none:=v.2.1;have u:Un (Px X.stack) fp H H' s.heap s'.heap:=J.base;have lt:∀b o,s.heap.get? b=some o->b≠D:=λb o e=>J1<|B0 (Q0 e) y;have G:Un (Px X.stack) fp H (bJ H' D<|.lst ys) s.heap s'.heap :=
  ⟨u.keep,u.slot,λb o e n hx=>by rw[pZ<|lt b o e];exact u.free b o e n hx,u.there,λb k e=>by rw[pZ<|wZ (u.tups b k e) a];exact u.tups b k e,
    λb o x e=>by rw[pZ<|wZ (u.frzs b o x e) a];exact u.frzs b o x e,λb L e=>by obtain⟨more,q⟩:=u.tbls b L e;exact⟨more,by rw[pZ<|wZ q a];exact q⟩⟩;have l:HOk X.prog X.w (bJ H' D<|.lst ys) s'.heap:=λb o e=>by
  by_cases d:b=D
  .subst d;rw[HZ]at e;cases e;exact⟨F,us,n,r,by rw[<-B];exact v.1⟩
  .rw[pZ d]at e;exact(J.hok b o e).stay (λ_ _ _ q=>q) (λc q=>by rw[pZ<|wZ q a];exact q) λc k q=>by rw[pZ<|wZ q a];exact q
 refine⟨I.call' (ch:=fp) J.os G l J.bare λb d=>?_,?_,?_⟩
 .obtain⟨f0,M,Z,O,P,R⟩:=hf b d;exact⟨O,M,P,R⟩
 .obtain⟨m,U,_⟩:=J.loc;exact⟨m,U⟩
 .have Y:H' C=none:=J.free;refine⟨by rw[pZ<|G3 j];exact Y,?_⟩;exact(I.fpOk t<|I.hok.fresh t).2
theorem QY{it:Be}(I:Nat->Ge->Prop)
  (turn:∀n s,I n s->Ie (Ke prog w) A (Lg it) (λr a=>match r with
    |none=>R (.ok .next) a
    | some v=>Ie (Ke prog w) A (Th kh it v) (λ_ b=>Ie (Ke prog w) A (Bi kh env v) (λ_ e =>
        Ie (Ke prog w) A (forIn ng true λc r=>if r=true then do let ok<-En c env (Rf c env);pure (ForInStep.yield ok) else pure (ForInStep.yield r)) (λok d =>
          if ok=true then Ie (Ke prog w) A (Rf ig env) (λx i=>Ie (Ke prog w) A (call (.builtin "list.append") [acc,x]) (λ_ j=>∃m,m<n/\I m j) (λ_ _=>Ln) i) (λ_ _=>Ln) d
          else ∃m,m<n/\I m d) (λ_ _=>Ln) e) (λ_ _=>Ln) b) (λ_ _=>Ln) a) (λ_ _=>Ln) s)
  (n:Nat) (h:I n s) :
  Yh (Ke prog w) A (.compLoop (.ListComp ig [⟨kh,we,ng,0⟩] scope pos) 0 it acc env) R s:=by
 refine codeAny_loop rfl I (λn s C=>?_) n h;show Ie _ A ((compTurn (.ListComp ig [⟨kh,we,ng,0⟩] scope pos) 0 it acc env).onRaise<|λx=>do noteFrame x env;theTreesLotGoes x) _ _ s;refine wpAny_noted ?_;rw[compTurn_list];refine Ae<|Oi<|Ae<|wpAny_mono (turn n s C) (λr a k=>?_) λ_ _ h'=>h'.elim;cases r with
 |none=>exact Fe k
 |some v =>
  refine Ae<|wpAny_mono k (λ_ b q=>?_) λ_ _ h'=>h'.elim;refine Ae<|wpAny_mono q (λ_ e t=>Ae<|wpAny_mono t (λok d l=>?_) λ_ _ h'=>h'.elim) λ_ _ h'=>h'.elim;cases ok with
  |false=>exact Fe ⟨rfl,l⟩
  |true=>exact Ae<|Ae<|wpAny_mono l (λx i y=>Ae<|wpAny_mono y (λ_ j B=>Fe<|Fe ⟨rfl,B⟩) λ_ _ h'=>h'.elim) λ_ _ h'=>h'.elim
def Hu(X:Cx)(ng:List We)(t:TT):Prop :=
 ∀(de:List (Ee×Obj)) (s:Ge) (σ:St) (H:Hp) (Q:Bool->Hp->Prop),Inv X de σ H s->t σ H Q ->
  Ie (Ke X.prog X.w) X.A (forIn ng true λc r=>if r=true then do let ok<-En c X.env (Rf c X.env);pure (ForInStep.yield ok) else pure (ForInStep.yield r)) (TP X de σ Q) X.xe s
def cT:TT:=λ_ H Q=>Q true H
theorem NO:Hu X [] cT:=λ_ _ _ H _ I h=>wpAny_tests_nil ⟨H,I,h⟩
theorem OO(h:PT X c t):Hu X [c] t:=λde s σ H Q I hw=>wpAny_tests_one<|h de s σ H Q I hw
def ZM(l:TI)(own:List Str)(fr:List Nat)(g:TG)(q:TT)(t:TE):TE:=λσ H Q=>l σ H λJ v=>∃W:Nat->Nat->List V->St->Hp->Prop,(∃m,W 0 m [] (MO own σ fr) v)/\∀i m ys d H,W i m ys d H ->
 (J.stop i H/\∀D,H D=none->Q (.ref D) (bJ H D<|.lst ys)) \/
 (J.go i H/\ys.length<sizeLine/\∃N:List V->St->Hp->Prop,(∀e c H',N e c H'->∃j,j<m/\W (i+1) j e c H')/\∀x H',J.yld i H x H'->g x d H' λa w=>q a w λb k=>if b=true then t a k λy B=>N (ys++[y]) a B else N ys a k)
theorem Cv{D:Ee}(I:Inv X ([(D,{cls:=.type "list",data:=.seq us.toArray k})]++i) σ H s) (y:X.s₀.heap.objs.size<=D) (B:∀x c,X.env.cells.lookup x=some c->c≠D) (C:∀p∈X.pn++i,p.1≠D) (G:us.length<sizeLine)(h:∀d s',Inv X ([(D,{cls:=.type "list",data:=.seq (us++[u]).toArray d})]++i) σ H s'->Q .none s'):Ie (Ke X.prog X.w) X.A (call (.builtin "list.append") [.ref D,u]) Q E s:=by
 obtain⟨e,j,hL,m,_⟩:=I.pin (D,{cls:=.type "list",data:=.seq us.toArray k})<|K2 _<|v8 _<|J2.mpr rfl;dsimp only at e j hL m;have L:Inv X i σ H s:=I.pins_of λp l=>I.pin p<|K2 _<|K2 _ l;refine Ng F.slot_list_append ⟨_,e,rfl⟩ F.entry_list_append (F.args_list_append_2 _ _) (PySem.list_append D us.toArray k u<|by rw[S0];exact N1 G) ⟨e,?_⟩;have q:=PySem.IsL.update e λa=>a.push u;rw[show us.toArray.push u=(us++[u]).toArray by simp]at q;have t:Inv X i σ H {s with heap:=s.heap.update D (Q3 λa=>a.push u),toks:=s.toks}:=L.turned (it:=D) (λb o M O=>(O5 s.heap (Q3 λa=>a.push u)<|G3 M).trans O) j hL (.inr y) B C;obtain⟨d,q⟩:∃d,(s.heap.update D<|Q3 λa=>a.push u).get? D=some {cls:=.type "list",data:=.seq (us++[u]).toArray d}:=⟨_,q⟩;refine h d _<|t.pins_of (pins':=[(D,{cls:=.type "list",data:=.seq (us++[u]).toArray d})]++i) λp l=>?_;rcases O2.mp l with z|z
 .have z:p=_:=J2.mp z;subst z;exact⟨q,j,hL,m,λv z=>by cases z⟩
 .exact t.pin p (K2 _ z)
theorem mH{g:TG}{Q:VK}{RR:Be->Ee->Fn->Ge->Prop}(hc:X.calm=true) (S:CompSc X own fr sc) (I2:Inv X de σ B a) (T:Turn X.prog X.w X.K tg J fp it tn) (si:tn 0 a.heap) (f2:∀b∈fp,zU X de B b)(hg:∀C ex,PG (CZ X own fr sc C a B ex) tg g) (xi:∀C ex,Hu (CZ X own fr sc C a B ex) ng tc) (he:∀C ex,PE (CZ X own fr sc C a B ex) ig te)(W:Nat->Nat->List V->St->Hp->Prop) (m0:Nat) (w0:W 0 m0 [] (MO own σ fr) B)(turn:∀i m ys I H,W i m ys I H->(J.stop i H/\∀D,H D=none->Q (.ref D) (bJ H D<|.lst ys)) \/(J.go i H/\ys.length<sizeLine/\∃N:List V->St->Hp->Prop,(∀L τ' H',N L τ' H'->∃m',m'<m/\W (i+1) m' L τ' H')/\∀x H',J.yld i H x H'->g x I H' λM B=>tc M B λb H3=>if b=true then te M H3 λy H4=>N (ys++[y]) M H4 else N ys M H3))(hRR:∀D C H s',Inv X de σ H s'->Q (.ref D) H->(∃m,s'.heap.Ns C m)->zU X de H C->RR (.ref D) C (.ok .next) s'):Ie (Ke X.prog X.w) X.A (newList []) (λacc t=>Ie (Ke X.prog X.w) X.A (Pl sc X.env.globals (sY X.env.cells sc.names []) [] X.env.qual none .none<|some X.env) (λU s₄=>Yh (Ke X.prog X.w) X.A (.compStart (.ListComp ig [⟨tg,we,ng,0⟩] sc pos) 0 (.ref it) acc {U with scope:=An sc X.env}) (RR acc U.locals) s₄) E t) E a:=by
 refine Kf<|WV ?_;dsimp only;generalize hH2:a.heap.push {cls:=.type "list",dict:=none,data:=.seq ([]:List Be).toArray}=G;generalize hh1:pushCells (G.push {cls:=.type "dict",data:=.dict #[]}) sc.names=j;have kp:∀b o,(G.push {cls:=.type "dict",data:=.dict #[]}).get? b=some o->j.get? b=some o:=λb o e=>hh1 ▸ pushCells_keeps _ _ b o e;have O:j.Ns G.objs.size λx=>([]:List (Str×Be)).reverse.lookup x:=(Heap.Ns.new G<|.type "dict").keeps kp;have cok:CellsOk j (G.objs.size+1) (Ff (G.objs.size+1) sc.names []):=by have:=cellsFrom_ok sc.names (G.push {cls:=.type "dict",data:=.dict #[]}) (G.objs.size+1) [] ⟨λ_ _ hm=>(nomatch hm),List.Pairwise.nil⟩ (by rw[J3];exact V0 _);rw[J3,hh1]at this;exact this
 have hC:G.objs.size=a.heap.objs.size+1:=by rw[<-hH2,J3]
 have gm:a.heap.objs.size<=G.objs.size:=by rw[hC];exact n8 _
 have hDC:a.heap.objs.size≠G.objs.size:=by rw[hC];exact J1<|S3 _
 have old:∀b o,a.heap.get? b=some o->j.get? b=some o:=λb o e=>kp b o<|i0 _<|hH2 ▸ i0 _ e;have ff:j.get? a.heap.objs.size=some {cls:=.type "list",data:=.seq ([]:List Be).toArray}:=kp _ _<|i0 _<|hH2 ▸ U0 _ rfl;have Y:tn 0 j:=T.keep _ _ _ si λb l o e=>old b o e;have fo:∀b∈fp,∃o,a.heap.get? b=some o:=λb l=>let ⟨o,e,_⟩:=T.obj _ _ si b l;⟨o,e⟩;have flt:∀b∈fp,b<a.heap.objs.size:=λb l=>by obtain⟨o,e⟩:=fo b l;exact Q0 e
 have clb:∀x c,(sY X.env.cells sc.names []).lookup x=some c->X.env.cells.lookup x=some c:=λx c e=>by
  rcases NY (λy hy e=>I2.ok.has y.1<|S.free y hy e) e with z|z
  .simp at z
  .exact z
 have Z:∀(P:Ee) x c,(Ff (P+1) sc.names<|sY X.env.cells sc.names []).lookup x=some c->P+1<=c\/X.env.cells.lookup x=some c:=λP x c e=>by
  rw[tY,oK]at e;cases q:(Ff (P+1) sc.names []).lookup x with
  |none=>rw[q]at e;exact .inr<|clb x c e
  |some c'=>rw[q]at e;cases e;exact .inl (lH _ _<|PySem.mem_of_lookup q).2
 have stt:∀P:Ee,a.heap.objs.size<=P->∀{H':Hp}{pl:List (Ee×Obj)},(∀b∈fp,H' b=none)->(∀p∈pl,a.heap.objs.size<=p.1)->∀b∈fp,zU (CZ X own fr sc P a B fp) pl H' b:=λP hC' H' pl hn hp b l=>by
  have I0:=f2 b l;refine⟨hn b l,J1<|B0 (flt b l) hC',λhm=>?_,.inl l,λx c e=>by
      rcases Z P x c e with z|z
      . exact V3<|B0 (flt b l)<|A0 hC'<|S6 z
      . exact I0.2.2.2.2.1 x c z,λp ci=>?_⟩
  .rcases E1.mp (I2.stkSub b hm) with z|z
   .exact I0.2.1 z
   .exact I0.2.2.1 z
  .have ci:p∈pl:=by
    have:p∈([]:List (Ee×Obj))++pl:=ci;simpa using this
   exact V3<|B0 (flt b l)<|hp p ci
 have loop:∀t:Ge,t={a with heap:=j,toks:=a.toks} ->
   Yh (Ke X.prog X.w) X.A (.compLoop (.ListComp ig [⟨tg,we,ng,0⟩] sc pos) 0 (.ref it) (.ref a.heap.objs.size)<|compEnvC sc (Ff (G.objs.size+1) sc.names<|sY X.env.cells sc.names []) G.objs.size X.env)
    (RR (.ref a.heap.objs.size) G.objs.size) t:=by
  rintro t rfl;have I3:=nj (own:=own) (fr:=fr) (tk:=a.toks) S I2 f2 fo gm (V0 _) hDC O old (λx c h=>(cok.empty x c h).1) cok.apart ff (λv z=>by cases z);refine QY (λn s'=>∃i H' ys us k I,Inv (CZ X own fr sc G.objs.size a B fp) [(a.heap.objs.size,{cls:=.type "list",data:=.seq us.toArray k})] I H' s'/\tn i s'.heap/\(∀b∈fp,H' b=none)/\Vals ys us/\ys.length<=sizeLine/\W i n ys I H') ?_ m0
   ⟨0,B,[],[],0,_,I3,Y,λb l=>(f2 b l).1,.nil,j4 _,w0⟩;rintro n s4 ⟨i,H4,ys,us,k,I,I4,st4,fr4,R,hz4,w4⟩;have hp4:∀p∈[(a.heap.objs.size,({cls:=.type "list",data:=.seq us.toArray k}:Obj))],a.heap.objs.size<=p.1:=λp hp=>by
   rw[J2.mp hp];exact V0 _
  rcases turn i n ys I H4 w4 with⟨stop,qn⟩|⟨go,se,N,hN,step⟩
  .refine vJ (T.done (CZ X own fr sc G.objs.size a B fp) rfl rfl rfl hc i _ s4 _ H4 (λ_ _=>Ln) I4 (stt _ gm fr4 hp4) st4 stop) λr s5 ⟨hr,I5⟩=>?_;subst hr;obtain⟨a1,a2,a3⟩:=Gu I2 f2 gm (V0 _) hDC I5 rfl R hz4;exact hRR _ _ _ s5 a1 (qn _ (I5.pin _<|K2 _<|J2.mpr rfl).2.1) a2 a3
  .refine vJ (T.item (CZ X own fr sc G.objs.size a B fp) rfl rfl rfl hc i _ s4 _ H4 (λ_ _=>Ln) I4 (stt _ gm fr4 hp4) st4 go) λr s5 ⟨u,hr,h5⟩=>?_;subst hr;refine vJ h5 λ_ s6 ⟨x,H6,I6,r6,y6,st6,fr6⟩=>?_;have I6':=I6.pinned (stt _ gm fr6 hp4)<|T.obj _ _ st6;refine vJ (hg G.objs.size fp _ s6 _ H6 x u _ I6' r6<|step x H6 y6) λ_ s7 ⟨F,H7,I7,q7⟩=>?_;refine vJ (xi G.objs.size fp _ s7 F H7 _ I7 q7) λb s8 ⟨H8,I8,q8⟩=>?_;have again:∀{s9:Ge}{H9:Hp}{L:List V}{xf:List Be}{k':Nat},Inv (CZ X own fr sc G.objs.size a B fp) ([(a.heap.objs.size,{cls:=.type "list",data:=.seq xf.toArray k'})]++SV fp s6.heap) F H9 s9->Vals L xf->L.length<=sizeLine->N L F H9 ->
     ∃m,m<n/\∃i H' ys us k I,Inv (CZ X own fr sc G.objs.size a B fp) [(a.heap.objs.size,{cls:=.type "list",data:=.seq us.toArray k})] I H' s9/\tn i s9.heap/\(∀b∈fp,H' b=none)/\Vals ys us/\ys.length<=sizeLine/\W i m ys I H':=λ{s9 H9 L xf k'} I9 rv9 hz9 n9=>by
    obtain⟨m',hm,w9⟩:=hN L F H9 n9;refine⟨m',hm,i+1,H9,L,xf,k',F,I9.unpinned,T.keep _ _ _ st6 λb l o e=>(I9.pin (b,o)<|K2 _<|K2 _<|oY l e).1,λb l=>?_,rv9,hz9,w9⟩;obtain⟨o,e,d⟩:=T.obj _ _ st6 b l;exact(I9.pin (b,o)<|K2 _<|K2 _<|oY l e).2.1
   cases b with
   |false=>rw[Ce X1]at q8 ⊢;exact again I8 R hz4 q8
   |true =>
    rw[De rfl]at q8 ⊢;refine vJ (he G.objs.size fp _ s8 F H8 _ I8 q8) λy s9 ⟨yv,H9,I9,r9,n9⟩=>?_;refine Cv (X:=CZ X own fr sc G.objs.size a B fp) I9 (V0 _) (λx c e z=>?_) (λp hp z=>?_) (by rw[<-R.length];exact se) λk' s10 I10=>?_
    .rcases Z _ x c e with y|y
     .rw[z]at y;exact absurd (B0 (Z3 gm) y)<|T2 _
     .obtain⟨v,q⟩:=I2.cell x c y;exact absurd (B0 q.lt<|by rw[z];exact V0 _)<|T2 _
    .have hp:p∈([]:List (Ee×Obj))++SV fp s6.heap:=hp;rw[aQ]at hp;have:=flt _ (EG hp).1;rw[z]at this;exact absurd this<|T2 _
    .exact again I10 (R.append<|.cons r9 .nil) (by rw[R0,i4];exact se) n9
 exact codeAny_compStart_list (loop _ rfl)<|T.self _ 0 _ _ _ Y<|loop _ rfl
theorem wI{a:Pos}{own:List Str}{j:TI}{g:TG}{k:TT}{l:TE}(B:X.calm=true)(S:CompSc X own fr sc)(hi:PI X tg we j)
  (F:∀C s H ex,PG (CZ X own fr sc C s H ex) tg g) (G:∀C s H ex,Hu (CZ X own fr sc C s H ex) ng k) (L:∀C s H ex,PE (CZ X own fr sc C s H ex) ig l)
  (M:∀x,Ig we X.env x=pure x:=by intro _;rfl):PE X (.ListComp ig [⟨tg,we,ng,0⟩] sc a) (ZM j own fr g k l):=by
 intro de s σ H Q I h;rw[eval_ListComp];refine Ui (use:=none) rfl M (jH λy hy e=>I.ok.has y.1<|S.free y hy e) S.kind S.loc<|vJ (hi de s σ H _ I h) λv s1 O=>vJ O λP c R=>?_;obtain⟨it,fp,tn,J,d,e,U,T,Y,t,W,⟨Z,w0⟩,turn⟩:=R;subst e;refine mH (Q:=Q) (RR:=λi C=>compPost (Ke X.prog X.w) X.A X.xe none (EP X de σ Q) i C) B S U T Y t (λC ex=>F C c d ex) (λC ex=>G C c d ex) (λC ex=>L C c d ex) W Z w0 turn ?_;intro D C H' s' I' q ⟨m,hm⟩ fC;refine⟨m,hm,λh' sb=>⟨.ref D,H',?_,rfl,q⟩⟩;obtain⟨f0,f1,t,f3,f4,f5⟩:=fC;exact I'.turned (t':=s'.toks) (λb o hb e=>(sb.2 b hb).trans e) f0 f1 f3 f4 f5
theorem oj{c O k:Pos}{i:Nat}{y:Str}{own:List Str}{P:TI}{g:TG}{R:TT}{U:TE}(hN:X.N.Nodup)(hy:X.N[i]?=some y)(hl:X.env.scope.names.lookup y=some .local)(hc:X.calm=true)(S:CompSc X own fr sc)(hi:PI X tg we P)
  (hg:∀C s H ex,PG (CZ X own fr sc C s H ex) tg g) (xi:∀C s H ex,Hu (CZ X own fr sc C s H ex) ng R) (he:∀C s H ex,PE (CZ X own fr sc C s H ex) ig U)
  (l:Nh (.ListComp ig [⟨tg,we,ng,0⟩] sc c) (some<|.Name y k) O.line X.env=pure true:=by rfl)
  (hs:∀x,Ig we X.env x=pure x:=by intro _;rfl):PS X (.Assign [.Name y k] (.ListComp ig [⟨tg,we,ng,0⟩] sc c) O) (eV (ZM P own fr g R U)<|FY i):=by
 intro de s σ H D I h;rw[exec_Assign_Name_used _ _ _ _ l];refine Ae<|Oi ?_;show Ie _ _ (evalThenUse (.ListComp ig [⟨tg,we,ng,0⟩] sc c) X.env _ >>= _) _ _ s;refine Ae ?_;unfold evalThenUse;refine Ae ?_;refine Ui rfl hs (jH λy hy e=>I.ok.has y.1<|S.free y hy e) S.kind S.loc<|vJ (hi de s σ H _ I h) λv s1 h1=>vJ h1 λitv t h2=>?_;obtain⟨it,fp,tn,J,B,e,I2,T,si,Y,W,⟨m0,w0⟩,turn⟩:=h2;subst e;refine mH (Q:=λv H1=>D.nx (σ.set i<|some v) H1) hc S I2 T si Y (λC ex=>hg C t B ex) (λC ex=>xi C t B ex) (λC ex=>he C t B ex) W m0 w0 turn ?_;intro Z C H' s' I' q ⟨m,hm⟩ fC;obtain⟨f0,f1,Y,f3,f4,f5⟩:=fC;show Ie (Ke X.prog X.w) X.A (Bi (.Name y k) X.env<|.ref Z) (λ_ j=>∃m,j.heap.Ns C m/\∀h',c6 C j.heap h'->_) X.xe s';refine wpAny_assign_Name<|DG I' hN hy (.inl hl) (v:=.ref Z) rfl (λj F d=>?_)<|.inr hl;obtain⟨a,d,ha⟩:=d;have G:C≠a:=by
  rcases ha with z|z
  .rw[z];exact f1
  .exact λe=>f4 y a z e.symm
 obtain⟨L,M⟩:∃L,j.heap.Ns C L:=⟨m,hm.sameBut d G⟩;refine⟨L,M,λh' sb=>Fe<|Fe ⟨_,H',?_,q⟩⟩;exact F.turned (t':=j.toks) (λb o hb e=>(sb.2 b hb).trans e) f0 f1 f3 f4 f5
inductive Kd where|l|t
def ItAt(k:Kd)(h:Gf)(it a:Ee)(i:Nat):Prop:=match k with | .l=>h.IsListIter it a i | .t=>h.IsTupleIter it a i
def SqAt(k:Kd)(h:Gf)(a:Ee)(b:Kn Be):Prop:=match k with | .l=>h.IsList a b | .t=>h.IsTuple a b
noncomputable def ZZ(k:Kd)(a:Ee):Obj:=match k with | .l=>{cls:=.type "list_iterator",data:=.fields #[.ref a,.int 0 0]} | .t=>{cls:=.type "tuple_iterator",data:=.fields #[.ref a,.int 0 0]}
theorem ItAt.at(x:ItAt k h it a i)(f:∀o,h.get? it=some o->h'.get? it=some o):ItAt k h' it a i:=by
 cases k with
 |l=>exact Heap.IsListIter.at x f
 |t=>exact Heap.IsTupleIter.at x f
theorem SqAt.at(x:SqAt k h a xs)(f:∀o,h.get? a=some o->h'.get? a=some o):SqAt k h' a xs:=by
 cases k with
 |l=>exact Heap.IsList.at x f
 |t=>obtain⟨o,e,r⟩:=x;exact⟨o,f o e,r⟩
theorem ItAt.obj(x:ItAt k h it a i):∃o,h.get? it=some o/\∀v,o.data≠.cell v:=by
 cases k with
 |l=>obtain⟨o,e,c,d⟩:=x;exact⟨o,e,λv z=>by rw[d]at z;cases z⟩
 |t=>obtain⟨o,e,c,d⟩:=x;exact⟨o,e,λv z=>by rw[d]at z;cases z⟩
theorem ItAt.new(k:Kd){h:Gf}{it a:Ee}(e:h.get? it=some (ZZ k a)):ItAt k h it a 0:=by
 cases k with
 |l=>exact⟨_,e,rfl,rfl⟩
 |t=>exact⟨_,e,rfl,rfl⟩
section
variable {w:Xe}
theorem nV(hl:SqAt k s.heap a xs)(h:Q (.ref s.heap.objs.size) {s with heap:=s.heap.push<|ZZ k a}):Ie (Ke prog w) A (pyIter<|.ref a) Q E s:=by
 cases k with
 |l=>exact Wg hl h
 |t=>exact Eh hl h
theorem oV(hit:s.heap.IsTupleIter it t i)(d:s.heap.IsTuple t items)(hx:items[i]?=some x)(e:∀h',h'.IsTupleIter it t (i+1)->c6 it s.heap h'->Q x {s with heap:=h'}):Ie (Ke prog w) A (B3<|.ref it) Q E s:=by
 obtain⟨o,a,j,hd⟩:=id hit;obtain⟨k,b,_,nl,c⟩:=d;unfold B3;refine Ae<|Af (name:=Str.ofString "__next__") hit.typeIs F.slot_tuple_iterator_next
   (Jf F.slot_tuple_iterator_next hit.typeIs F.entry_tuple_iterator_next ?_<|F.args_tuple_iterator_next_1 _);show Ie _ _ (Zl (.ref it) 0 >>= _) _ _ s;refine Ae<|Ze a hd (x:=.ref t) rfl ?_;show Ie _ _ (if (B2 t==S7)=true then _ else _) _ _ s;rw[Ce<|show ¬((B2 t==S7)=true) from X1];show Ie _ _ (Zl (.ref it) 1 >>= _) _ _ s;refine Ae<|Ze a hd (x:=.int i 0) rfl ?_;show Ie _ _ (seqItems? (.ref t) >>= _) _ _ s;refine Ae<|Tf b c ?_;simp only[B4,hx];refine Ae<|Kh a hd (by simp)<|Fe ⟨x,rfl,Fe<|e _ ?_<|V6 ..⟩;exact⟨_,J4 _ a<|F9<|u7 hd _,(Obj.cls_mapFields ..).trans j,by
   rw[u7 hd];simp[Zg]⟩
theorem XV(j:A.handled=none)(hit:s.heap.IsTupleIter it l i) (hl:s.heap.IsTuple l items) (hx:items[i]?=none)(k:∀h' e,V9 it s.heap h'->(∃o,h'.get? e=some o/\o.cls=.type "StopIteration")->E (.ref e) {s with heap:=h'}):Ie (Ke prog w) A (B3<|.ref it) Q E s:=by
 obtain⟨o,b,q,hd⟩:=id hit;obtain⟨t,c,_,nl,d⟩:=hl;unfold B3;refine Ae<|Af (name:=Str.ofString "__next__") hit.typeIs F.slot_tuple_iterator_next
   (Jf F.slot_tuple_iterator_next hit.typeIs F.entry_tuple_iterator_next ?_<|F.args_tuple_iterator_next_1 _);show Ie _ _ (Zl (.ref it) 0 >>= _) _ _ s;refine Ae<|Ze b hd (x:=.ref l) rfl ?_;show Ie _ _ (if (B2 l==S7)=true then _ else _) _ _ s;rw[Ce<|show ¬((B2 l==S7)=true) from X1];show Ie _ _ (Zl (.ref it) 1 >>= _) _ _ s;refine Ae<|Ze b hd (x:=.int i 0) rfl ?_;show Ie _ _ (seqItems? (.ref l) >>= _) _ _ s;refine Ae<|Tf c d ?_;simp only[B4,hx];refine Ae<|Yf<|Ae<|Kh b hd (by simp) ?_;show Ie _ _ (newExc (.type "StopIteration") [] >>= _) _ _ _;refine Ae ?_;simp only[newExc,newTuple];refine Ae (Kf ?_<|by size_fits);refine Ae (m:=Gi _ _)<|Hh (a:=S7) (by first|rfl|(simp only[Gi];rfl)) ?_;refine Kf ?_ (by size_fits);simp only[raiseNew];refine Ae<|wpAny_handled ?_;first|rw[show A.in1.handled=none from j]|rw[j]
 refine Ae<|Fe<|wpAny_throw ?_;exact k _ _ (((V6 ..).extBut.push _).push _) ⟨_,U0 _ rfl,rfl⟩
theorem TK(hit:ItAt k s.heap it a i)(hl:SqAt k s.heap a xs)(hx:xs[i]?=some x)(b:∀h',ItAt k h' it a (i+1)->c6 it s.heap h'->Q x {s with heap:=h'}):Ie (Ke prog w) A (B3<|.ref it) Q E s:=by
 cases k with
 |l=>exact wpAny_nextOf_list_item hit hl hx b
 |t=>exact oV hit hl hx b
theorem JW(b:A.handled=none)(hit:ItAt k s.heap it a i)(hl:SqAt k s.heap a xs)(hx:xs[i]?=none)(c:∀h' e,V9 it s.heap h'->(∃o,h'.get? e=some o/\o.cls=.type "StopIteration")->E (.ref e) {s with heap:=h'}):Ie (Ke prog w) A (B3<|.ref it) Q E s:=by
 cases k with
 |l=>exact wpAny_nextOf_list_end b hit hl hx c
 |t=>exact XV b hit hl hx c
end
abbrev LJ(h:Gf)(T:Ee)(a b:Be):Prop:=h.get? T=some {cls:=.type "tuple",data:=.seq #[a,b]}
structure ZAp2(z TI TO i1 i2 l1 l2:Ee):Prop where
 TIz:TI≠z
 TOz:TO≠z
 i1z:i1≠z
 i2z:i2≠z
 TOTI:TO≠TI
 i1TI:i1≠TI
 i2TI:i2≠TI
 i1TO:i1≠TO
 i2TO:i2≠TO
 i2i1:i2≠i1
 l1z:l1≠z
 l1TO:l1≠TO
 l1i1:l1≠i1
 l1i2:l1≠i2
 l2z:l2≠z
 l2TO:l2≠TO
 l2i1:l2≠i1
 l2i2:l2≠i2
theorem eT(n l1 l2:Nat)(a:l1<n)(b:l2<n):ZAp2 (n+4) (n+2) (n+3) n (n+1) l1 l2:=by constructor<;>(show ¬(@Eq Nat _ _))<;>lia
section
variable {w:Xe}
end
structure Zk where
 k:Kd
 i:Ee
 l:Ee
abbrev IJ(h:Gf)(T:Ee)(a:List Be):Prop:=h.get? T=some {cls:=.type "tuple",data:=.seq a.toArray}
structure ZA(S:List Zk)(z TI TO:Ee):Prop where
 TIz:TI≠z
 TOz:TO≠z
 TOTI:TO≠TI
 nd:(S.map (·.i)).Nodup
 i:∀u∈S,u.i≠z/\u.i≠TI/\u.i≠TO
 l:∀u∈S,u.l≠z/\u.l≠TO/\∀v∈S,u.l≠v.i
def Nx(h:Gf)(k:Nat)(u:Zk)(x:Be):Prop:=∃a,SqAt u.k h u.l a/\a[k]?=some x
def KpZ(S:List Zk)(z TO:Ee)(h h':Gf):Prop:=∀c o,c≠z->c≠TO->(∀u∈S,c≠u.i)->h.get? c=some o->h'.get? c=some o
structure ZLoop(S:List Zk)(z TI TO:Ee)(as:List Be)(k:Nat)(h0:Gf)(pre rest:List Zk)(vs:List Be)(h:Gf):Prop where
 e:S=pre++rest
 n:vs.length=pre.length
 hz:Mh h z TI TO .ellipsis
 to:IJ h TO (vs++as.drop pre.length)
 dn:∀u∈pre,ItAt u.k h u.i u.l (k+1)
 nt:∀u∈rest,ItAt u.k h u.i u.l k
 kp:KpZ S z TO h0 h
 sz:h.objs.size=h0.objs.size
 nx:∀p∈pre.zip vs,Nx h0 k p.1 p.2
section
variable {w:Xe}
theorem KpZ.l{S:List Zk}{TI TO:Ee}{u:Zk}(K:KpZ S z TO h h')(D:ZA S z TI TO)(a:u∈S)(p:SqAt u.k h u.l xs):SqAt u.k h' u.l xs:=p.at λo e=>K _ o (D.l u a).1 (D.l u a).2.1 (D.l u a).2.2 e
theorem iT{S:List Zk}{TI TO:Ee}(D:ZA S z TI TO)(sf:S≠[])(h3:S.length<=3)(hz:Mh s.heap z TI TO .none) (zf:IJ s.heap TI (S.map λu=>.ref u.i)) (jg:IJ s.heap TO as) (hla:as.length=S.length)(hI:∀u∈S,ItAt u.k s.heap u.i u.l k) (hS:∀u∈S,∃Y,SqAt u.k s.heap u.l Y)(hQ:∀q h',q.length=S.length->(∀p∈S.zip q,Nx s.heap k p.1 p.2)->Mh h' z TI TO (Zg s.heap.objs.size)->IJ h' TO q->(∀u∈S,ItAt u.k h' u.i u.l<|k+1)->IJ h' s.heap.objs.size q->h'.objs.size=s.heap.objs.size+1->KpZ S z TO s.heap h'->Q (.ref s.heap.objs.size) {s with heap:=h'})(hE:(∃u∈S,∃Y,SqAt u.k s.heap u.l Y/\Y[k]?=none)->A.handled=none/\∀h' e,KpZ S z TO s.heap h'->(∃o,h'.get? e=some o/\o.cls=.type "StopIteration")->E (.ref e) {s with heap:=h'}):Ie (Ke prog w) A (Builtin.«zip.__next__» ⟨[.ref z],[]⟩) (λfin s'=>∃v,fin=.done (.ret v)/\Q v s') E s:=by
 show Ie _ _ (Zl (.ref z) 2 >>= _) _ _ _;refine Ae<|Ze hz rfl (x:=.bool false) rfl ?_;show Ie _ _ (Zl (.ref z) 3 >>= _) _ _ _;refine Ae<|Ze hz rfl (x:=.ref TI) rfl ?_;refine Ae<|Tf zf rfl ?_;have jp:((S.map λu=>B2 u.i).toArray).isEmpty=false:=by
  cases S with
  |nil=>exact absurd rfl sf
  |cons _ _=>rfl
 simp only[jp,Y4,if_false];show Ie _ _ (v4 (.ref z) >>= _) _ _ _;refine Ae ?_;unfold v4;refine Ae<|Ze hz rfl (x:=.none) rfl<|Fe ?_;simp only[if_true];refine Ae<|Yf ?_;refine Ae<|Ze hz rfl (x:=.ref TO) rfl ?_;refine Ae<|Og hz (by simp) λM y d=>?_
 replace y:Mh M z TI TO .ellipsis:=y
 have z0:ZLoop S z TI TO as k s.heap [] S [] M:=⟨rfl,rfl,y,d.extBut _ _ D.TOz jg,(λu h=>by cases h),λu I=>(hI u I).at λo e=>d.extBut _ o (D.i u I).1 e,λc o G _ _ e=>d.extBut _ _ G e,d.1,λp h=>by cases h⟩;refine Ae<|Zi _ (λr b t=>b=(none,())/\∃pre rest q h,r=(rest.map λu=>B2 u.i).zipIdx pre.length/\t={s with heap:=h}/\ZLoop S z TI TO as k s.heap pre rest q h) _ ?turn ?fin _ _ ⟨rfl,[],S,[],M,rfl,rfl,z0⟩
 case turn =>
  rintro x r b t ⟨rfl,pre,rest,q,h,e,rfl,L⟩;cases rest with
  |nil=>cases e
  |cons u rest =>
   cases e;have I:u∈S:=by rw[L.e];simp
   obtain⟨Y,hxs⟩:=hS u I;have nd:=D.nd;rw[L.e,U2,m9]at nd;obtain⟨_,nd2,nd1⟩:=nd;rw[Y0,w6]at nd2;obtain⟨Dz,DTI,DTO⟩:=D.i u I;refine Ae<|wpAny_onRaise ?_;show Ie _ _ (B3 (.ref u.i) >>= _) _ _ _;have hl:=L.kp.l D I hxs;cases hx:Y[k]? with
   |none =>
    obtain⟨hh,hE⟩:=hE ⟨u,I,Y,hxs,hx⟩;refine Ae<|JW hh (L.nt u<|by simp) hl hx λhq e hsq he=>?_;obtain⟨oe,hoe,ar⟩:=he;have hzq:Mh hq z TI TO .ellipsis:=hsq _ _ Dz.symm L.hz;have hez:e≠z:=λx=>by subst x;rw[hzq]at hoe;cases hoe;simp at ar
    exact Og hzq (by simp) λh₉ _ O=>hE h₉ e (λc o G Z c3 x=>O.extBut _ _ G<|hsq _ _ (c3 u I)<|L.kp c o G Z c3 x) ⟨oe,O.extBut _ _ hez hoe,ar⟩
   |some x =>
    refine Ae<|TK (L.nt u<|by simp) hl hx λha hi hsa=>Fe ?_;have P:=hsa.extBut _ _ DTO.symm L.to;have ln:=L.n;have lS:S.length=pre.length+(rest.length+1):=by rw[L.e];simp
    have lz:(q++as.drop pre.length).length=S.length:=by rw[R0,M5];lia
    have l3:(q++as.drop pre.length).toArray.size<=3:=by rw[S0];exact le_of_eq_of_le lz h3
    refine Ae<|Tf P rfl ?_;refine Ae (Rg P rfl (Ae<|wpAny_letGo<|Fe ⟨rfl,pre++[u],rest,q++[x],_,?_,rfl,?_⟩) (A0 l3<|by decide)<|by rw[GQ];exact A0 l3<|by decide)
    .rw[R0];rfl
    have hsb:c6 TO ha (ha.update TO (Q3 (·.setIfInBounds pre.length x))):=V6 ..;obtain⟨a,ea⟩:∃a,as.drop pre.length=a::as.drop (pre.length+1):=⟨_,M4<|by lia⟩;have cp:∀c,c≠u.i->c≠TO->∀o,h.get? c=some o->(ha.update TO (Q3 (·.setIfInBounds pre.length x))).get? c=some o:=λc G Z o e=>hsb.extBut _ o Z<|hsa.extBut _ o G e;refine⟨by rw[L.e];simp,by simp[ln],cp _ Dz.symm D.TOz.symm _ L.hz,?_,λv R=>?_,λv R=>?_,λc o G Z c3 e=>cp c (c3 u I) Z o<|L.kp c o G Z c3 e,by rw[hsb.1,hsa.1];exact L.sz,λp hp=>?_⟩
    .show _=_;rw[J4 _ P rfl];simp[Q3,ln,ea]
    .rcases O2.mp R with R|R
     .exact(L.dn v R).at λo e=>cp _ (nd1 _ (U7 R) _<|L0 ..) (D.i v<|by rw[L.e];simp[R]).2.2 o e
     .rw[J2.mp R];exact hi.at λo e=>hsb.extBut _ o DTO e
    .exact(L.nt v<|G0 _ R).at λo e=>cp _ (λz=>nd2.1<|z ▸ U7 R) (D.i v<|by rw[L.e];simp[R]).2.2 o e
    .rw[fX ln.symm]at hp;rcases O2.mp hp with hp|hp
     .exact L.nx p hp
     .rw[J2.mp hp];exact⟨Y,hxs,hx⟩
 case fin =>
  rintro b t ⟨rfl,pre,rest,q,h,e,rfl,L⟩;obtain rfl:rest=[]:=by
   cases rest with
   |nil=>rfl
   |cons _ _=>cases e
  have eS:=L.e;rw[Z2]at eS;subst eS;have ld:as.drop S.length=[]:=t6<|P0 hla;have jt:=L.to;rw[ld,Z2]at jt;refine Ae<|Tf jt rfl<|Ae<|Ol ?_ (by have:=L.n;simp;exact A0 (show q.length<=3 by exact le_of_eq_of_le this h3)<|by decide);have hzlt:z<h.objs.size:=Q0 L.hz;show Ie _ _ (R8 (.ref z) (.ref h.objs.size) >>= _) _ _ _;refine Ae ?_;unfold R8;have hz₆:Mh (h.push {cls:=.type "tuple",data:=.seq q.toArray}) z TI TO .ellipsis:=i0 _ L.hz;refine Ae<|Og hz₆ (by simp) λh₇ B C=>?_
  replace B:Mh h₇ z TI TO (Zg h.objs.size):=B
  refine Og B (by simp) λm j F=>?_
  replace j:Mh m z TI TO (Zg h.objs.size):=j
  have up:∀c o,c≠z->h.get? c=some o->m.get? c=some o:=λc o G e=>F.extBut _ _ G<|C.extBut _ _ G<|i0 _ e;have U:IJ m h.objs.size q:=F.extBut _ _ (V3 hzlt)<|C.extBut _ _ (V3 hzlt)<|U0 _ rfl;have hz8:m.objs.size=h.objs.size+1:=by rw[F.1,C.1,J3]
  rw[L.sz]at j U hz8;refine Fe ⟨_,rfl,?_⟩;show Q (.ref h.objs.size) _;rw[L.sz];exact hQ q m L.n L.nx j (up _ _ D.TOz jt) (λu I=>(L.dn u I).at λo e=>up _ o (D.i u I).1 e) U hz8 λc o G Z c3 e=>up c o G<|L.kp c o G Z c3 e
theorem sW{S:List Zk}{TI TO:Ee}{Q:Jn Be->Ge->Prop}(D:ZA S z TI TO)(t:S≠[])(v:S.length<=3)(j:Mh s.heap z TI TO .none) (x:IJ s.heap TI (S.map λu=>.ref u.i)) (y:IJ s.heap TO as) (d:as.length=S.length)(B:∀u∈S,ItAt u.k s.heap u.i u.l k) (C:∀u∈S,∃c,SqAt u.k s.heap u.l c)(G:∀a h',a.length=S.length->(∀p∈S.zip a,Nx s.heap k p.1 p.2)->Mh h' z TI TO (Zg s.heap.objs.size)->IJ h' TO a->(∀u∈S,ItAt u.k h' u.i u.l<|k+1)->IJ h' s.heap.objs.size a->h'.objs.size=s.heap.objs.size+1->KpZ S z TO s.heap h'->Q (some<|.ref s.heap.objs.size) {s with heap:=h'})(m:(∃u∈S,∃c,SqAt u.k s.heap u.l c/\c[k]?=none)->A.handled=none/\∀h',KpZ S z TO s.heap h'->Q none {s with heap:=h'}):Ie (Ke prog w) A (Lg<|.ref z) Q E s:=by
 have q:s.TypeIs (.ref z) "zip":=⟨_,j,rfl⟩;unfold Lg;refine Ae<|Ug<|Af (name:=Str.ofString "__next__") q F.slot_zip_next
   (Jf F.slot_zip_next q F.entry_zip_next (iT D t v j x y d B C (λa h' I L M O P R U Y=>Fe<|G a h' I L M O P R U Y) λh=>⟨(m h).1,λh' e Z he=>?_⟩)<|F.args_zip_next_1 _);obtain⟨o,ho,hc⟩:=he;exact Ae<|Ph (T:="StopIteration") (b:=true) ⟨o,ho,hc⟩ Ql<|Fe<|(m h).2 h' Z
theorem OF{l:List α}(h:l.length=2):∃a b,l=[a,b]:=by
 cases l with
 |nil=>cases h
 |cons a l=>cases l with
  |nil=>cases h
  |cons b l=>cases l with
   |nil=>exact⟨a,b,rfl⟩
   |cons _ _=>cases h
theorem SqAt.inj{ys:Kn Be}(p:SqAt k h a xs)(q:SqAt k h a ys):xs=ys:=by cases k<;>obtain⟨o,e,_,n,d⟩:=p<;>obtain⟨i,b,_,j,c⟩:=q<;>rw[e]at b<;>cases b<;>rw[d]at c<;>cases c<;>rfl
section
variable {TI TO:Ee}{k:Nat}{k1 k2:Kd}{a1 a2 x1 x2:Be}{Q:Jn Be->Ge->Prop}
theorem ZAp2.za(D:ZAp2 z TI TO i1 i2 l1 l2):ZA [⟨k1,i1,l1⟩,⟨k2,i2,l2⟩] z TI TO:=⟨D.TIz,D.TOz,D.TOTI,by simp[D.i2i1.symm],by simp[D.i1z,D.i2z,D.i1TI,D.i2TI,D.i1TO,D.i2TO],by simp[D.l1z,D.l2z,D.l1TO,D.l2TO,D.l1i1,D.l1i2,D.l2i1,D.l2i2]⟩
theorem KpZ.two(K:KpZ [⟨k1,i1,l1⟩,⟨k2,i2,l2⟩] z TO h h'):∀c o,c≠z->c≠TO->c≠i1->c≠i2->h.get? c=some o->h'.get? c=some o:=λc o a b d i e=>K c o a b (by simp[d,i]) e
theorem nH(D:ZAp2 z TI TO i1 i2 l1 l2)(m:Mh s.heap z TI TO .none) (q:LJ s.heap TI (.ref i1) (.ref i2)) (t:LJ s.heap TO a1 a2)(v:ItAt k1 s.heap i1 l1 k) (x:ItAt k2 s.heap i2 l2 k) (a:SqAt k1 s.heap l1 xs1) (b:SqAt k2 s.heap l2 xs2) (d:xs1[k]?=some x1) (i:xs2[k]?=some x2)(y:∀h',Mh h' z TI TO (Zg s.heap.objs.size)->LJ h' TO x1 x2->ItAt k1 h' i1 l1 (k+1)->ItAt k2 h' i2 l2 (k+1)->LJ h' s.heap.objs.size x1 x2->h'.objs.size=s.heap.objs.size+1 ->(∀c o,c≠z->c≠TO->c≠i1->c≠i2->s.heap.get? c=some o->h'.get? c=some o)->Q (some<|.ref s.heap.objs.size) {s with heap:=h'}):Ie (Ke prog w) A (Lg<|.ref z) Q E s:=by
 refine sW (k:=k) (as:=[a1,a2]) (D.za (k1:=k1) (k2:=k2)) (by simp) (n8 2) m q t rfl (by simp[v,x]) (by simp;exact⟨⟨_,a⟩,_,b⟩) (λU h' n nx B b2 j C F G=>?_) λh=>?_
 .obtain⟨I,L,rfl⟩:=OF n
  .obtain⟨_,M,O⟩:=nx (⟨k1,i1,l1⟩,I) (by simp);obtain⟨_,P,R⟩:=nx (⟨k2,i2,l2⟩,L) (by simp);cases M.inj a;cases P.inj b;cases d.symm.trans O;cases i.symm.trans R;exact y h' B b2 (j ⟨k1,i1,l1⟩<|by simp) (j ⟨k2,i2,l2⟩<|by simp) C F G.two
 .obtain⟨u,l,_,p,e⟩:=h;simp at l;rcases l with rfl|rfl
  .cases p.inj a;cases d.symm.trans e
  .cases p.inj b;cases i.symm.trans e
theorem sG(d:A.handled=none)(D:ZAp2 z TI TO i1 i2 l1 l2)(e:Mh s.heap z TI TO .none) (i:LJ s.heap TI (.ref i1) (.ref i2)) (j:LJ s.heap TO a1 a2)(l:ItAt k1 s.heap i1 l1 k) (m:ItAt k2 s.heap i2 l2 k) (a:SqAt k1 s.heap l1 xs1) (b:SqAt k2 s.heap l2 xs2) (q:xs1[k]?=none\/xs2[k]?=none)(t:∀h',(∀c o,c≠z->c≠TO->c≠i1->c≠i2->s.heap.get? c=some o->h'.get? c=some o)->Q none {s with heap:=h'}):Ie (Ke prog w) A (Lg<|.ref z) Q E s:=by
 refine sW (k:=k) (as:=[a1,a2]) (D.za (k1:=k1) (k2:=k2)) (by simp) (n8 2) e i j rfl (by simp[l,m]) (by simp;exact⟨⟨_,a⟩,_,b⟩) (λG h' n nx _ _ _ _ _ _=>?_) λh=>⟨d,λh' K=>t h' K.two⟩;obtain⟨v,x,rfl⟩:=OF n
 .obtain⟨_,y,B⟩:=nx (⟨k1,i1,l1⟩,v) (by simp);obtain⟨_,C,F⟩:=nx (⟨k2,i2,l2⟩,x) (by simp);cases y.inj a;cases C.inj b;rcases q with h|h
  .cases h.symm.trans B
  .cases h.symm.trans F
end
end
noncomputable abbrev Dv(h:Gf)(a:Kd)(b:Kd)(l1 l2:Ee):Gf:=((h.push<|ZZ a l1).push<|ZZ b l2)
noncomputable abbrev Fv(h:Gf)(a:Kd)(b:Kd)(l1 l2:Ee):Gf:=(Dv h a b l1 l2).push {cls:=.type "tuple",data:=.seq #[.ref h.objs.size,.ref (h.push<|ZZ a l1).objs.size]}
noncomputable abbrev Gv(h:Gf)(a:Kd)(b:Kd)(l1 l2:Ee):Gf:=(Fv h a b l1 l2).push {cls:=.type "tuple",data:=.seq #[.none,.none]}
noncomputable abbrev HY(h:Gf)(a:Kd)(b:Kd)(l1 l2:Ee):Gf:=(Gv h a b l1 l2).push {cls:=.type "zip",data:=.fields #[.none,.bool false,.bool false,.ref (Dv h a b l1 l2).objs.size,.ref (Fv h a b l1 l2).objs.size]}
theorem fq(a:Kd)(b:Kd)(l1 l2:Ee)(xs1 xs2:Kn Be):Meets (Builtin.«zip.__new__» ⟨[.type "zip",.ref l1,.ref l2],[]⟩) (λ_ R s=>SqAt a s.heap l1 xs1/\SqAt b s.heap l2 xs2 /\ R (.ok<|.ret<|.ref (Gv s.heap a b l1 l2).objs.size) {s with heap:=HY s.heap a b l1 l2}):=
 .of_wp λprog w A R s h=>by
  obtain⟨j,g,d,k,os⟩:=s;obtain⟨l,m,h⟩:=h;have q:=sub_zip;have c:SqAt a (Shared.heap ⟨j,g,d,k,os⟩) l1 xs1:=l;have i:SqAt b (Shared.heap ⟨(j.push<|ZZ a l1),g,d,k,os⟩) l2 xs2:=(SqAt.at m λo e=>i0 _ e)
  wp_walk using nV c,nV i
  exact⟨_,rfl,h⟩
theorem Ea(b c d:Kd)(n l1 l2 a:Nat)(e:l1<n)(i:l2<n)(j:a<n):ZA [⟨b,n,l1⟩,⟨c,n+1,l2⟩,⟨d,n+2,a⟩] (n+5) (n+3) (n+4):=by
 constructor
 .show ¬(@Eq Nat _ _);exact J1<|M7 (S3 _)<|S3 _
 .show ¬(@Eq Nat _ _);exact J1<|S3 _
 .show ¬(@Eq Nat _ _);exact V3<|S3 _
 .simp
 .simp
 .simp;refine⟨⟨?_,?_,?_,?_,?_⟩,⟨?_,?_,?_,?_,?_⟩,?_,?_,?_,?_,?_⟩<;>(show ¬(@Eq Nat _ _))<;>lia
noncomputable abbrev xI(h:Gf)(a:Kd)(b:Kd)(c:Kd)(l1 l2 d:Ee):Gf:=(((h.push<|ZZ a l1).push<|ZZ b l2).push<|ZZ c d)
noncomputable abbrev yI(h:Gf)(a:Kd)(b:Kd)(c:Kd)(l1 l2 d:Ee):Gf:=(xI h a b c l1 l2 d).push {cls:=.type "tuple",data:=.seq #[.ref h.objs.size,.ref (h.push<|ZZ a l1).objs.size,.ref ((h.push<|ZZ a l1).push<|ZZ b l2).objs.size]}
noncomputable abbrev AI(h:Gf)(a:Kd)(b:Kd)(c:Kd)(l1 l2 d:Ee):Gf:=(yI h a b c l1 l2 d).push {cls:=.type "tuple",data:=.seq #[.none,.none,.none]}
noncomputable abbrev PF(h:Gf)(a:Kd)(b:Kd)(c:Kd)(l1 l2 d:Ee):Gf:=(AI h a b c l1 l2 d).push {cls:=.type "zip",data:=.fields #[.none,.bool false,.bool false,.ref (xI h a b c l1 l2 d).objs.size,.ref (yI h a b c l1 l2 d).objs.size]}
theorem Iu(a:Kd)(b:Kd)(j:Kd)(l1 l2 c:Ee)(xs1 xs2 i:Kn Be):Meets (Builtin.«zip.__new__» ⟨[.type "zip",.ref l1,.ref l2,.ref c],[]⟩) (λ_ R s=>SqAt a s.heap l1 xs1/\SqAt b s.heap l2 xs2/\SqAt j s.heap c i /\ R (.ok<|.ret<|.ref (AI s.heap a b j l1 l2 c).objs.size) {s with heap:=PF s.heap a b j l1 l2 c}):=
 .of_wp λprog w A R s h=>by
  obtain⟨k,g,d,l,os⟩:=s;obtain⟨v,x,y,h⟩:=h;have B:=sub_zip;have m:SqAt a (Shared.heap ⟨k,g,d,l,os⟩) l1 xs1:=v;have q:SqAt b (Shared.heap ⟨(k.push<|ZZ a l1),g,d,l,os⟩) l2 xs2:=(SqAt.at x λo e=>i0 _ e);have t:SqAt j (Shared.heap ⟨((k.push<|ZZ a l1).push<|ZZ b l2),g,d,l,os⟩) c i:=(SqAt.at (SqAt.at y λo e=>i0 _ e) λo e=>i0 _ e)
  wp_walk using nV m,nV q,nV t
  exact⟨_,rfl,h⟩
inductive Ki where|non|bl|int|str|lst|tup|dct
 deriving DecidableEq
noncomputable def Ki.nm:Ki->String
 | .non=>"NoneType" | .bl=>"bool" | .int=>"int" | .str=>"str" | .lst=>"list" | .tup=>"tuple" | .dct=>"dict"
noncomputable def KiOf(K:K0)(H:Hp):V->Ki->Prop
 | .non,k=>k=.non
 | .bl _,k=>k=.bl
 | .int _,k=>k=.int
 | .str _,k=>k=.str
 | .ref a,k=>(k=.lst/\∃b,SqL K H a b)\/(k=.tup/\∃b,SqT K H a b)\/(k=.dct/\((∃c,H a=some (.dK c))\/∃c,H a=some (.dT c)))
 |_,_=>Ln
noncomputable def Ki.sub:Ki->Ki->Bool
 | .bl,.int=>true
 |a,b=>decide<|a=b
theorem KiOf.typeIs(I:Inv X de σ H s)(h:KiOf X.K H x k)(r:RelV x u):s.TypeIs u k.nm:=by
 cases x with
 |non=>cases h;cases r;rfl
 |bl b=>cases h;cases r;rfl
 |int i=>cases h;obtain⟨t,rfl⟩:=r;rfl
 |str i=>cases h;obtain⟨t,rfl⟩:=r;rfl
 |ref a =>
  cases r;rcases h with⟨rfl,j,d⟩|⟨rfl,j,d⟩|⟨rfl,⟨l,d⟩|⟨l,d⟩⟩
  .obtain⟨its,_,⟨o,n,e,c,_⟩,_⟩:=I.list d;exact⟨o,e,c⟩
  .obtain⟨its,_,⟨o,e,c,_⟩,_⟩:=I.tuple d;exact⟨o,e,c⟩
  .obtain⟨_,_,_,_,o,m,q,e,c,_⟩:=I.hok a _ d;exact⟨o,e,c.1⟩
  .obtain⟨_,_,_,_,o,m,q,e,c,_⟩:=I.hok a _ d;exact⟨o,e,c.1⟩
 |byt _=>cases h
 |flt _=>cases h
 |ty _=>cases h
theorem uK(T:Ki):Gm (.type T.nm)=pure (.type "type"):=by
 cases T
 .exact F.isi_meta_NoneType
 .exact F.isi_meta_bool
 .exact F.isi_meta_int
 .exact F.isi_meta_str
 .exact F.isi_meta_list
 .exact F.isi_meta_tuple
 .exact F.isi_meta_dict
theorem QF(k T:Ki):Sm (.type k.nm) (.type T.nm)=pure (k.sub T):=by cases k<;>cases T<;>(show Sm (.type _) (.type _)=pure _;rw[Fi];kernel_rfl)
theorem aN(k T:Ki)(h:k.sub T=false):(V8 k.nm==V8 T.nm)=false:=by cases k<;>cases T<;>first|(exfalso;revert h;decide)|decide +kernel
def Hv(K:K0):List V->Hp->VK->Prop:=λa H Q=>∃(x:V) (k:Ki) (T:Ki),a=[x,.ty T.nm]/\KiOf K H x k/\Q (.bl<|k.sub T) H
theorem gq:YZ X (.builtin "isinstance") (Hv X.K):=by
 intro de s σ H y us Q I r h;obtain⟨x,k,T,rfl,c,q⟩:=h;obtain⟨u,v,rfl,j,w⟩:=eY r;obtain rfl:v=.type T.nm:=w;have m:=c.typeIs I j;cases l:k.sub T with
 |true=>rw[l]at q;exact Nf (isinstance_true (Tx:=k.nm) (uK T)<|by rw[QF,l]) ⟨m,.bl true,H,I,rfl,q⟩
 |false =>
  rw[l]at q;have d:Sm (.type k.nm) (.type T.nm)=pure false:=by rw[QF,l]
  have e:=aN k T l;have fin:EP X de σ Q (.bool false) {s with toks:=s.toks+1}:=⟨.bl false,H,I.tok _,rfl,q⟩;cases x with
  |non=>cases c;cases j;exact Nf (isinstance_false_none e (uK T) d) fin
  |bl b=>cases c;cases j;exact Nf (isinstance_false_bool e (uK T) d) fin
  |int i=>cases c;obtain⟨t,rfl⟩:=j;exact Nf (isinstance_false_int e (uK T) d) fin
  |str i=>cases c;obtain⟨t,rfl⟩:=j;exact Nf (isinstance_false_str e (uK T) d) fin
  |ref a =>
   cases j;rcases c with⟨rfl,_⟩|⟨rfl,_⟩|⟨rfl,_⟩
   .exact Nf (isinstance_false_list e (uK T) d) ⟨m,fin⟩
   .exact Nf (isinstance_false_tuple e (uK T) d) ⟨m,fin⟩
   .exact Nf (Ll e (uK T) d) ⟨m,fin⟩
  |byt _=>cases c
  |flt _=>cases c
  |ty _=>cases c
def QO(K:K0):List V->Hp->VK->Prop:=λb H Q=>∃(a:Ee) (bs:List Bool),b=[.ref a]/\SqL K H a (bs.map V.bl)/\Q (.bl<|bs.all id) H
theorem iq{bs:List Bool}(r:Vals (bs.map V.bl) us)(i:Nat)(v:Be)(h:us[i]?=some v):∃b,bs[i]?=some b/\v=.bool b:=by
 cases e:bs[i]? with
 |none =>
  have a:(bs.map V.bl)[i]?=none:=by rw[S1,e];rfl
  rw[r.none_of a]at h;cases h
 |some b=>obtain⟨u,c,d⟩:=r.get (i:=i) (x:=.bl b) (by rw[S1,e];rfl);rw[c]at h;cases h;exact⟨b,rfl,d⟩
theorem RF(bs:List Bool):((G2 bs.length).all λi=>(bs[i]?).getD true)=bs.all id:=by
 rw[G7,L8,L8];constructor
 .intro h b a;obtain⟨i,hi,e⟩:=O6.mp a;have:=h i<|o7.mpr hi;rw[J0 hi,q5,e]at this;exact this
 .intro h i hi;have hi:=o7.mp hi;rw[J0 hi,q5];exact h _<|X5 hi
theorem Ju(l:X.calm=true):YZ X (.builtin "all") (QO X.K):=by
 intro de s σ H F us Q I r h;obtain⟨a,bs,rfl,m,q⟩:=h;obtain⟨u,rfl,t⟩:=wK r;cases t;obtain⟨its,d,p,G⟩:=I.list m;have hl:=p.isList;have w:a<s.heap.objs.size:=by obtain⟨_,e,_⟩:=hl;exact Q0 e
 refine call_all_walk<|Wg hl ?_;refine⟨s.heap.objs.size,[s.heap.objs.size,a],[s.heap.objs.size],its.toArray.size,_,_,λi=>(bs[i]?).getD true,rfl,Walks.list (A:=X.A.in1) (I.ok.hd l) _ a (J1 w) its.toArray,
   ⟨⟨_,U0 _ rfl,rfl,rfl⟩,hl.push _⟩,λi v s' L M x j=>?_,λh' y B=>?_⟩
 .obtain⟨b,e,rfl⟩:=iq d i v (by simpa using x);simp only[e,q5]at j;exact Hg j
 .have e:((G2 its.toArray.size).all λi=>(bs[i]?).getD true)=bs.all id:=by
   have k:=d.length;rw[g0]at k;rw[S0,<-k];exact RF bs
  rw[e];refine⟨.bl<|bs.all id,H,I.kept (h':=h') (t':=y) λb o c=>B b o (λC=>?_)<|i0 _ c,rfl,q⟩;rw[J2.mp C]at c;exact T2 _<|Q0 c
def Sq(k:Kd)(K:K0)(H:Hp)(a:Ee)(b:List V):Prop:=match k with | .l=>SqL K H a b | .t=>SqT K H a b
theorem Inv.sq(I:Inv X de σ H s)(h:Sq k X.K H a xs):∃its:List Be,Vals xs its/\SqAt k s.heap a its.toArray/\xs.length<=sizeLine:=by
 cases k with
 |l=>obtain⟨its,r,p,z⟩:=I.list h;exact⟨its,r,p.isList,z⟩
 |t=>obtain⟨its,r,p,z⟩:=I.tuple h;exact⟨its,r,p,z⟩
theorem Inv.sq_inj(I:Inv X de σ H s)(h:Sq k X.K H a xs)(h':Sq k X.K H a ys):xs=ys:=by
 cases k with
 |l=>exact I.list_inj h h'
 |t=>exact I.tuple_inj h h'
noncomputable def RO(K:K0)(e:Kd)(j:Kd)(l1 l2:Ee):It :=
 ⟨λi H=>∃a c b d,Sq e K H l1 a/\Sq j K H l2 b/\a[i]?=some c/\b[i]?=some d,
  λi H x H'=>∃T c d,H T=none/\x=.ref T/\H'=bJ H T (.tup [c,d])/\(∀ys,Sq e K H l1 ys->ys[i]?=some c)/\(∀ys,Sq j K H l2 ys->ys[i]?=some d),
  λi H=>∃a b,Sq e K H l1 a/\Sq j K H l2 b/\(a.length<=i\/b.length<=i)⟩
noncomputable def Ku(K:K0)(S:List Zk):It :=
 ⟨λi H=>∀u∈S,∃ys x,Sq u.k K H u.l ys/\ys[i]?=some x,
  λi H x H'=>∃T a,H T=none/\x=.ref T/\H'=bJ H T (.tup a)/\a.length=S.length/\∀p∈S.zip a,∀ys,Sq p.1.k K H p.1.l ys->ys[i]?=some p.2,
  λi H=>(∀u∈S,∃ys,Sq u.k K H u.l ys)/\∃u∈S,∃ys,Sq u.k K H u.l ys/\ys.length<=i⟩
theorem jT(I:Inv X de σ H s){S:List Zk}:∀{a:List Be},a.length=S.length->(∀u∈S,∃ys x,Sq u.k X.K H u.l ys/\ys[i]?=some x)->(∀p∈S.zip a,Nx s.heap i p.1 p.2)->∃b:List V,Vals b a/\b.length=S.length/\∀p∈S.zip b,∀ys,Sq p.1.k X.K H p.1.l ys->ys[i]?=some p.2:=by
 induction S with
 |nil=>intro a n _ _;cases a with|nil=>exact⟨[],.nil,rfl,λp h=>by cases h⟩|cons _ _=>cases n
 |cons u S m =>
  intro a n d nx;cases a with
  |nil=>cases n
  |cons v a =>
  obtain⟨ys,x,q,e⟩:=d u L0;obtain⟨its,t,p,_⟩:=I.sq q;obtain⟨G,hw,w⟩:=t.get e;obtain⟨y,B,C⟩:=nx (u,v) L0;cases B.inj p;have:its[i]?=some v:=by simpa using C
  cases hw.symm.trans this;obtain⟨b,r,l,h⟩:=m (c9 n) (λu h=>d u<|G0 _ h) λp h=>nx p<|G0 _ h;refine⟨x::b,.cons w r,by rw[L1,l];rfl,λp c F j=>?_⟩;rcases E1.mp c with rfl|c
  .rw[I.sq_inj j q];exact e
  .exact h p c F j
theorem NG{K:K0}(S:List Zk)(z TI TO:Ee)(D:ZA S z TI TO)(sf:S≠[])(h3:S.length<=3):Turn P w K (.Tuple es kk pos) (Ku K S) (z::TI::TO::S.map (·.i)) z (λi h=>Mh h z TI TO .none/\IJ h TI (S.map λu=>.ref u.i)/\(∃as:List Be,as.length=S.length/\IJ h TO as)/\∀u∈S,ItAt u.k h u.i u.l i) where
 mem:=by simp
 obj:=λi h st b a=>by
  obtain⟨L,G,⟨as,U,M⟩,t⟩:=st;simp only[E1,M0]at a;rcases a with rfl|rfl|rfl|⟨u,d,rfl⟩
  .exact⟨_,L,λv e=>by cases e⟩
  .exact⟨_,G,λv e=>by cases e⟩
  .exact⟨_,M,λv e=>by cases e⟩
  .exact(t u d).obj
 keep:=λi h h' st k=>by obtain⟨L,G,⟨as,U,M⟩,t⟩:=st;exact⟨k _ (by simp) _ L,k _ (by simp) _ G,⟨as,U,k _ (by simp) _ M⟩,λu d=>(t u d).at λo e=>k _ (by simp;exact .inr<|.inr<|.inr ⟨u,d,rfl⟩) _ e⟩
 item:=by
  intro X hP hw hK hc i de s σ H E I hf st O;subst hP hw hK;obtain⟨L,G,⟨as,U,M⟩,t⟩:=st;have hS:∀u∈S,∃B,SqAt u.k s.heap u.l B:=λu d=>by obtain⟨ys,x,q,e⟩:=O u d;obtain⟨its,R,p,_⟩:=I.sq q;exact⟨_,p⟩
  refine sW D sf h3 L G M U t hS (λY h' n nx b1 b2 b3 b5 b6 b7=>?_) λ⟨u,d,B,p,e⟩=>?_
  rotate_left
  .obtain⟨ys,x,q,e'⟩:=O u d;obtain⟨its,R,p',_⟩:=I.sq q;obtain⟨w',hw,_⟩:=R.get e';cases p.inj p';have:its[i]?=none:=by simpa using e
   cases this.symm.trans hw
  obtain⟨B,R,lx,hx⟩:=jT I n O nx;have hTn:s.heap.objs.size≠z:=V3<|Q0 L;refine⟨_,rfl,wpAny_letOwnedTupleGo_zip (s:={s with heap:=h'}) b1 λh2 hz2 vm=>?_⟩;have kp:∀b o,b∉z::TI::TO::S.map (·.i)->s.heap.get? b=some o->h2.get? b=some o:=λb o a e=>by simp only[E1,M0,not_or,not_exists,not_and]at a;obtain⟨g1,g2,g3,f⟩:=a;exact vm.extBut _ _ g1<|b7 b o g1 g3 (λu d z=>f u d z.symm) e
  have hTI2:IJ h2 TI (S.map λu=>.ref u.i):=vm.extBut _ _ D.TIz<|b7 TI _ D.TIz (G3 D.TOTI) (λu d=>(D.i u d).2.1.symm) G;have hT2:IJ h2 s.heap.objs.size Y:=vm.extBut _ _ hTn b5;have Z:H s.heap.objs.size=none:=I.hok.fresh<|V0 _;have C:∀b u,H b=some u->b∉z::TI::TO::S.map (·.i):=λb u e a=>by have:=(hf b a).1;rw[e]at this;cases this
  have I2:Inv X de σ (bJ H s.heap.objs.size<|.tup B) {s with heap:=h2}:=by
   refine I.step (g':=s.gens) (d':=s.drawn) (ch:=z::TI::TO::S.map (·.i)) (λb a=>?_) (λb o _ _ y e _=>kp b o y e) (λb o _ _ y e _=>⟨o.slots,kp b o y e⟩) (λb o _ e n=>?_)
    (λb o y e=>⟨o,kp b o y e⟩) (λb B e=>?_) (λb o B e=>?_) (λb ps e=>⟨#[],?_⟩) (λm hm=>?_) (λb o e=>?_) I.bare
   .obtain⟨f0,f1,f2,f3,f4,f5⟩:=hf b a;exact⟨f3,f1,f4,f5⟩
   .rw[pZ<|J1<|Q0 e];exact n
   .rw[pZ<|wZ e Z];exact e
   .rw[pZ<|wZ e Z];exact e
   .rw[pZ<|wZ e Z,e];simp
   .obtain⟨o,lp,ep,ho,r⟩:=hm;exact⟨o,lp,ep,kp _ o (λa=>(hf _ a).2.1 rfl) ho,r⟩
   .by_cases a:b=s.heap.objs.size
    .subst a;rw[HZ]at e;cases e;exact⟨A0 (by rw[lx];exact h3)<|by decide,Y,R,_,hT2,rfl,_,rfl,rfl⟩
    .rw[pZ a]at e;refine(I.hok b o e).stay (λc v y q=>kp c v ?_ q) (λc q=>by rw[pZ<|wZ q Z];exact q) λc B q=>by rw[pZ<|wZ q Z];exact q
     rcases y with rfl|y
     .exact C _ _ e
     .exact C _ _ y
  refine⟨.ref s.heap.objs.size,_,I2,rfl,⟨_,B,Z,rfl,rfl,lx,hx⟩,⟨hz2,hTI2,⟨Y,n,vm.extBut _ _ D.TOz b2⟩,λu d=>(b3 u d).at λo e=>vm.extBut _ _ (D.i u d).1 e⟩,λb a=>?_⟩;rw[pZ ?_]
  .exact(hf b a).1
  .rintro rfl;simp only[E1,M0]at a;rcases a with e|e|e|⟨u,d,e⟩
   .exact hTn e
   .exact V3 (Q0 G) e
   .exact V3 (Q0 M) e
   .obtain⟨o,eo,_⟩:=(t u d).obj;exact V3 (Q0 eo) e.symm
 done:=by
  intro X hP hw hK hc i de s σ H E I hf st O;subst hP hw hK;obtain⟨L,G,⟨as,U,M⟩,t⟩:=st;obtain⟨O,u,d,ys,q,je⟩:=O;have hS:∀u∈S,∃B,SqAt u.k s.heap u.l B:=λu d=>by obtain⟨ys,q⟩:=O u d;obtain⟨its,R,p,_⟩:=I.sq q;exact⟨_,p⟩
  refine sW D sf h3 L G M U t hS (λY h' n nx _ _ _ _ _ _=>?_) λ_=>⟨I.ok.hd hc,λh' kp=>⟨rfl,?_⟩⟩
  .obtain⟨j,hj,ej⟩:=P5 d;obtain⟨B,p,e⟩:=nx (u,Y[j]'(B0 hj<|P0 n.symm)) (by rw[<-ej];exact O6.mpr ⟨j,by simp;exact B0 hj<|u6 (P0 rfl)<|P0 n.symm,by simp⟩);obtain⟨its,R,p',_⟩:=I.sq q;cases p.inj p';have l:=R.length;have:its[i]?=none:=L4.mpr (by lia);have e:its[i]?=some (Y[j]'(B0 hj<|P0 n.symm)):=by simpa using e
   cases this.symm.trans e
  .have C:∀b u,H b=some u->b∉z::TI::TO::S.map (·.i):=λb u e a=>by have:=(hf b a).1;rw[e]at this;cases this
   have F:∀b o,b∉z::TI::TO::S.map (·.i)->s.heap.get? b=some o->h'.get? b=some o:=λb o a e=>by simp only[E1,M0,not_or,not_exists,not_and]at a;obtain⟨g1,g2,g3,f⟩:=a;exact kp b o g1 g3 (λu d z=>f u d z.symm) e
   refine I.step (g':=s.gens) (d':=s.drawn) (ch:=z::TI::TO::S.map (·.i)) (λb a=>?_) (λb o _ _ y e _=>F b o y e) (λb o _ _ y e _=>⟨o.slots,F b o y e⟩) (λb o _ e n=>n)
    (λb o y e=>⟨o,F b o y e⟩) (λb B e=>e) (λb o B e=>e) (λb ps e=>⟨#[],by rw[e];simp⟩) (λm hm=>?_) (λb o e=>?_) I.bare
   .obtain⟨f0,f1,f2,f3,f4,f5⟩:=hf b a;exact⟨f3,f1,f4,f5⟩
   .obtain⟨o,lp,ep,ho,r⟩:=hm;exact⟨o,lp,ep,F _ o (λa=>(hf _ a).2.1 rfl) ho,r⟩
   .refine(I.hok b o e).stay (λc v y q=>F c v ?_ q) (λ_ q=>q) λ_ _ q=>q;rcases y with rfl|y
    .exact C _ _ e
    .exact C _ _ y
 self:=λ_ _ _ _ _ st h=>Oh st.1 h
theorem Turn.mono{K:K0}(t:Turn P w K tg J fp it tn)(g:∀i H,J'.go i H->J.go i H)(y:∀i H x H',J.yld i H x H'->J'.yld i H x H')(d:∀i H,J'.stop i H->J.stop i H):Turn P w K tg J' fp it tn where
 mem:=t.mem
 obj:=t.obj
 keep:=t.keep
 item:=λX a b c e i de s σ H E I f q h=>wpAny_mono (t.item X a b c e i de s σ H E I f q<|g i H h) (λr B ⟨u,j,p⟩=>⟨u,j,wpAny_mono p (λ_ C ⟨x,H',k,l,m,v⟩=>⟨x,H',k,l,y _ _ _ _ m,v⟩) λ_ _ z=>z⟩) λ_ _ z=>z
 done:=λX a b c e i de s σ H E I f q h=>t.done X a b c e i de s σ H E I f q (d i H h)
 self:=t.self
theorem Iv{K:K0}(d:Kd)(e:Kd)(z TI TO i1 i2 l1 l2:Ee)(D:ZAp2 z TI TO i1 i2 l1 l2):Turn P w K (.Tuple es kk pos) (RO K d e l1 l2) [z,TI,TO,i1,i2] z (λi h=>Mh h z TI TO .none/\IJ h TI [.ref i1,.ref i2]/\(∃as:List Be,as.length=2/\IJ h TO as)/\∀u∈[Zk.mk d i1 l1,⟨e,i2,l2⟩],ItAt u.k h u.i u.l i):=
 (NG [⟨d,i1,l1⟩,⟨e,i2,l2⟩] z TI TO D.za (by simp)<|n8 2).mono (λi H h=>by obtain⟨v,q,y,t,j,m,B,C⟩:=h;simp[Ku];exact⟨⟨_,j,_,B⟩,_,m,_,C⟩)
  (λi H x H' h=>by obtain⟨T,F,a,b,c,n,h⟩:=h;obtain⟨q,t,rfl⟩:=OF n;exact⟨T,q,t,a,b,c,h (⟨d,i1,l1⟩,q)<|by simp,h (⟨e,i2,l2⟩,t)<|by simp⟩)
  λi H h=>by obtain⟨v,y,j,m,h⟩:=h;simp[Ku];exact⟨⟨⟨_,j⟩,_,m⟩,h.elim (λh=>.inl ⟨_,j,h⟩) λh=>.inr ⟨_,m,h⟩⟩
noncomputable def SO(K:K0)(k:Kd)(l:Kd)(m:Kd)(l1 l2 q:Ee):It :=
 ⟨λi H=>∃a d b e c j,Sq k K H l1 a/\Sq l K H l2 b/\Sq m K H q c/\a[i]?=some d/\b[i]?=some e/\c[i]?=some j,
  λi H x H'=>∃T d e j,H T=none/\x=.ref T/\H'=bJ H T (.tup [d,e,j])/\(∀ys,Sq k K H l1 ys->ys[i]?=some d)/\(∀ys,Sq l K H l2 ys->ys[i]?=some e)/\(∀ys,Sq m K H q ys->ys[i]?=some j),
  λi H=>∃a b c,Sq k K H l1 a/\Sq l K H l2 b/\Sq m K H q c/\(a.length<=i\/b.length<=i\/c.length<=i)⟩
theorem Jv{K:K0}(e j m:Kd)(z TI TO i1 i2 d l1 l2 q:Ee)(D:ZA [⟨e,i1,l1⟩,⟨j,i2,l2⟩,⟨m,d,q⟩] z TI TO):Turn P w K (.Tuple es kk pos) (SO K e j m l1 l2 q) [z,TI,TO,i1,i2,d] z (λi h=>Mh h z TI TO .none/\IJ h TI [.ref i1,.ref i2,.ref d]/\(∃as:List Be,as.length=3/\IJ h TO as)/\∀u∈[Zk.mk e i1 l1,⟨j,i2,l2⟩,⟨m,d,q⟩],ItAt u.k h u.i u.l i):=
 (NG [⟨e,i1,l1⟩,⟨j,i2,l2⟩,⟨m,d,q⟩] z TI TO D (by simp)<|V0 3).mono (λi H h=>by obtain⟨I,B,L,C,M,F,t,v,y,O,R,U⟩:=h;simp[Ku];exact⟨⟨_,t,_,O⟩,⟨_,v,_,R⟩,_,y,_,U⟩)
  (λi H x H' h=>by
    obtain⟨T,G,a,b,c,n,h⟩:=h;cases G with
    |nil=>cases n
    |cons B G=>obtain⟨C,F,rfl⟩:=OF<|c9 n;exact⟨T,B,C,F,a,b,c,h (⟨e,i1,l1⟩,B)<|by simp,h (⟨j,i2,l2⟩,C)<|by simp,h (⟨m,d,q⟩,F)<|by simp⟩)
  λi H h=>by obtain⟨I,L,M,t,v,y,h⟩:=h;simp[Ku];exact⟨⟨⟨_,t⟩,⟨_,v⟩,_,y⟩,h.elim (λh=>.inl ⟨_,t,h⟩) λh=>.inr<|h.elim (λh=>.inl ⟨_,v,h⟩) λh=>.inr ⟨_,y,h⟩⟩
def vk(K:K0)(d:TA):TI:=λσ H R=>d σ H λe a=>∃(b:Kd) (l1:Ee) (i:List V) (c:Kd) (l2:Ee) (j:List V),e=[.ref l1,.ref l2]/\Sq b K a l1 i/\Sq c K a l2 j/\R (RO K b c l1 l2) a
theorem BI{es:List We}{kk:Nat}{kg:Pos}{a b:We}{B:TA}{p j:Pos}(hg:Gl X "zip")(hm:X.mg "zip"=none)(ha:PA X [a,b] B)(hs:Re [a,b] X.env=(false,Rf a X.env)::Re [b] X.env:=by rfl)(cf:(Wf j<|Re [b] X.env).any (·.1)=false:=by rfl) :
  PI X (.Tuple es kk kg) (.Call (.Name "zip" p) [a,b] [] j) (vk X.K B):=by
 intro de s σ H R I h;refine Call_<|ZK I hg hm boot_zip<|u4 (vJ (ha j de s σ H _ I h) λus c ⟨vs,H1,v,r1,x⟩=>?_) hs cf;obtain⟨d,l1,ef,i,l2,df,e,x,q2,q⟩:=x;subst e;obtain rfl:us=[.ref l1,.ref l2]:=by cases r1 with|cons r y=>cases r;cases y with|cons r y=>cases r;cases y;rfl
 obtain⟨bm,rv1,C,z1⟩:=v.sq x;obtain⟨kf,rv2,G,z2⟩:=v.sq q2;have lt:∀{k:Kd}{l:Ee}{L:Kn Be},SqAt k c.heap l L->l<c.heap.objs.size:=λ{k l L} p=>by
  cases k with
  |l=>obtain⟨o,e,_⟩:=p;exact Q0 e
  |t=>obtain⟨o,e,_⟩:=p;exact Q0 e
 refine Fl F.called_zip (by decide) (F.typeCall_zip_2 _ _) (F.newCall_zip_2 _ _) (λobj=>F.args_object_init_3 obj _ _) F.entry_zip_new (fq d i l1 l2 bm.toArray kf.toArray) ⟨C,G,?_⟩;have M:(Dv c.heap d i l1 l2).objs.size=c.heap.objs.size+2:=by simp[J3]
 have O:(Fv c.heap d i l1 l2).objs.size=c.heap.objs.size+3:=by simp[J3]
 have P:(Gv c.heap d i l1 l2).objs.size=c.heap.objs.size+4:=by simp[J3]
 have w:(HY c.heap d i l1 l2).get? (Gv c.heap d i l1 l2).objs.size=some _:=U0 _ rfl;have U:(HY c.heap d i l1 l2).get? (Fv c.heap d i l1 l2).objs.size=some _:=i0 _<|U0 _ rfl;have Y:(HY c.heap d i l1 l2).get? (Dv c.heap d i l1 l2).objs.size=some _:=i0 _<|i0 _<|U0 _ rfl;have g1:(HY c.heap d i l1 l2).get? c.heap.objs.size=some (ZZ d l1):=i0 _ (i0 _<|i0 _<|i0 _<|U0 _<|by cases d<;>rfl);have g2:(HY c.heap d i l1 l2).get? (c.heap.push<|ZZ d l1).objs.size=some (ZZ i l2):=i0 _ (i0 _<|i0 _<|U0 _<|by cases i<;>rfl);have Z:(c.heap.push<|ZZ d l1).objs.size=c.heap.objs.size+1:=by simp[J3]
 rw[P,O,M]at w;rw[M,Z]at Y;rw[O]at U;rw[Z]at g2;show _/\_;rw[P];have kp:∀b o,c.heap.get? b=some o->(HY c.heap d i l1 l2).get? b=some o:=λb o e=>i0 _<|i0 _<|i0 _<|i0 _<|i0 _<|e;refine⟨⟨_,w,rfl⟩,Oh (s:={c with heap:=HY c.heap d i l1 l2}) w ?_⟩;refine⟨_,[c.heap.objs.size+4,c.heap.objs.size+2,c.heap.objs.size+3,c.heap.objs.size,c.heap.objs.size+1],_,_,H1,rfl,v.kept (t':=c.toks) kp,Iv d i _ _ _ _ _ l1 l2<|eT _ l1 l2 (lt C)<|lt G,⟨w,Y,⟨[.none,.none],rfl,U⟩,by simp;exact⟨ItAt.new d g1,ItAt.new i g2⟩⟩,λb m=>?_,q⟩;have m:c.heap.objs.size<=b:=by
  have m:b=c.heap.objs.size+4\/b=c.heap.objs.size+2\/b=c.heap.objs.size+3\/b=c.heap.objs.size\/b=c.heap.objs.size+1:=by simpa using m
  rcases m with rfl|rfl|rfl|rfl|rfl;all_goals first|exact T1 _ _|exact V0 _
 exact v.fpOk m<|v.hok.fresh m
def xk(K:K0)(i:TA):TI:=λσ H R=>i σ H λj a=>∃(c:Kd) (l1:Ee) (k:List V) (d:Kd) (l2:Ee) (l:List V) (e:Kd) (b:Ee) (m:List V),j=[.ref l1,.ref l2,.ref b]/\Sq c K a l1 k/\Sq d K a l2 l/\Sq e K a b m/\R (SO K c d e l1 l2 b) a
theorem oH(a b c:Be):checkTypeCall "zip" ⟨[a,b,c],[]⟩=pure ():=by kernel_rfl
theorem tG(a b c:Be):checkBuiltinCall "zip.__new__" ⟨[.type "zip",a,b,c],[]⟩=pure ():=by kernel_rfl
theorem KW(a b c d:Be):Hm "object.__init__" ⟨[a,b,c,d],[]⟩:=by unfold Hm;rw[Qi (id:="object.__init__") (n:=['_','_','t','i','n','i','_','_']) (o:=['t','c','e','j','b','o']) (by kernel_rfl) F.owner_object];kernel_rfl
theorem CI{es:List We}{kk:Nat}{kg:Pos}{a b c:We}{O:TA}{p w:Pos}(hg:Gl X "zip")(hm:X.mg "zip"=none)(ha:PA X [a,b,c] O)(hs:Re [a,b,c] X.env=(false,Rf a X.env)::Re [b,c] X.env:=by rfl)(cf:(Wf w<|Re [b,c] X.env).any (·.1)=false:=by rfl) :
  PI X (.Tuple es kk kg) (.Call (.Name "zip" p) [a,b,c] [] w) (xk X.K O):=by
 intro de s σ H R I h;refine Call_<|ZK I hg hm boot_zip<|u4 (vJ (ha w de s σ H _ I h) λus d ⟨vs,H1,x,r1,M⟩=>?_) hs cf;obtain⟨i,l1,ef,j,l2,df,m,v,qo,e,M,q2,q3,q⟩:=M;subst e;obtain rfl:us=[.ref l1,.ref l2,.ref v]:=by cases r1 with|cons r B=>cases r;cases B with|cons r B=>cases r;cases B with|cons r B=>cases r;cases B;rfl
 obtain⟨bm,rv1,P,z1⟩:=x.sq M;obtain⟨kf,rv2,U,z2⟩:=x.sq q2;obtain⟨C,rv3,Y,z3⟩:=x.sq q3;have lt:∀{k:Kd}{l:Ee}{Z:Kn Be},SqAt k d.heap l Z->l<d.heap.objs.size:=λ{k l Z} p=>by
  cases k with
  |l=>obtain⟨o,e,_⟩:=p;exact Q0 e
  |t=>obtain⟨o,e,_⟩:=p;exact Q0 e
 refine Fl F.called_zip (by decide) (oH _ _ _) (tG _ _ _) (λobj=>KW obj _ _ _) F.entry_zip_new (Iu i j m l1 l2 v bm.toArray kf.toArray C.toArray) ⟨P,U,Y,?_⟩;have zI:(xI d.heap i j m l1 l2 v).objs.size=d.heap.objs.size+3:=by simp[J3]
 have zT:(yI d.heap i j m l1 l2 v).objs.size=d.heap.objs.size+4:=by simp[J3]
 have zO:(AI d.heap i j m l1 l2 v).objs.size=d.heap.objs.size+5:=by simp[J3]
 have L:(PF d.heap i j m l1 l2 v).get? (AI d.heap i j m l1 l2 v).objs.size=some _:=U0 _ rfl;have gO:(PF d.heap i j m l1 l2 v).get? (yI d.heap i j m l1 l2 v).objs.size=some _:=i0 _<|U0 _ rfl;have gT:(PF d.heap i j m l1 l2 v).get? (xI d.heap i j m l1 l2 v).objs.size=some _:=i0 _<|i0 _<|U0 _ rfl;have g1:(PF d.heap i j m l1 l2 v).get? d.heap.objs.size=some (ZZ i l1):=i0 _ (i0 _<|i0 _<|i0 _<|i0 _<|U0 _<|by cases i<;>rfl);have g2:(PF d.heap i j m l1 l2 v).get? (d.heap.push<|ZZ i l1).objs.size=some (ZZ j l2):=i0 _ (i0 _<|i0 _<|i0 _<|U0 _<|by cases j<;>rfl);have jr:(d.heap.push<|ZZ i l1).objs.size=d.heap.objs.size+1:=by simp[J3]
 have g3:(PF d.heap i j m l1 l2 v).get? ((d.heap.push<|ZZ i l1).push<|ZZ j l2).objs.size=some (ZZ m v):=i0 _ (i0 _<|i0 _<|U0 _<|by cases m<;>rfl);have G:((d.heap.push<|ZZ i l1).push<|ZZ j l2).objs.size=d.heap.objs.size+2:=by simp[J3]
 rw[zO,zT,zI]at L;rw[zI,jr,G]at gT;rw[zT]at gO;rw[jr]at g2;rw[G]at g3;show _/\_;rw[zO];have kp:∀b o,d.heap.get? b=some o->(PF d.heap i j m l1 l2 v).get? b=some o:=λb o e=>i0 _<|i0 _<|i0 _<|i0 _<|i0 _<|i0 _<|e;refine⟨⟨_,L,rfl⟩,Oh (s:={d with heap:=PF d.heap i j m l1 l2 v}) L ?_⟩;refine⟨_,[d.heap.objs.size+5,d.heap.objs.size+3,d.heap.objs.size+4,d.heap.objs.size,d.heap.objs.size+1,d.heap.objs.size+2],_,_,H1,rfl,x.kept (t':=d.toks) kp,Jv i j m _ _ _ _ _ _ l1 l2 v<|Ea i j m _ l1 l2 v (lt P) (lt U)<|lt Y,⟨L,gT,⟨[.none,.none,.none],rfl,gO⟩,by simp;exact⟨ItAt.new i g1,ItAt.new j g2,ItAt.new m g3⟩⟩,λb y=>?_,q⟩;have y:d.heap.objs.size<=b:=by
  have y:b=d.heap.objs.size+5\/b=d.heap.objs.size+3\/b=d.heap.objs.size+4\/b=d.heap.objs.size\/b=d.heap.objs.size+1\/b=d.heap.objs.size+2:=by simpa using y
  rcases y with rfl|rfl|rfl|rfl|rfl|rfl;all_goals first|exact T1 _ _|exact V0 _
 exact x.fpOk y<|x.hok.fresh y
def yk:V->List V->Hp->VK->Prop:=λx b H Q=>∃(l:Ee) (a:List V) (i:Int) (y:V),x=.ref l/\b=[.int i,y]/\H l=some (.lst a)/\a.length<sizeLine/\0<=i/\i<=a.length/\Q .non (bJ H l<|.lst (a.take i.toNat++y::a.drop i.toNat))
theorem Kv:xS X "list.insert" yk:=by
 intro de s σ H x B v us Q I c d h;obtain⟨l,j,i,y,rfl,rfl,a,C,h0,G,q⟩:=h;cases c;obtain⟨u,b,rfl,k,m⟩:=eY d;obtain⟨t,rfl⟩:=k;obtain⟨z,its,n,r,hl,e⟩:=I.lstM a;have L:j.length<=16777216:=z;have hf:¬(!Builtin.List.listFitsIndex i)=true:=by
  have:nQ i=true:=by unfold nQ;simp only[decide_eq_true_eq,A4];constructor<;>lia
  rw[this];decide
 refine Ng F.slot_list_insert ⟨_,e,rfl⟩ F.entry_list_insert (F.args_list_insert_3 _ _ _) (AutoSeq1.list_insert_list_int_val_1 l its.toArray n i t b hf<|by rw[S0];exact A0 (P0 hl.symm) z) ⟨e,?_⟩;refine⟨.non,_,I.lset (its':=its.take i.toNat++b::its.drop i.toNat) a e ?_ ((r.take _).append<|.cons m<|r.drop _) ?_,rfl,q⟩
 .have hi:¬i<0:=Y7 h0;have w:min i.toNat its.length=i.toNat:=by lia
  simp only[hi,if_false,S0,w];apply Array.ext';simp[O4];rw[V4<|by simp]
 .rw[R0,L1,B5,M5];omega
mutual
inductive Is (K:K0) (H:Hp):V->Oe->Prop
 |non:Is K H .non .none
 |bl (b):Is K H (.bl b) (.bool b)
 |int (i):Is K H (.int i) (.int i)
 |str (x):Is K H (.str x) (.str x)
 |lst {a xs ds}:SqL K H a xs->IsAll K H xs ds->Is K H (.ref a) (.list ds)
 |tup {a xs ds}:SqT K H a xs->IsAll K H xs ds->Is K H (.ref a) (.tuple ds)
inductive IsAll (K:K0) (H:Hp):List V->List Oe->Prop
 |nil:IsAll K H [] []
 |cons {x xs d ds}:Is K H x d->IsAll K H xs ds->IsAll K H (x::xs) (d::ds)
end
theorem Is.reads(I:Inv X de σ H s){x:V}{d:Oe}{u:Be}(h:Is X.K H x d)(r:RelV x u):∃as,Reads s.heap u d as:=by
 refine Is.rec (motive_1:=λx d _=>∀u,RelV x u->∃as,Reads s.heap u d as) (motive_2:=λv w _=>∀us,Vals v us->∃as,ReadsAll s.heap us w as) (λu r=>?_) (λb u r=>?_) (λi u r=>?_) (λx u r=>?_) (λk _ j u r=>?_) (λk _ j u r=>?_) (λus r=>?_) (λ_ _ j y us r=>?_) h u r
 .cases r;exact⟨_,.none⟩
 .cases r;exact⟨_,.bool b⟩
 .obtain⟨t,rfl⟩:=r;exact⟨_,.int i t⟩
 .obtain⟨t,rfl⟩:=r;exact⟨_,.str x t⟩
 .cases r;obtain⟨its,l,⟨o,n,e,c,d,q⟩,z⟩:=I.list k;obtain⟨as,m⟩:=j _ l;exact⟨_,.list e c q<|by simpa using m⟩
 .cases r;obtain⟨its,l,⟨o,e,c,n,q⟩,z⟩:=I.tuple k;obtain⟨as,m⟩:=j _ l;exact⟨_,.tuple e c q<|by simpa using m⟩
 .cases r;exact⟨_,.nil⟩
 .cases r with
  |cons r B=>obtain⟨as,a⟩:=j _ r;obtain⟨bs,b⟩:=y _ B;exact⟨_,.cons a b⟩
open PySem.SeqAt in
def uG(K:K0)(a:Bool):R2:=λx y H Q=>∃d e:Oe,Is K H x d/\Is K H y e/\shaped d=true/\shaped e=true/\noMix d e=true/\Q (.bl<|if a then !same d e else same d e) H
theorem UO(c:X.A.units+64<Mf):OpR X (Ef .Eq) (uG X.K false):=by intro de s σ H x y v u Q I i j h;obtain⟨d,e,i1,i2,k,l,nm,q⟩:=h;obtain⟨as,a⟩:=i1.reads I i;obtain⟨bs,b⟩:=i2.reads I j;exact eq_dataH_same a b k l c nm ⟨.bl _,H,I,rfl,q⟩
theorem VO(c:X.A.units+64<Mf):OpR X (Ef .NotEq) (uG X.K true):=by intro de s σ H x y v u Q I i j h;obtain⟨d,e,i1,i2,k,l,nm,q⟩:=h;obtain⟨as,a⟩:=i1.reads I i;obtain⟨bs,b⟩:=i2.reads I j;exact ne_dataH_same a b k l c nm ⟨.bl _,H,I,rfl,q⟩
structure Cal(P:Cf)(w:Xe)(K:K0)(mg:Str->Jn Be)(base:Gf)(k:Nat)(x:Str)(ps:List Str)(sp:Sp):Prop where
 ex:∃(f:Ee) (fd:Yg),FnOk P w K mg base VJ k f fd ps sp/\mg x=some (.ref f)/\t7 K (.ref f)=true/\Binds K fd ps []
theorem Lu{k:Nat}{x:Str}{d:List Str}{c:Sp}{p a:Pos}{e:We}{b:List We}{t:TA}(C:Cal X.prog X.w X.K X.mg X.base k x d c)(i:Room k X.A)(j:PA X (e::b) t)(l:Gl X x:=by rfl)
  (m:(x==("__debug__":Str))=false:=by decide) (q:Re (e::b) X.env=(false,Rf e X.env)::Re b X.env:=by rfl) (v:(Wf a<|Re b X.env).any (·.1)=false:=by rfl) :
  PE X (.Call (.Name x p) (e::b) [] a) (VU c [] E0 t):=by
 obtain⟨f,fd,F,y,B,G⟩:=C.ex;exact iI F i l y B G .nil aT j m q v
noncomputable def LW(a:Am)(N:List Str)(fr:List Nat)(sc:Am):Bool :=
 decide (sc.kind=.function)&&(sc.names.all λy=>!decide (y.2=.cell)||decide (sc.names.lookup y.1=some .cell))&&(sc.names.all λy=>!decide (y.2=.local)||decide (sc.names.lookup y.1=some .local)) &&
 (sc.names.all λy=>!decide (y.2=.free)||(decide (a.names.lookup y.1=some .cell)||decide (a.names.lookup y.1=some .free))) &&
 (fr.all λi=>match N[i]? with|some x=>decide (sc.names.lookup x=some .free)|none=>false)
theorem OG(h:LW X.env.scope X.N fr sc=true):CompSc X own fr sc:=by
 unfold LW at h;simp only[A4,decide_eq_true_eq,L8,Bool.or_eq_true,Bool.not_eq_true',decide_eq_false_iff_not]at h;obtain⟨⟨⟨⟨a,b⟩,c⟩,d⟩,j⟩:=h;refine⟨a,λy hy e=>?_,λy hy e=>?_,λy hy e=>?_,λi hi=>?_⟩
 .rcases b y hy with z|z
  .exact absurd e z
  .exact z
 .rcases c y hy with z|z
  .exact absurd e z
  .exact z
 .rcases d y hy with z|z
  .exact absurd e z
  .exact z
 .have:=j i hi;cases q:X.N[i]? with
  |none=>rw[q]at this;cases this
  |some x=>rw[q]at this;exact⟨x,rfl,Qe this⟩
def kT(J:It)(own:List Str)(fr:List Nat)(g:TG)(l:TT)(q:TE)(σ:St)(H:Hp)(Q:VK):Prop :=
 ∃W:Nat->Nat->List V->St->Hp->Prop,(∃m,W 0 m [] (MO own σ fr) H)/\∀i m ys d H,W i m ys d H ->
   (J.stop i H/\∀D,H D=none->Q (.ref D) (bJ H D<|.lst ys)) \/
   (J.go i H/\ys.length<sizeLine/\∃N:List V->St->Hp->Prop,(∀e c H',N e c H'->∃j,j<m/\W (i+1) j e c H')/\∀x H',J.yld i H x H'->g x d H' λa t=>l a t λb k=>if b=true then q a k λy v=>N (ys++[y]) a v else N ys a k)
def pH(a:TI)(own:List Str)(fr:List Nat)(g:TG)(b:TT)(c:TE):TE:=λσ H Q=>a σ H λJ d=>kT J own fr g b c σ d Q
theorem Mu{a:Pos}{own:List Str}{b:TI}{g:TG}{c:TT}{d:TE}(e:X.calm=true)(S:CompSc X own fr sc)(hi:PI X tg we b)
  (i:∀C s H ex,PG (CZ X own fr sc C s H ex) tg g) (j:∀C s H ex,Hu (CZ X own fr sc C s H ex) ng c) (k:∀C s H ex,PE (CZ X own fr sc C s H ex) ig d)
  (l:∀x,Ig we X.env x=pure x:=by intro _;rfl):PE X (.ListComp ig [⟨tg,we,ng,0⟩] sc a) (pH b own fr g c d):=wI e S hi i j k l
theorem jq{a c d:Pos}{i:Nat}{y:Str}{own:List Str}{e:TI}{g:TG}{j:TT}{k:TE}(hN:X.N.Nodup)(hy:X.N[i]?=some y)(hl:X.env.scope.names.lookup y=some .local)(l:X.calm=true)(S:CompSc X own fr sc)(hi:PI X tg we e)
  (m:∀C s H ex,PG (CZ X own fr sc C s H ex) tg g) (q:∀C s H ex,Hu (CZ X own fr sc C s H ex) ng j) (t:∀C s H ex,PE (CZ X own fr sc C s H ex) ig k)
  (b:Nh (.ListComp ig [⟨tg,we,ng,0⟩] sc a) (some<|.Name y d) c.line X.env=pure true:=by rfl)
  (v:∀x,Ig we X.env x=pure x:=by intro _;rfl):PS X (.Assign [.Name y d] (.ListComp ig [⟨tg,we,ng,0⟩] sc a) c) (eV (pH e own fr g j k)<|FY i):=oj hN hy hl l S hi m q t b v
section
variable {K:K0}
theorem Nu(h:X.K=K):IxR X (mI K):=by subst h;exact oI
theorem DI(h:X.K=K):IxR X (vv K):=by subst h;exact ij
def mT(K:K0):List V->Hp->VK->Prop:=λa H Q=>∃(p:Ee) (ys:List V),a=[.ref p]/\(SqL K H p ys\/SqT K H p ys)/\Q (.int ys.length) H
theorem Lv(h:X.K=K):YZ X (.builtin "len") (mT K):=by subst h;exact KF
def zk(K:K0):List V->Hp->VK->Prop:=λa H Q=>∃(p:Ee) (ys:List V),a=[.ref p]/\(SqL K H p ys\/SqT K H p ys)/\∀l,H l=none->Q (.ref l) (bJ H l<|.lst ys)
theorem JK(h:X.K=K):YZ X (.type "list") (zk K):=by subst h;exact LF
def kq(K:K0):List V->Hp->VK->Prop:=λa H Q=>∃(p:Ee) (ys:List V),a=[.ref p]/\((SqL K H p ys/\∀l,H l=none->Q (.ref l) (bJ H l<|.tup ys))\/(SqT K H p ys/\Q (.ref p) H))
theorem lq(h:X.K=K):YZ X (.type "tuple") (kq K):=by subst h;exact rG
theorem Mv(h:X.K=K):YZ X (.builtin "isinstance") (Hv K):=by subst h;exact gq
theorem gY(h:X.K=K)(a:X.calm=true):YZ X (.builtin "all") (QO K):=by subst h;exact Ju a
theorem EI(h:X.K=K)(a:X.A.units+64<Mf):OpR X (Ef .Eq) (uG K false):=by subst h;exact UO a
theorem FI(h:X.K=K)(a:X.A.units+64<Mf):OpR X (Ef .NotEq) (uG K true):=by subst h;exact VO a
theorem Ou{e:List We}{kk:Nat}{i:Pos}{a b:We}{d:TA}{p c:Pos}(h:X.K=K)(j:Gl X "zip")(k:X.mg "zip"=none)(l:PA X [a,b] d)(m:Re [a,b] X.env=(false,Rf a X.env)::Re [b] X.env:=by rfl)(q:(Wf c<|Re [b] X.env).any (·.1)=false:=by rfl) :
  PI X (.Tuple e kk i) (.Call (.Name "zip" p) [a,b] [] c) (vk K d):=by subst h;exact BI j k l m q
theorem Pu{i:List We}{kk:Nat}{j:Pos}{a b c:We}{e:TA}{p d:Pos}(h:X.K=K)(k:Gl X "zip")(l:X.mg "zip"=none)(m:PA X [a,b,c] e)(q:Re [a,b,c] X.env=(false,Rf a X.env)::Re [b,c] X.env:=by rfl)(t:(Wf d<|Re [b,c] X.env).any (·.1)=false:=by rfl) :
  PI X (.Tuple i kk j) (.Call (.Name "zip" p) [a,b,c] [] d) (xk K e):=by subst h;exact CI k l m q t
theorem GI{a:List We}{k:Nat}{t:Oy}{b:Pos}(h:X.K=K)(c:X.calm=true)(d:ZE X a t)(e:(Bf a X.env).length=n:=by rfl)(i:(Bf a X.env).findIdx? (·.1)=none:=by rfl):PG X (.Tuple a k b) (cI K n t):=by subst h;exact kO c d e i
end
theorem Qu{a:List Be}(m:Jm s.heap t ([]:List Be).toArray)(q:Jm s.heap b a.toArray)(h:Q (.ref b) s):Ie (Ke prog w) A (Xf .Add (.ref t)<|.ref b) Q E s:=by obtain⟨⟨v,x,c,sl⟩,d,e,n,hd⟩:=id m;obtain⟨⟨i,y,data2,B⟩,j,k,C,l⟩:=id q;simp only at e hd k l;subst e hd k l;exact Om ⟨_,d,rfl⟩ ⟨_,j,rfl⟩ Al Em PySem.F.slot_tuple_add PySem.F.entry_tuple_add (PySem.F.args_tuple_add_2 _ _) (tuple_addW0 t b _ a.toArray n C x y sl B rfl) ⟨d,j,h⟩
theorem slot_rev_next:Slot "reversed" "__next__" "reversed.__next__" :=
 .of (owner:="reversed") (n:="__next__") (by rw[Eg,Lf];kernel_rfl) (by decide +kernel) (by decide +kernel) (by decide +kernel)
  (by first|exact .inl (by decide +kernel)|exact .inr<|by decide +kernel) (by rw[Fi];kernel_rfl)
theorem FW:Slot "reversed" "__iter__" "reversed.__iter__" :=
 .of (owner:="reversed") (n:="__iter__") (by rw[Eg,Lf];kernel_rfl) (by decide +kernel) (by decide +kernel) (by decide +kernel)
  (by first|exact .inl (by decide +kernel)|exact .inr<|by decide +kernel) (by rw[Fi];kernel_rfl)
theorem vG:Slot "reversed" "__init__" "object.__init__" :=
 .of (owner:="object") (n:="__init__") (by rw[Eg,Lf];kernel_rfl) (by decide +kernel) (by decide +kernel) (by decide +kernel)
  (by first|exact .inl (by decide +kernel)|exact .inr<|by decide +kernel) (by rw[Fi];kernel_rfl)
theorem RY:entryFor table "reversed.__next__"=some Builtin.«reversed.__next__»:=entryFor_of_tree (by kernel_rfl)
theorem qH:entryFor table "reversed.__iter__"=some Builtin.«dict_keyiterator.__iter__»:=entryFor_alias (id':="dict_keyiterator.__iter__") (by kernel_rfl) (by first|rfl|decide +kernel|(unfold String.splitOn;simp +decide [String.splitOnAux])) (by decide +kernel) (by kernel_rfl)
theorem QG:Manifest.owners.lookup (String.ofList ['d','e','s','r','e','v','e','r'].reverse)=some Manifest.sig_reversed:=by kernel_rfl
theorem GW(a:Be):Hm "reversed.__next__" ⟨[a],[]⟩:=by unfold Hm;rw[Qi (id:="reversed.__next__") (n:=['_','_','t','x','e','n','_','_']) (o:=['d','e','s','r','e','v','e','r']) (by kernel_rfl) QG];kernel_rfl
theorem wG(a:Be):Hm "reversed.__iter__" ⟨[a],[]⟩:=by unfold Hm;rw[Qi (id:="reversed.__iter__") (n:=['_','_','r','e','t','i','_','_']) (o:=['d','e','s','r','e','v','e','r']) (by kernel_rfl) QG];kernel_rfl
theorem yW(a b:Be):Hm "object.__init__" ⟨[a,b],[]⟩:=by unfold Hm;rw[Qi (id:="object.__init__") (n:=['_','_','t','i','n','i','_','_']) (o:=['t','c','e','j','b','o']) (by kernel_rfl) F.owner_object];kernel_rfl
theorem qj:TypeCalled "reversed" "reversed.__new__" "object.__init__":=⟨by decide +kernel,by decide +kernel,⟨_,_,F.mro_reversed⟩,F.made_reversed,by decide +kernel,F.sub_reversed_self,vG⟩
theorem Nv:Di (.type "tuple") "__reversed__"=pure none:=by rw[Eg,Lf];kernel_rfl
theorem SF(a:Be):Builtin.SmallTypes.newClass "reversed" ⟨[.type "reversed",a],[]⟩=pure (.type "reversed",[a]):=PySem.newClass_reversed a
noncomputable def Ru(l:Ee)(i:Int):Obj:={cls:=.type "reversed",data:=.fields #[.ref l,Zg i]}
theorem HI(l:Ee)(items:Kn Be):Meets (Builtin.«reversed.__new__» ⟨[.type "reversed",.ref l],[]⟩) (λ_ R s=>s.heap.IsTuple l items/\(items.size:Int)<2 ^ 62/\∀c,R (.ok<|.ret<|.ref s.heap.objs.size) {s with heap:=s.heap.push (Ru l<|(items.size:Int)-1),toks:=c}) :=
 .of_wp λprog w A R s h=>by
  obtain⟨b,d,h⟩:=h;unfold Builtin.«reversed.__new__»;refine Ae<|Hh (SF _) ?_;try dsimp only
  refine Ae<|Hh (a:=()) (by first|rfl|kernel_rfl) ?_;refine Ae<|Hh (a:=()) (by first|rfl|kernel_rfl) ?_;try dsimp only
  refine Ae<|Bg b.typeIs Nv ?_;try dsimp only
  refine Ae ?_;show Ie _ _ (isInstance (B2 l) (V8 "dict") >>= _) _ _ _;refine Ae<|Ph b.typeIs PySem.F.sub_tuple_dict ?_;show Ie _ _ (specialOf (B2 l) "__getitem__" >>= _) _ _ _;refine Ae<|Bg b.typeIs PySem.F.slot_tuple_getitem.lookup ?_;refine Fe ?_;show Ie _ _ (call (.builtin "len") [.ref l] >>= _) _ _ _;refine Ae<|PyProof.Rows.len_tuple b (by lia) ?_;refine Ae<|Fe ?_;show Ie _ _ (newObj (.type "reversed") (.fields #[B2 l,Zg<|(items.size:Int)-1]) >>= _) _ _ _;exact Ae<|Kf<|Fe ⟨_,rfl,h _⟩
section
variable {w:Xe}
def IsRevT(h:Gf)(it l:Ee)(i:Int):Prop:=∃o,h.get? it=some o/\o.cls=.type "reversed"/\o.data=.fields #[.ref l,Zg i]
theorem IsRevT.typeIs(x:IsRevT s.heap it l i):s.TypeIs (.ref it) "reversed":=let ⟨o,ho,hc,_⟩:=x;⟨o,ho,hc⟩
theorem IsRevT.at(x:IsRevT h it l i)(e:∀o,h.get? it=some o->h'.get? it=some o):IsRevT h' it l i:=let ⟨o,ho,r⟩:=x;⟨o,e _ ho,r⟩
theorem Su{i:Nat}{Q:Jn Be->Ge->Prop}(hit:IsRevT s.heap it l (i:Int))(hl:s.heap.IsTuple l items)(hx:items[i]?=some x)(hi:(i:Int)<2 ^ 62)(c:∀h' d,IsRevT h' it l ((i:Int)-1)->c6 it s.heap h'->Q (some x) {s with heap:=h',toks:=d}):Ie (Ke prog w) A (Lg<|.ref it) Q E s:=by
 obtain⟨o,b,e,hd⟩:=id hit;unfold Lg;refine Ae<|Ug<|Af (name:=Str.ofString "__next__") hit.typeIs slot_rev_next
   (Jf slot_rev_next hit.typeIs RY ?_<|GW _);unfold Builtin.«reversed.__next__»;refine Ae<|Hh (a:=(B2 it,[])) rfl ?_;try dsimp only
 refine Ae<|Ze b hd (x:=.ref l) rfl ?_;refine Ae<|Ze b hd (x:=Zg (i:Int)) rfl ?_;show Ie _ _ (if (i:Int)<0 then _ else _) _ _ s;rw[Ce<|Y7<|X4 _];show Ie _ _ (specialOf (B2 l) "__getitem__" >>= _) _ _ s;refine Ae<|Bg hl.typeIs PySem.F.slot_tuple_getitem.lookup ?_;show Ie _ _ (mkInt (i:Int) >>= _) _ _ s;refine Ae<|wpAny_mkInt ?_;have k:i<items.size:=by have:=Array.getElem?_eq_some_iff.mp hx;exact this.1
 refine Ae<|Ug<|PyProof.Rows.getItem_tuple (s:={s with toks:=s.toks+1}) hl (by lia) (by lia) (j:=i) (by unfold seqIndex?;simp;lia) hx ?_;show Ie _ _ (Zl (.ref it) 1 >>= _) _ _ _;refine Ae<|Ze (s:={s with toks:=s.toks+1}) b hd (x:=Zg (i:Int)) rfl ?_;show Ie _ _ (setField (.ref it) 1 (Zg<|(i:Int)-1) >>= _) _ _ _;refine Ae<|Kh (s:={s with toks:=s.toks+1}) b hd (by simp)<|Fe ⟨x,rfl,Fe<|c _ _ ?_<|V6 ..⟩;exact⟨_,J4 _ b<|F9<|u7 hd _,(Obj.cls_mapFields ..).trans e,by rw[u7 hd];simp⟩
theorem II{Q:Jn Be->Ge->Prop}(d:A.handled=none)(hit:IsRevT s.heap it l (-1))(j:∀h',V9 it s.heap h'->Q none {s with heap:=h'}):Ie (Ke prog w) A (Lg<|.ref it) Q E s:=by
 obtain⟨o,c,k,hd⟩:=id hit;unfold Lg;refine Ae<|Ug<|Af (name:=Str.ofString "__next__") hit.typeIs slot_rev_next
   (Jf slot_rev_next hit.typeIs RY ?_<|GW _);unfold Builtin.«reversed.__next__»;refine Ae<|Hh (a:=(B2 it,[])) rfl ?_;try dsimp only
 refine Ae<|Ze c hd (x:=.ref l) rfl ?_;refine Ae<|Ze c hd (x:=Zg<|-1) rfl ?_;show Ie _ _ (if (-1:Int)<0 then _ else _) _ _ s;rw[De<|by decide];refine Ae<|Yf ?_;refine Ae ?_;show Ie _ _ (setField (.ref it) 1 (Zg<|-1) >>= λ_=>setField (.ref it) 0 .none) _ _ _;refine Ae<|Kh c hd (by simp) ?_;refine Kh (J4 _ c<|F9<|u7 hd _) (u7 hd _) (by simp) ?_;refine Ae ?_;show Ie _ _ (newExc (.type "StopIteration") [] >>= _) _ _ _;refine Ae ?_;simp only[newExc,newTuple];refine Ae (Kf ?_<|by size_fits);refine Ae (m:=Gi _ _)<|Hh (a:=S7) (by first|rfl|(simp only[Gi];rfl)) ?_;refine Kf ?_ (by size_fits);simp only[raiseNew];refine Ae<|wpAny_handled ?_;first|rw[show A.in1.handled=none from d]|rw[d]
 refine Ae<|Fe<|wpAny_throw ?_;refine Ae<|Ph (T:="StopIteration") (b:=true) ⟨_,U0 _ rfl,rfl⟩ Ql ?_;refine Fe<|j _ ?_;refine aZ (aZ ?_ _) _;exact λb o i e=>(V6 ..).extBut b o i<|(V6 ..).extBut b o i e
theorem mq(hit:IsRevT s.heap it l i)(h:Q (.ref it) s):Ie (Ke prog w) A (pyIter<|.ref it) Q E s:=by refine wpAny_pyIter_slot hit.typeIs FW<|Jf FW hit.typeIs qH ?_<|wG _;show Ie _ _ (ret<|.ref it) _ _ s;exact Fe ⟨_,rfl,"reversed",_,hit.typeIs,slot_rev_next.lookup,h⟩
end
noncomputable def xc(K:K0)(a:Ee)(n:Nat):It:=⟨λi H=>∃b x,SqT K H a b/\b.length=n/\i<n/\b[n-1-i]?=some x,λi H x H'=>H'=H/\∀b,SqT K H a b->b[n-1-i]?=some x,λi H=>i=n⟩
theorem Tu{K:K0}(a it:Ee)(n:Nat)(hn:n<2 ^ 62):Turn P w K tg (xc K a n) [it] it (λi h=>IsRevT h it a<|(n:Int)-1-i) where
 mem:=by simp
 obj:=λi h st b j=>by
  have e:b=it:=by simpa using j
  subst e;obtain⟨o,e,c,d⟩:=st;exact⟨o,e,λv z=>by rw[d]at z;cases z⟩
 keep:=λi h h' st k=>st.at λo e=>k it (by simp) o e
 item:=by
  intro X l hw m G i de s σ H E I hf st q;subst l hw m;obtain⟨xs,x,L,hl,hi,hx⟩:=q;obtain⟨its,R,p,hz⟩:=I.tuple L;obtain⟨u,U,Y⟩:=R.get hx;obtain⟨f0,t,Z,y,B,C⟩:=hf it (by simp);have F:(n:Int)-1-i=((n-1-i:Nat):Int):=by omega
  rw[F]at st;refine Su st (show s.heap.IsTuple a its.toArray from p) (x:=u) (by simpa using U) (by lia) λh' M O sb=>?_;have I1:Inv X de σ H {s with heap:=h',toks:=M}:=I.turned (λb o j e=>(sb.2 b j).trans e) f0 t y B C;obtain⟨o,e,c,d⟩:=id O;refine⟨u,rfl,Wx (s:={s with heap:=h',toks:=M}) e c d (by decide) ⟨x,H,I1,Y,⟨rfl,λys hy=>by rw[I.tuple_inj hy L];exact hx⟩,?_,λb j=>(hf b j).1⟩⟩;have e2:(n:Int)-1-((i+1:Nat):Int)=((n-1-i:Nat):Int)-1:=by lia
  show IsRevT h' it a ((n:Int)-1-((i+1:Nat):Int));rw[e2];exact O
 done:=by
  intro X l hw m G i de s σ H E I hf st q;subst l hw m;obtain⟨f0,t,Z,y,B,C⟩:=hf it (by simp);have F:(n:Int)-1-i=-1:=by have:i=n:=q;lia
  rw[F]at st;exact II (I.ok.hd G) st λh' eb=>⟨rfl,I.turned (t':=s.toks) (λb o j e=>eb b o j e) f0 t y B C⟩
 self:=λ_ _ _ _ _ st h=>mq st h
def WO(K:K0)(d:TA):TI:=λσ H R=>d σ H λe b=>∃(a:Ee) (c:List V),e=[.ref a]/\SqT K b a c/\R (xc K a c.length) b
theorem Uu:Qf "reversed"=some (.type "reversed"):=by decide +kernel
theorem XO{K:K0}{a:We}{m:TA}{p d:Pos}(h:X.K=K)(t:Gl X "reversed")(v:X.mg "reversed"=none)(w:PA X [a] m)(x:Re [a] X.env=[(false,Rf a X.env)]:=by rfl):PI X tg (.Call (.Name "reversed" p) [a] [] d) (WO K m):=by
 subst h;intro de s σ H R I h;refine Call_<|ZK I t v Uu<|u4 (vJ (w d de s σ H _ I h) λus c ⟨Y,y,i,B,C⟩=>?_) x rfl;obtain⟨l,j,e,G,q⟩:=C;subst e;obtain⟨u,rfl,L⟩:=wK B;cases L;obtain⟨its,M,pt,O⟩:=i.tuple G;have Z:=M.length;have k:j.length<=16777216:=O;refine Fl qj (by decide) (F.typeCall_reversed_1 _) (F.newCall_reversed_1 _) (λobj=>yW obj _) F.entry_reversed_new (HI l its.toArray) ⟨pt,by rw[S0];lia,λP=>?_⟩;show _/\_;have gt:(c.heap.push<|Ru l<|(its.toArray.size:Int)-1).get? c.heap.objs.size=some (Ru l<|(its.toArray.size:Int)-1):=U0 _ rfl;have ge:IsRevT (c.heap.push<|Ru l<|(its.toArray.size:Int)-1) c.heap.objs.size l ((j.length:Int)-1-(0:Nat)):=⟨_,gt,rfl,by
   have:(j.length:Int)-1-(0:Nat)=(its.toArray.size:Int)-1:=by rw[S0];lia
   rw[this];rfl⟩;refine⟨⟨_,gt,rfl⟩,mq (s:={c with heap:=c.heap.push (Ru l<|(its.toArray.size:Int)-1),toks:=P}) ge ?_⟩;refine⟨c.heap.objs.size,[c.heap.objs.size],_,_,y,rfl,i.kept λb o e=>i0 _ e,Tu l _ j.length<|W0 k<|K1 _ _,ge,λb U=>?_,q⟩;have e:b=c.heap.objs.size:=by simpa using U
 subst e;exact i.fpOk (V0 _)<|i.hok.fresh<|V0 _
noncomputable abbrev oT(a:Ee):HO:=.ext λh=>∃o b c,h.get? a=some o/\o.ExactDict/\o.data=.dict b c
noncomputable def hL(k:Qn):Int:=reduceHash<|oQ<|k.map hashInt
noncomputable def hB(k:Qn×Qn):Int:=reduceHash<|oQ [hL k.1,hL k.2]
noncomputable abbrev CK{b:Type}(i:b->Int)(a:Ee)(j:Nat)(c:List (b×Ee×V)):HO:=.ext λh=>(∃d:List (b×Ee×Be),Paired (λx v=>x.1=v.1/\x.2.1=v.2.1/\RelV x.2.2 v.2.2) c d /\
  ∃o e,h.get? a=some o/\o.ExactDict/\o.data=.dict e j/\e.toList=d.map λx=>⟨i x.1,.ref x.2.1,x.2.2⟩)/\(c.map (·.1)).Nodup/\c.length<=sizeLine/\(a==Vf)=false
noncomputable abbrev Fa(a C:Ee):HO:=.ext λh=>∃o b,h.get? a=some o/\o.cls=.ref C/\o.data=.fields b
end L2
namespace L3
open L2
noncomputable abbrev D:=Oe
noncomputable abbrev Fg:=K0
def Sub(F H:Hp):Prop:=∀a o,F a=some o->H a=some o
theorem Sub.refl(H:Hp):Sub H H:=λ_ _ h=>h
theorem Sub.trans{A:Hp}(h:Sub A B)(k:Sub B C):Sub A C:=λa o e=>k a o<|h a o e
theorem Sub.new{o:HO}(h:F a=none):Sub F (bJ F a o):=λb u e=>by rw[pZ<|wZ e h];exact e
theorem Sub.rd{F:Hp}{a:Ee}{u:HO}(s:Sub F H):Rd F a u->Rd H a u
 | .inl h=>.inl<|s _ _ h
 | .inr ⟨o,h⟩=>.inr ⟨o,s _ _ h⟩
theorem Sub.sql{K:Fg}{F:Hp}{a:Ee}{b:List V}(s:Sub F H):SqL K F a b->SqL K H a b
 | .inl h=>.inl<|s.rd h
 | .inr h=>.inr h
noncomputable def YV:VZ->D
 | .inl i=>.int i
 | .inr x=>.str x
noncomputable abbrev JJ(ns:Qn):D:=.dict [(.none,.list<|ns.map q0)]
noncomputable abbrev Ga(C:Ee):D:=.dict [(.bool true,.int (C:Nat))]
noncomputable abbrev Ha:D:=.dict [(.bool false,.none)]
noncomputable abbrev rH(a:List (Qn×D)):D:=.dict [(.bool false,.list<|a.map λp=>.tuple [.tuple<|p.1.map q0,p.2])]
noncomputable abbrev Hd(a:List ((Qn×Qn)×D)):D:=.dict [(.bool false,.tuple<|a.map λp=>.tuple [.tuple [.tuple<|p.1.1.map q0,.tuple<|p.1.2.map q0],p.2])]
mutual
inductive Da (K:Fg) (F:Hp):V->D->Prop
 |non:Da K F .non .none
 |bl (b):Da K F (.bl b) (.bool b)
 |int (i):Da K F (.int i) (.int i)
 |str (x):Da K F (.str x) (.str x)
 |lst {a xs ds}:F a=some (.lst xs)->DaAll K F xs ds->Da K F (.ref a) (.list ds)
 |tup {a xs ds}:F a=some (.tup xs)->DaAll K F xs ds->Da K F (.ref a) (.tuple ds)
 |dk {a fe es}:Rd F a (.dK fe)->DaKV K F fe es->Da K F (.ref a) (.dict es)
 |dt {a fe es}:Rd F a (.dT fe)->DaKT K F fe es->Da K F (.ref a) (.dict es)
 |scr {a ns}:SqL K F a (ns.map V.int)->Da K F (.ref a) (JJ ns)
 |exc {a C}:F a=some (Fa a C)->Da K F (.ref a) (Ga C)
 |opq {a}:F a=some (oT a)->Da K F (.ref a) Ha
 |pd {a a' ep xs ps}:F a=some (CK hL a' ep xs)->DaPd K F xs ps->Da K F (.ref a) (rH ps)
 |bd {a ep xs ps}:F a=some (CK hB a ep xs)->DaBd K F xs ps->Da K F (.ref a) (Hd ps)
inductive DaAll (K:Fg) (F:Hp):List V->List D->Prop
 |nil:DaAll K F [] []
 |cons {x xs d ds}:Da K F x d->DaAll K F xs ds->DaAll K F (x::xs) (d::ds)
inductive DaKV (K:Fg) (F:Hp):List (VZ×V)->List (D×D)->Prop
 |nil:DaKV K F [] []
 |cons {k v d fe es}:Da K F v d->DaKV K F fe es->DaKV K F ((k,v)::fe) ((YV k,d)::es)
inductive DaKT (K:Fg) (F:Hp):List (List VZ×V)->List (D×D)->Prop
 |nil:DaKT K F [] []
 |cons {ks v d fe es}:Da K F v d->DaKT K F fe es->DaKT K F ((ks,v)::fe) ((.tuple<|ks.map YV,d)::es)
inductive DaPd (K:Fg) (F:Hp):List (Qn×Ee×V)->List (Qn×D)->Prop
 |nil:DaPd K F [] []
 |cons {k b v d xs ps}:F b=some (.tup<|k.map V.int)->Da K F v d->DaPd K F xs ps->DaPd K F ((k,b,v)::xs) ((k,d)::ps)
inductive DaBd (K:Fg) (F:Hp):List ((Qn×Qn)×Ee×V)->List ((Qn×Qn)×D)->Prop
 |nil:DaBd K F [] []
 |cons {k b c e v d xs ps}:F b=some (.tup [.ref c,.ref e])->F c=some (.tup<|k.1.map V.int)->F e=some (.tup<|k.2.map V.int)->Da K F v d->DaBd K F xs ps->DaBd K F ((k,b,v)::xs) ((k,d)::ps)
end
section
variable {K:Fg}{F F':Hp}
theorem Da.mono(s:Sub F F'){v:V}{d:D}(h:Da K F v d):Da K F' v d:=by refine Da.rec (motive_1:=λv d _=>Da K F' v d) (motive_2:=λv d _=>DaAll K F' v d) (motive_3:=λv d _=>DaKV K F' v d) (motive_4:=λv d _=>DaKT K F' v d) (motive_5:=λv d _=>DaPd K F' v d) (motive_6:=λv d _=>DaBd K F' v d) .non .bl .int .str (λh _=>.lst<|s _ _ h) (λh _=>.tup<|s _ _ h) (λh _=>.dk<|s.rd h) (λh _=>.dt<|s.rd h) (λh=>.scr<|s.sql h) (λh=>.exc<|s _ _ h) (λh=>.opq<|s _ _ h) (λh _=>.pd<|s _ _ h) (λh _=>.bd<|s _ _ h) .nil (λ_ _=>.cons) .nil (λ_ _=>.cons) .nil (λ_ _=>.cons) .nil (λh _ _=>.cons<|s _ _ h) .nil (λh a b _ _=>.cons (s _ _ h) (s _ _ a)<|s _ _ b) h
theorem DaAll.mono(s:Sub F F'){xs:List V}{ps:List D}(h:DaAll K F xs ps):DaAll K F' xs ps:=by refine DaAll.rec (motive_1:=λ_ _ _=>True) (motive_2:=λv d _=>DaAll K F' v d) (motive_3:=λ_ _ _=>True) (motive_4:=λ_ _ _=>True) (motive_5:=λ_ _ _=>True) (motive_6:=λ_ _ _=>True) ?_ ?_ ?_ ?_ ?_ ?_ ?_ ?_ ?_ ?_ ?_ ?_ ?_ .nil (λh _ _=>.cons<|h.mono s) ?_ ?_ ?_ ?_ ?_ ?_ ?_ ?_ h<;>intros<;>trivial
theorem DaKV.mono(s:Sub F F'){xs:List (VZ×V)}{ps:List (D×D)}(h:DaKV K F xs ps):DaKV K F' xs ps:=by refine DaKV.rec (motive_1:=λ_ _ _=>True) (motive_2:=λ_ _ _=>True) (motive_3:=λv d _=>DaKV K F' v d) (motive_4:=λ_ _ _=>True) (motive_5:=λ_ _ _=>True) (motive_6:=λ_ _ _=>True) ?_ ?_ ?_ ?_ ?_ ?_ ?_ ?_ ?_ ?_ ?_ ?_ ?_ ?_ ?_ .nil (λh _ _=>.cons<|h.mono s) ?_ ?_ ?_ ?_ ?_ ?_ h<;>intros<;>trivial
theorem DaKT.mono(s:Sub F F'){xs:List (List VZ×V)}{ps:List (D×D)}(h:DaKT K F xs ps):DaKT K F' xs ps:=by refine DaKT.rec (motive_1:=λ_ _ _=>True) (motive_2:=λ_ _ _=>True) (motive_3:=λ_ _ _=>True) (motive_4:=λv d _=>DaKT K F' v d) (motive_5:=λ_ _ _=>True) (motive_6:=λ_ _ _=>True) ?_ ?_ ?_ ?_ ?_ ?_ ?_ ?_ ?_ ?_ ?_ ?_ ?_ ?_ ?_ ?_ ?_ .nil (λh _ _=>.cons<|h.mono s) ?_ ?_ ?_ ?_ h<;>intros<;>trivial
theorem DaPd.mono(s:Sub F F'){xs:List (Qn×Ee×V)}{ps:List (Qn×D)}(h:DaPd K F xs ps):DaPd K F' xs ps:=by refine DaPd.rec (motive_1:=λ_ _ _=>True) (motive_2:=λ_ _ _=>True) (motive_3:=λ_ _ _=>True) (motive_4:=λ_ _ _=>True) (motive_5:=λv d _=>DaPd K F' v d) (motive_6:=λ_ _ _=>True) ?_ ?_ ?_ ?_ ?_ ?_ ?_ ?_ ?_ ?_ ?_ ?_ ?_ ?_ ?_ ?_ ?_ ?_ ?_ .nil (λh v _ _=>.cons (s _ _ h)<|v.mono s) ?_ ?_ h<;>intros<;>trivial
@[elab_as_elim] theorem DaAll.ind {M:∀xs ds,DaAll K F xs ds->Prop} (h0:M [] [] .nil) (h1:∀{v d xs ds} (h:Da K F v d) (r:DaAll K F xs ds),M xs ds r->M (v::xs) (d::ds) (.cons h r)) {xs:List V}{ds:List D} (h:DaAll K F xs ds):M xs ds h:=by refine DaAll.rec (motive_1:=λ_ _ _=>True) (motive_2:=λv d h=>M v d h) (motive_3:=λ_ _ _=>True) (motive_4:=λ_ _ _=>True) (motive_5:=λ_ _ _=>True) (motive_6:=λ_ _ _=>True) ?_ ?_ ?_ ?_ ?_ ?_ ?_ ?_ ?_ ?_ ?_ ?_ ?_ h0 (λh r _ i=>h1 h r i) ?_ ?_ ?_ ?_ ?_ ?_ ?_ ?_ h<;>intros<;>trivial
theorem DaAll.length(h:DaAll K F xs ds):xs.length=ds.length:=by
 induction h using DaAll.ind with
 |h0=>rfl
 |h1 _ _ i=>rw[L1,L1,i]
theorem DaAll.get{i:Nat}(h:DaAll K F xs ds):ds[i]?=some d->∃v,xs[i]?=some v/\Da K F v d:=by
 induction h using DaAll.ind generalizing i with
 |h0=>intro e;cases e
 |h1 h _ a =>
  cases i with
  |zero=>intro e;cases e;exact⟨_,rfl,h⟩
  |succ i=>exact a
theorem DaAll.append(h:DaAll K F xs ds)(s:DaAll K F ys es):DaAll K F (xs++ys) (ds++es):=h.ind s λh _ i=>.cons h i
theorem DaAll.set(h:Da K F v d){a:List V}{b:List D}(i:Nat)(t:DaAll K F a b):DaAll K F (a.set i v) (b.set i d):=by
 induction t using DaAll.ind generalizing i with
 |h0=>exact .nil
 |h1 q t c=>cases i with|zero=>exact .cons h t|succ i=>exact .cons q<|c i
theorem DaAll.take(n:Nat)(t:DaAll K F xs ds):DaAll K F (xs.take n) (ds.take n):=by
 induction t using DaAll.ind generalizing n with
 |h0=>cases n<;>exact .nil
 |h1 q _ a=>cases n with|zero=>exact .nil|succ n=>exact .cons q<|a n
theorem DaAll.drop(n:Nat)(t:DaAll K F xs ds):DaAll K F (xs.drop n) (ds.drop n):=by
 induction t using DaAll.ind generalizing n with
 |h0=>cases n<;>exact .nil
 |h1 q t a=>cases n with|zero=>exact .cons q t|succ n=>exact a n
theorem DaAll.dropLast(t:DaAll K F xs ds):DaAll K F xs.dropLast ds.dropLast:=by rw[mX,mX,t.length];exact t.take _
theorem DaAll.rep{a:List V}{b:List D}(h:DaAll K F a b):∀k:Nat,DaAll K F (B1 k a).flatten (B1 k b).flatten
 |0=>.nil
 |k+1=>by rw[U3,U3,i6,i6];exact h.append<|DaAll.rep h k
theorem DaAll.ints:∀ns:Qn,DaAll K F (ns.map V.int) (ns.map q0)
 |[]=>.nil
 |n::ns=>.cons (.int n)<|DaAll.ints ns
end
inductive Sl where
 |fz (d:D)|ow (d:D)|io (d:D)
noncomputable def Sl.d:Sl->D
 | .fz d=>d
 | .ow d=>d
 | .io d=>d
noncomputable def WZ:Sl->Bool
 | .fz _=>false
 | .ow _=>true
 | .io _=>true
noncomputable abbrev Ev:=List<|Jn Sl
noncomputable def Own1(K:Fg)(F:Hp):HO->D->Prop
 | .lst a,.list e=>DaAll K F a e
 | .dK b,.dict c=>DaKV K F b c
 | .dT b,.dict c=>DaKT K F b c
 | .ext i,.dict [(.bool false,.list L)]=>∃(j:Ee) (k:Nat) (a:List (Qn×Ee×V)) (d:List (Qn×D)),HO.ext i=CK hL j k a/\L=d.map (λp=>.tuple [.tuple<|p.1.map q0,p.2])/\DaPd K F a d
 |_,_=>Ln
section
variable {K:Fg}{F F':Hp}{o:HO}{d:D}{a:Ee}
theorem Own1.ext(h:Own1 K F (.ext φ) d):∃(i:Ee) (j:Nat) (b:List (Qn×Ee×V)) (c:List (Qn×D)),HO.ext φ=CK hL i j b/\d=rH c/\DaPd K F b c:=by
 unfold Own1 at h;split at h
 .rename_i z;cases z
 .rename_i z;cases z
 .rename_i z;cases z
 .rename_i z;obtain⟨i,j,b,c,e,rfl,t⟩:=h;exact⟨i,j,b,c,z.trans e,rfl,t⟩
 .exact h.elim
theorem Own1.pd(h:DaPd K F xs ps):Own1 K F (CK hL a' ep xs) (rH ps):=⟨a',ep,xs,ps,rfl,rfl,h⟩
theorem Own1.mono(s:Sub F F')(h:Own1 K F o d):Own1 K F' o d:=by
 cases o with
 |ext i=>obtain⟨b,c,xs,ps,e,rfl,t⟩:=h.ext;exact⟨b,c,xs,ps,e,rfl,t.mono s⟩
 |_=>cases d<;>first|exact DaAll.mono s h|exact DaKV.mono s h|exact DaKT.mono s h|exact h.elim
theorem Own1.da(h:Own1 K F o d)(e:F a=some o):Da K F (.ref a) d:=by
 cases o with
 |ext b=>obtain⟨c,i,xs,ps,z,rfl,t⟩:=h.ext;rw[z]at e;exact .pd e t
 |_=>cases d<;>first|exact .lst e h|exact .dk (.inl e) h|exact .dt (.inl e) h|exact h.elim
end
structure Gh where
 H0:Hp
 F0:Hp
 io:Nat->Jn Ee
structure Rel(K:Fg)(G:Gh)(F:Hp)(σ:L2.St)(H:Hp)(ρ:Ev):Prop where
 len:σ.length=ρ.length
 sub:Sub F H
 sub0:Sub G.F0 F
 fn:∀a o,F a=some o->G.F0 a=some o\/G.H0 a=none
 keep:∀a o,G.H0 a=some o->(∀i,G.io i≠some a)->H a=some o
 fz:∀(i:Nat) (d:D),ρ[i]?=some (some<|Sl.fz d)->∃v,σ[i]?=some (some v)/\Da K F v d
 ow:∀(i:Nat) (s:Sl),ρ[i]?=some (some s)->WZ s=true->∃a o,σ[i]?=some (some<|V.ref a)/\F a=none/\H a=some o/\Own1 K F o s.d
 new:∀(i:Nat) (d:D) (a:Ee),ρ[i]?=some (some<|Sl.ow d)->σ[i]?=some (some<|V.ref a)->G.H0 a=none
 io:∀(i:Nat) (a:Ee),G.io i=some a->∃d,ρ[i]?=some (some<|Sl.io d)/\σ[i]?=some (some<|V.ref a)
 ioi:∀(i:Nat) (d:D),ρ[i]?=some (some<|Sl.io d)->∃a,G.io i=some a
 ap:∀(i j:Nat) (s t:Sl) (a:Ee),ρ[i]?=some (some s)->WZ s=true->ρ[j]?=some (some t)->WZ t=true->σ[i]?=some (some<|V.ref a)->σ[j]?=some (some<|V.ref a)->i=j
noncomputable def Res(K:Fg)(G:Gh)(F H:Hp)(σ:L2.St)(b:Ev)(v:V):Sl->Prop
 | .fz d=>Da K F v d
 | .ow d=>∃a o,v=.ref a/\F a=none/\H a=some o/\Own1 K F o d/\G.H0 a=none/\∀(i:Nat) (s:Sl),b[i]?=some (some s)->WZ s=true->σ[i]?≠some (some<|V.ref a)
 | .io _=>Ln
section
variable {K:Fg}{G:Gh}{F F':Hp}{σ:L2.St}{ρ:Ev}{a:Ee}{o:HO}{d:D}{v:V}{s:Sl}
theorem Rel.bound(R:Rel K G F σ H ρ){i:Nat}(h:ρ[i]?=some (some s)):∃v,σ[i]?=some (some v):=by
 cases s with
 |fz d=>obtain⟨v,e,_⟩:=R.fz i d h;exact⟨v,e⟩
 |ow d=>obtain⟨a,o,e,_⟩:=R.ow i _ h rfl;exact⟨_,e⟩
 |io d=>obtain⟨a,o,e,_⟩:=R.ow i _ h rfl;exact⟨_,e⟩
theorem Rel.h0(R:Rel K G F σ H ρ)(h:H a=none):G.H0 a=none:=by
 cases e:G.H0 a with
 |none=>rfl
 |some o =>
  by_cases q:∃i,G.io i=some a
  .obtain⟨i,q⟩:=q;obtain⟨d,j,k⟩:=R.io i a q;obtain⟨l,m,b,_,c,_⟩:=R.ow i _ j rfl;rw[k]at b;cases b;rw[h]at c;cases c
  .have:=R.keep a o e λi z=>q ⟨i,z⟩;rw[h]at this;cases this
theorem Rel.f0(R:Rel K G F σ H ρ)(h:H a=none):F a=none:=by
 cases e:F a with
 |none=>rfl
 |some o=>rw[R.sub a o e]at h;cases h
theorem Rel.laid(R:Rel K G F σ H ρ)(h:H a=none):Rel K G F σ (bJ H a o) ρ where
 len:=R.len
 sub:=λb u e=>by rw[pZ<|wZ (R.sub b u e) h];exact R.sub b u e
 sub0:=R.sub0
 fn:=R.fn
 keep:=λb u e n=>by rw[pZ<|wZ (R.keep b u e n) h];exact R.keep b u e n
 fz:=R.fz
 ow:=λi s e w=>by obtain⟨j,k,l,m,c,q⟩:=R.ow i s e w;exact⟨j,k,l,m,by rw[pZ<|wZ c h];exact c,q⟩
 new:=R.new
 io:=R.io
 ioi:=R.ioi
 ap:=R.ap
theorem Rel.grow(R:Rel K G F σ H ρ)(h0:G.H0 a=none)(h:H a=some o)(m:∀(i:Nat) (s:Sl),ρ[i]?=some (some s)->WZ s=true->σ[i]?≠some (some<|V.ref a)):Sub F (bJ F a o)/\Rel K G (bJ F a o) σ H ρ:=by
 have c:Sub F (bJ F a o):=λb u e=>by
  by_cases z:b=a
  .subst z;rw[HZ,<-h];exact R.sub _ _ e
  .rw[pZ z];exact e
 refine⟨c,R.len,λb u e=>?_,R.sub0.trans c,λb u e=>?_,R.keep,λi d e=>?_,λi s e w=>?_,R.new,R.io,R.ioi,R.ap⟩
 .by_cases z:b=a
  .subst z;rw[HZ]at e;rw[h];exact e
  .rw[pZ z]at e;exact R.sub _ _ e
 .by_cases z:b=a
  .subst z;exact .inr h0
  .rw[pZ z]at e;exact R.fn _ _ e
 .obtain⟨v,j,k⟩:=R.fz i d e;exact⟨v,j,k.mono c⟩
 .obtain⟨l,q,j,k,t,x⟩:=R.ow i s e w;have z:l≠a:=λz=>m i s e w (by rw[j,z]);exact⟨l,q,j,by rw[pZ z];exact k,t,x.mono c⟩
theorem Res.frz(R:Rel K G F σ H ρ)(r:Res K G F H σ ρ v s):∃F',Sub F F'/\Rel K G F' σ H ρ/\Da K F' v s.d:=by
 cases s with
 |fz d=>exact⟨F,Sub.refl _,R,r⟩
 |ow d=>obtain⟨a,o,rfl,l,c,e,i,j⟩:=r;obtain⟨b,k⟩:=R.grow i c j;exact⟨_,b,k,(e.mono b).da HZ⟩
 |io d=>exact r.elim
theorem Rel.newOw(R:Rel K G F σ H ρ)(h:H a=none)(w:Own1 K F o d):Rel K G F σ (bJ H a o) ρ/\Res K G F (bJ H a o) σ ρ (.ref a) (.ow d):=by refine⟨R.laid h,a,o,rfl,R.f0 h,HZ,w,R.h0 h,λi s e w z=>?_⟩;obtain⟨j,k,b,l,c,m⟩:=R.ow i s e w;rw[z]at b;cases b;rw[h]at c;cases c
theorem Rel.newTup(R:Rel K G F σ H ρ){xs:List V}{ds:List D}(h:H a=none)(w:DaAll K F xs ds):Sub F (bJ F a<|.tup xs)/\Rel K G (bJ F a<|.tup xs) σ (bJ H a<|.tup xs) ρ/\Da K (bJ F a<|.tup xs) (.ref a) (.tuple ds):=by
 have c:Rel K G F σ (bJ H a<|.tup xs) ρ:=R.laid h;obtain⟨b,R2⟩:=c.grow (a:=a) (o:=.tup xs) (R.h0 h) HZ λi s e w z=>by obtain⟨a',o',h1,h2,h3,h4⟩:=R.ow i s e w;rw[z]at h1;cases h1;rw[h]at h3;cases h3
 exact⟨b,R2,.tup HZ<|w.mono b⟩
noncomputable def Sl.put:Sl->D->Sl
 | .fz _,d=>.fz d
 | .ow _,d=>.ow d
 | .io _,d=>.io d
theorem sZ{l:List α}{x y:α}(h:(l.set i x)[j]?=some y):(j=i/\y=x)\/(j≠i/\l[j]?=some y):=by
 by_cases z:i=j
 .subst z;rw[List.getElem?_set]at h;simp at h;exact .inl ⟨rfl,h.2.symm⟩
 .rw[P1 z]at h;exact .inr ⟨λq=>z q.symm,h⟩
theorem UK{l:List α}{x:α}(h:i<l.length):(l.set i x)[i]?=some x:=by simp[h]
theorem wJ{l:List α}{x:α}(h:l[i]?=some x):i<l.length:=(Y1.mp h).1
theorem Rel.change(R:Rel K G F σ H ρ){i:Nat}{o':HO}{d':D}(h:ρ[i]?=some (some s))(w:WZ s=true)(l:σ[i]?=some (some<|V.ref a))(q:Own1 K F o' d'):Rel K G F σ (bJ H a o') (ρ.set i<|some<|s.put d'):=by
 obtain⟨a0,o0,O,P,h3,h4⟩:=R.ow i s h w;rw[l]at O;cases O;have sw:WZ (s.put d')=true:=by cases s<;>first|rfl|cases w
 have hl:=wJ h;refine⟨by rw[A6];exact R.len,λb u e=>?_,R.sub0,R.fn,λb u e n=>?_,λj d e=>?_,λj t e y=>?_,λj d b e U=>?_,λj b e=>?_,λj d e=>?_,λj k t u b m w1 c w2 e3 e4=>?_⟩
 .have z:b≠a:=λz=>by subst z;rw[P]at e;cases e
  rw[pZ z];exact R.sub _ _ e
 .by_cases z:b=a
  .subst z;cases s with
   |fz d=>cases w
   |ow d=>rw[R.new i d b h l]at e;cases e
   |io d=>obtain⟨a',Y⟩:=R.ioi i d h;obtain⟨d',_,c⟩:=R.io i a' Y;rw[l]at c;cases c;exact absurd Y<|n i
  .rw[pZ z];exact R.keep _ _ e n
 .rcases sZ e with⟨rfl,z⟩|⟨n,z⟩
  .cases s<;>simp[Sl.put,WZ]at z w
  .exact R.fz j d z
 .rcases sZ e with⟨rfl,z⟩|⟨n,z⟩
  .cases z;exact⟨a,o',l,P,HZ,by cases s<;>first|exact q|cases w⟩
  .obtain⟨b,u,Z,g2,g3,g4⟩:=R.ow j t z y;have nb:b≠a:=λx=>n<|R.ap j i t s a z y h w (by rw[Z,x]) l;exact⟨b,u,Z,g2,by rw[pZ nb];exact g3,g4⟩
 .rcases sZ e with⟨rfl,z⟩|⟨n,z⟩
  .cases s with
   |fz d=>cases w
   |ow B=>exact R.new j B b h U
   |io d=>cases z
  .exact R.new j d b z U
 .obtain⟨d,m,c⟩:=R.io j b e;by_cases z:j=i
  .subst z;rw[h]at m;cases m;exact⟨d',by rw[UK hl];rfl,c⟩
  .exact⟨d,by rw[P1<|G3 z];exact m,c⟩
 .rcases sZ e with⟨rfl,z⟩|⟨n,z⟩
  .cases s with
   |fz d=>cases w
   |ow B=>cases z
   |io B=>exact R.ioi j B h
  .exact R.ioi j d z
 .have f:∀(j:Nat) (t:Sl),(ρ.set i<|some<|s.put d')[j]?=some (some t)->WZ t=true->∃t',ρ[j]?=some (some t')/\WZ t'=true:=λj t e y=>by
   rcases sZ e with⟨rfl,z⟩|⟨n,z⟩
   .exact⟨s,h,w⟩
   .exact⟨t,z,y⟩
  obtain⟨t',C,I⟩:=f j t m w1;obtain⟨u',L,M⟩:=f k u c w2;exact R.ap j k t' u' b C I L M e3 e4
theorem Rel.forget(R:Rel K G F σ H ρ){i:Nat}(h:ρ[i]?=some (some<|Sl.ow d)):Rel K G F σ H (ρ.set i none):=by
 refine⟨by rw[A6];exact R.len,R.sub,R.sub0,R.fn,R.keep,λj d e=>?_,λj t e q=>?_,λj d b e w=>?_,λj b e=>?_,λj d e=>?_,λj k t u b c x l y B C=>?_⟩
 .rcases sZ e with⟨rfl,z⟩|⟨n,z⟩
  .cases z
  .exact R.fz j d z
 .rcases sZ e with⟨rfl,z⟩|⟨n,z⟩
  .cases z
  .exact R.ow j t z q
 .rcases sZ e with⟨rfl,z⟩|⟨n,z⟩
  .cases z
  .exact R.new j d b z w
 .obtain⟨I,c,l⟩:=R.io j b e;have n:i≠j:=λz=>by subst z;rw[h]at c;cases c
  exact⟨I,by rw[P1 n];exact c,l⟩
 .rcases sZ e with⟨rfl,z⟩|⟨n,z⟩
  .cases z
  .exact R.ioi j d z
 .rcases sZ c with⟨rfl,z⟩|⟨n,z⟩
  .cases z
  .rcases sZ l with⟨rfl,m⟩|⟨L,m⟩
   .cases m
   .exact R.ap j k t u b z x m y B C
theorem Rel.freeze(R:Rel K G F σ H ρ){i:Nat}(h:ρ[i]?=some (some<|Sl.ow d)):∃F' v,Sub F F'/\Rel K G F' σ H (ρ.set i<|some<|Sl.fz d)/\σ[i]?=some (some v)/\Da K F' v d:=by
 obtain⟨a,o,l,h2,O,P⟩:=R.ow i _ h rfl;have hl:=wJ h;have U:=R.forget h;have Y:∀(j:Nat) (s:Sl),(ρ.set i none)[j]?=some (some s)->WZ s=true->σ[j]?≠some (some<|V.ref a):=λj s e w z=>by
  rcases sZ e with⟨rfl,q⟩|⟨n,q⟩
  .cases q
  .exact n (R.ap j i s _ a q w h rfl z l)
 obtain⟨B,R2⟩:=U.grow (R.new i d a h l) O Y;have C:Da K (bJ F a o) (.ref a) d:=(P.mono B).da HZ;refine⟨_,_,B,?_,l,C⟩;refine⟨by rw[A6];exact R.len,R2.sub,R2.sub0,R2.fn,R2.keep,λj m e=>?_,λj t e I=>?_,λj d b e Z=>?_,λj b e=>?_,λj d e=>?_,λj k t u b c L x M e3 e4=>?_⟩
 .rcases sZ e with⟨rfl,z⟩|⟨n,z⟩
  .cases z;exact⟨_,l,C⟩
  .exact R2.fz j m (by rw[P1<|G3 n];exact z)
 .rcases sZ e with⟨rfl,z⟩|⟨n,z⟩
  .cases z;cases I
  .exact R2.ow j t (by rw[P1<|G3 n];exact z) I
 .rcases sZ e with⟨rfl,z⟩|⟨n,z⟩
  .cases z
  .exact R.new j d b z Z
 .obtain⟨m,c,x⟩:=R.io j b e;have n:i≠j:=λz=>by subst z;rw[h]at c;cases c
  exact⟨m,by rw[P1 n];exact c,x⟩
 .rcases sZ e with⟨rfl,z⟩|⟨n,z⟩
  .cases z
  .exact R.ioi j d z
 .rcases sZ c with⟨rfl,z⟩|⟨n,z⟩
  .cases z;cases L
  .rcases sZ x with⟨rfl,y⟩|⟨n',y⟩
   .cases y;cases M
   .exact R.ap j k t u b z L y M e3 e4
theorem Rel.forgetRes(R:Rel K G F σ H ρ){i:Nat}(h:ρ[i]?=some (some<|Sl.ow d)):∃v,σ[i]?=some (some v)/\Res K G F H σ (ρ.set i none) v (.ow d):=by
 obtain⟨a,o,b,c,k,l⟩:=R.ow i _ h rfl;refine⟨_,b,a,o,rfl,c,k,l,R.new i d a h b,λj s e w z=>?_⟩;rcases sZ e with⟨rfl,q⟩|⟨n,q⟩
 .cases q
 .exact n (R.ap j i s _ a q w h rfl z b)
def ZV(ρ:Ev)(i:Nat):Prop:=match ρ[i]? with
 |some (some<|Sl.io _)=>Ln
 |some _=>True
 |none=>Ln
theorem Rel.asg(R:Rel K G F σ H ρ){i:Nat}(hi:ZV ρ i)(r:Res K G F H σ ρ v s):Rel K G F (σ.set i<|some v) H (ρ.set i<|some s):=by
 have hl:i<ρ.length:=by
  cases e:ρ[i]? with
  |none=>unfold ZV at hi;rw[e]at hi;exact hi.elim
  |some x=>exact wJ e
 have m:i<σ.length:=by rw[R.len];exact hl
 have ni:∀d,ρ[i]?≠some (some<|Sl.io d):=λd e=>by unfold ZV at hi;rw[e]at hi;exact hi
 refine⟨by rw[A6,A6];exact R.len,R.sub,R.sub0,R.fn,R.keep,λj d e=>?_,λj t e Y=>?_,λj d b e c=>?_,λj b e=>?_,λj d e=>?_,λj k t u b B I C L q y=>?_⟩
 .rcases sZ e with⟨rfl,z⟩|⟨n,z⟩
  .cases z;exact⟨v,UK m,r⟩
  .rw[P1<|G3 n];exact R.fz j d z
 .rcases sZ e with⟨rfl,z⟩|⟨n,z⟩
  .cases z;cases s with
   |fz d=>cases Y
   |ow d=>obtain⟨a,o,rfl,M,O,P,_⟩:=r;exact⟨a,o,UK m,M,O,P⟩
   |io d=>exact r.elim
  .rw[P1<|G3 n];exact R.ow j t z Y
 .rcases sZ e with⟨rfl,z⟩|⟨n,z⟩
  .cases z;obtain⟨a,o,rfl,M,O,P,Z,_⟩:=r;rw[UK m]at c;cases c;exact Z
  .rw[P1<|G3 n]at c;exact R.new j d b z c
 .obtain⟨d,B,C⟩:=R.io j b e;have n:i≠j:=λz=>by subst z;exact ni d B
  exact⟨d,by rw[P1 n];exact B,by rw[P1 n];exact C⟩
 .rcases sZ e with⟨rfl,z⟩|⟨n,z⟩
  .cases z;exact r.elim
  .exact R.ioi j d z
 .have own:∀(j:Nat) (t:Sl),j≠i->ρ[j]?=some (some t)->WZ t=true->(σ.set i<|some v)[j]?=some (some<|V.ref b)->s.d=s.d->WZ s=true->v=.ref b->Ln:=λj t n e w c _ ws ev=>by
   subst ev;cases s with
   |fz d=>cases ws
   |io d=>exact r
   |ow d=>obtain⟨a,o,z,M,O,P,Z,h5⟩:=r;cases z;rw[P1<|G3 n]at c;exact h5 j t e w c
  rcases sZ B with⟨rfl,z⟩|⟨n,z⟩
  .rcases sZ C with⟨rfl,l⟩|⟨U,l⟩
   .rfl
   .rw[UK m]at q;cases q;cases z;exact(own k u U l L y rfl I rfl).elim
  .rcases sZ C with⟨rfl,l⟩|⟨U,l⟩
   .rw[UK m]at y;cases y;cases l;exact(own j t n z I q rfl L rfl).elim
   .rw[P1<|G3 n]at q;rw[P1<|G3 U]at y;exact R.ap j k t u b z I l L q y
end
noncomputable abbrev TD:=Ev->(Sl->Ev->Prop)->Prop
noncomputable abbrev MW:=Ev->(Bool->Ev->Prop)->Prop
noncomputable abbrev TF:=Sum Nat D
noncomputable abbrev AD:=Sum Nat TD
def lift(K:Fg)(e:TD):TE:=λσ H Q=>∃(G:Gh) (F:Hp) (c:Ev) (d:Sl->Ev->Prop),Rel K G F σ H c/\e c d /\
 ∀v H' b r a,Sub F b->Rel K G b σ H' a->Res K G b H' σ a v r->d r a->Q v H'
def yZ(K:Fg)(i:MW):TT:=λσ H Q=>∃(G:Gh) (F:Hp) (c:Ev) (d:Bool->Ev->Prop),Rel K G F σ H c/\i c d /\
 ∀b H' e a,Sub F e->Rel K G e σ H' a->d b a->Q b H'
noncomputable def mZ(K:Fg):AD->TE
 | .inl i=>IK i
 | .inr a=>lift K a
noncomputable def vZ:List TE->TA
 |[]=>sv
 |t::a=>DW t<|vZ a
theorem aU{K:Fg}{Q:VK}(m:∀v H,Q v H->Q' v H)(h:mZ K a σ H Q):mZ K a σ H Q':=by
 cases a with
 |inl i=>obtain⟨v,e,q⟩:=h;exact⟨v,e,m _ _ q⟩
 |inr x=>obtain⟨G,F,c,d,R,w,k⟩:=h;exact⟨G,F,c,d,R,w,λv H' j r b s l t q=>m _ _<|k v H' j r b s l t q⟩
theorem nq{K:Fg}(h:vZ ([a].map (mZ K)) σ H λb c=>∃x,b=[x]/\P x c):mZ K a σ H P:=aU (λv H q=>by obtain⟨x,e,q⟩:=q;cases e;exact q) h
theorem Vu{K:Fg}{P:V->V->Hp->Prop}(h:vZ ([a,b].map (mZ K)) σ H λd c=>∃x y,d=[x,y]/\P x y c):mZ K a σ H λx i=>mZ K b σ i λy c=>P x y c:=aU (λv H q=>aU (λu H q=>by obtain⟨x,y,e,q⟩:=q;cases e;exact q) q) h
def Pv(i:Nat):TD:=λa Q=>match a[i]? with
 |some (some<|.fz d)=>Q (.fz d) a
 |some (some<|.ow d)=>Q (.fz d)<|a.set i<|some<|.fz d
 |_=>Ln
def dC(d:D):TD:=λa Q=>Q (.fz d) a
section
variable {K:Fg}{σ:L2.St}{Q:VK}
theorem pT(h:lift K (Pv i) σ H Q):IK i σ H Q:=by
 obtain⟨G,F,c,q,R,w,k⟩:=h;unfold Pv at w;split at w
 .rename_i d e;obtain⟨v,a,b⟩:=R.fz i d e;exact⟨v,a,k v H F (.fz d) c (Sub.refl _) R b w⟩
 .rename_i d e;obtain⟨j,v,l,m,a,b⟩:=R.freeze e;exact⟨v,a,k v H j (.fz d) _ l m b w⟩
 .exact w.elim
theorem Jd(a:∀F,Da K F v d)(h:lift K (dC d) σ H Q):tC v σ H Q:=by obtain⟨G,F,b,c,R,w,k⟩:=h;exact k v H F (.fz d) b (Sub.refl _) R (a F) w
end
noncomputable def OpdAt(K:Fg)(F:Hp)(σ:L2.St)(v:V):TF->Prop
 | .inl i=>σ[i]?=some (some v)
 | .inr d=>Da K F v d
inductive OpdsAt (K:Fg) (F:Hp) (σ:L2.St):List V->List TF->Prop
 |nil:OpdsAt K F σ [] []
 |cons {v x vs xs}:OpdAt K F σ v x->OpdsAt K F σ vs xs->OpdsAt K F σ (v::vs) (x::xs)
theorem OpdAt.mono{K:Fg}(s:Sub F F')(h:OpdAt K F σ v x):OpdAt K F' σ v x:=by
 cases x with
 |inl i=>exact h
 |inr d=>exact Da.mono s h
noncomputable def MJ:List AD->Ev->(List TF->Ev->Prop)->Prop
 |[],a,Q=>Q [] a
 | .inl i::as,a,Q=>match a[i]? with
  |some (some _)=>MJ as a λb c=>Q (.inl i::b) c
  |_=>Ln
 | .inr k::as,a,Q=>k a λr e=>MJ as e λb j=>Q (.inr r.d::b) j
theorem SY{K:Fg}{G:Gh}{σ:L2.St}:∀{as:List AD}{F H:Hp}{b:Ev}{m:List TF->Ev->Prop}{t:List V->Hp->Prop},Rel K G F σ H b->MJ as b m -> (∀c H' j l a,Sub F j->Rel K G j σ H' a->OpdsAt K j σ c l->c.length=as.length->m l a->t c H')->vZ (as.map<|mZ K) σ H t
 |[],F,H,b,m,t,R,w,k=>k [] H F [] b (Sub.refl _) R .nil rfl w
 | .inl i::as,F,H,b,m,t,R,w,k=>by
  unfold MJ at w;split at w
  .rename_i s e;obtain⟨v,B⟩:=R.bound e;refine⟨v,B,SY (as:=as) R w λc H' j l a x y o hl q=>?_⟩;exact k (v::c) H' j (.inl i::l) a x y (.cons B o) (by simp[hl]) q
  .exact w.elim
 | .inr Y::as,F,H,b,m,t,R,w,k=>by refine⟨G,F,b,_,R,w,λv Z F1 r C I L M O=>?_⟩;obtain⟨F2,P,R2,U⟩:=M.frz L;refine SY (as:=as) R2 O λc H' j l a x y o hl q=>?_;exact k (v::c) H' j (.inr r.d::l) a (I.trans<|P.trans x) y (.cons (U.mono x) o) (by simp[hl]) q
theorem uJ{K:Fg}(R:Rel K G F σ H ρ)(w:MJ as ρ Qd)(k:∀c H' b xs a,Sub F b->Rel K G b σ H' a->OpdsAt K b σ c xs->Qd xs a->Qv c H'):vZ (as.map<|mZ K) σ H Qv:=SY R w λc H' b xs a s d o _ q=>k c H' b xs a s d o q
def At(K:Fg)(F H:Hp)(v:V)(d:D):Prop:=Da K F v d\/∃a o,v=.ref a/\F a=none/\H a=some o/\Own1 K F o d
inductive AtAll (K:Fg) (F H:Hp):List V->List D->Prop
 |nil:AtAll K F H [] []
 |cons {v d vs ds}:At K F H v d->AtAll K F H vs ds->AtAll K F H (v::vs) (d::ds)
noncomputable def look(a:Ev):TF->Jn D
 | .inl i=>match a[i]? with
  |some (some s)=>some s.d
  |_=>none
 | .inr d=>some d
noncomputable def UZ(a:Ev):List TF->(List D->Prop)->Prop
 |[],k=>k []
 | .inr d::b,k=>UZ a b λc=>k (d::c)
 | .inl i::b,k=>match a[i]? with
  |some (some s)=>UZ a b λc=>k (s.d::c)
  |_=>Ln
section
variable {K:Fg}{G:Gh}{F:Hp}{σ:L2.St}{ρ:Ev}
theorem Rel.at(R:Rel K G F σ H ρ){i:Nat}{s:Sl}{v:V}(e:ρ[i]?=some (some s))(c:σ[i]?=some (some v)):At K F H v s.d:=by
 cases s with
 |fz d=>obtain⟨q,m,b⟩:=R.fz i d e;rw[c]at m;cases m;exact .inl b
 |ow d=>obtain⟨a,o,b,j,k,l⟩:=R.ow i _ e rfl;rw[c]at b;cases b;exact .inr ⟨a,o,rfl,j,k,l⟩
 |io d=>obtain⟨a,o,b,j,k,l⟩:=R.ow i _ e rfl;rw[c]at b;cases b;exact .inr ⟨a,o,rfl,j,k,l⟩
theorem fK(R:Rel K G F σ H ρ){c:List TF}{j:List V}{k:List D->Prop}(o:OpdsAt K F σ j c)(h:UZ ρ c k):∃b,AtAll K F H j b/\k b:=by
 induction o generalizing k with
 |nil=>exact⟨[],.nil,h⟩
 |@cons v x j c o t l =>
  cases x with
  |inr d=>obtain⟨b,a,q⟩:=l (k:=λb=>k (d::b)) h;exact⟨d::b,.cons (.inl o) a,q⟩
  |inl i =>
   unfold UZ at h;split at h
   .rename_i s e;obtain⟨b,a,q⟩:=l (k:=λb=>k (s.d::b)) h;exact⟨s.d::b,.cons (R.at e o) a,q⟩
   .exact h.elim
end
def zW(as:List AD)(f:List D->(Sl->Prop)->Prop):TD:=λb Q=>MJ as b λc a=>UZ a c λd=>f d λr=>Q r a
def RZ(K:Fg)(r:List V->Hp->VK->Prop)(f:List D->(Sl->Prop)->Prop):Prop :=
 ∀(G:Gh) (F:Hp) (σ:L2.St) (H:Hp) (a:Ev) (c:List V) (d:List D) (Q:VK) (e:Sl->Prop),Rel K G F σ H a->AtAll K F H c d->f d e ->
  (∀v H' b s,Sub F b->Rel K G b σ H' a->Res K G b H' σ a v s->e s->Q v H')->r c H Q
theorem UF{K:Fg}{r:List V->Hp->VK->Prop}{f:List D->(Sl->Prop)->Prop}(ok:RZ K r f){σ:L2.St}{H:Hp}{Q:VK}(h:lift K (zW as f) σ H Q):vZ (as.map<|mZ K) σ H λb d=>r b d Q:=by obtain⟨G,F,C,I,R,w,k⟩:=h;refine uJ R w λb H' e L a i c o q=>?_;obtain⟨j,l,q⟩:=fK c o q;exact ok G e σ H' a b j Q _ c l q λv m t s x R2 y B=>k v m t s a (i.trans x) R2 y B
noncomputable def o1(f:D->(Sl->Prop)->Prop):List D->(Sl->Prop)->Prop
 |[x],Q=>f x Q
 |_,_=>Ln
noncomputable def o2(f:D->D->(Sl->Prop)->Prop):List D->(Sl->Prop)->Prop
 |[x,y],Q=>f x y Q
 |_,_=>Ln
noncomputable def o3(f:D->D->D->(Sl->Prop)->Prop):List D->(Sl->Prop)->Prop
 |[x,y,z],Q=>f x y z Q
 |_,_=>Ln
noncomputable def oq(c:TD):MW:=λd Q=>c d λr a=>match r with
 | .fz (.bool b)=>Q b a
 |_=>Ln
noncomputable def YO(c:MW):MW:=λd Q=>c d λb a=>Q (!b) a
noncomputable def ZO(c e:MW):MW:=λd Q=>c d λb a=>if b=true then e a Q else Q false a
noncomputable def Ia(c e:MW):MW:=λd Q=>c d λb a=>if b=true then Q true a else e a Q
noncomputable def VF:MW:=λa Q=>Q true a
section
variable {K:Fg}{σ:L2.St}
theorem bN(c:∀{σ H Q},lift K td σ H Q->t σ H Q){Q:Bool->Hp->Prop}(h:yZ K (oq td) σ H Q):du t σ H Q:=by
 obtain⟨G,F,d,m,R,w,k⟩:=h;refine c ⟨G,F,d,_,R,w,λv H' e r a i j l q=>?_⟩;split at q
 .rename_i b;cases l;exact⟨b,rfl,k b H' e a i j q⟩
 .exact q.elim
theorem qT{Q:Bool->Hp->Prop}(h:yZ K (YO c) σ H Q):aO (yZ K c) σ H Q:=by obtain⟨G,F,d,l,R,w,k⟩:=h;exact⟨G,F,d,_,R,w,λb H' e a i j q=>k (!b) H' e a i j q⟩
theorem rT{Q:Bool->Hp->Prop}(h:yZ K (ZO c e) σ H Q):ZN (yZ K c) (yZ K e) σ H Q:=by
 obtain⟨G,F,m,t,R,w,k⟩:=h;refine⟨G,F,m,_,R,w,λb H' i a j l q=>?_⟩;cases b with
 |true=>exact⟨G,i,a,t,l,q,λb v x d y R2 B=>k b v x d (j.trans y) R2 B⟩
 |false=>exact k false H' i a j l q
theorem Ja{Q:Bool->Hp->Prop}(h:yZ K (Ia c e) σ H Q):ma (yZ K c) (yZ K e) σ H Q:=by
 obtain⟨G,F,m,t,R,w,k⟩:=h;refine⟨G,F,m,_,R,w,λb H' i a j l q=>?_⟩;cases b with
 |true=>exact k true H' i a j l q
 |false=>exact⟨G,i,a,t,l,q,λb v x d y R2 B=>k b v x d (j.trans y) R2 B⟩
theorem tT{Q:Bool->Hp->Prop}(h:yZ K VF σ H Q):cT σ H Q:=by obtain⟨G,F,a,b,R,w,k⟩:=h;exact k true H F a (Sub.refl _) R w
end
def Wu(a b:TD):TD:=λe Q=>a e λr d=>match r with
 | .fz (.bool c)=>if c=true then b d Q else Q (.fz<|.bool false) d
 |_=>Ln
def Xu(a:TD):TD:=λd Q=>a d λr b=>match r with
 | .fz (.bool c)=>Q (.fz<|.bool<|!c) b
 |_=>Ln
section
variable {K:Fg}{σ:L2.St}{Q:VK}{a b:TD}{c:MW}
theorem aP(h:lift K (Wu a b) σ H Q):Ry (lift K a) (lift K b) σ H Q:=by
 obtain⟨G,F,m,t,R,w,k⟩:=h;refine⟨G,F,m,_,R,w,λv H' i r d j l x q=>?_⟩;split at q
 .rename_i c;cases x;refine⟨c,rfl,?_⟩;cases c with
  |true=>exact⟨G,i,d,t,l,q,λv y B r e C R2 I L=>k v y B r e (j.trans C) R2 I L⟩
  |false=>exact k _ H' i (.fz<|.bool false) d j l (Da.bl false) q
 .exact q.elim
theorem bP(h:lift K (Xu a) σ H Q):Uy (lift K a) σ H Q:=by
 obtain⟨G,F,e,t,R,w,k⟩:=h;refine⟨G,F,e,_,R,w,λv H' i r d j l m q=>?_⟩;split at q
 .rename_i c;cases m;exact⟨c,rfl,k _ H' i (.fz<|.bool<|!c) d j l (Da.bl<|!c) q⟩
 .exact q.elim
end
theorem IU{a:Ev}{i:Nat}(h:match a[i]? with|some (some<|.io _)=>Ln|some _=>P|none=>Ln):ZV a i/\P:=by
 unfold ZV;cases e:a[i]? with
 |none=>rw[e]at h;exact h.elim
 |some x =>
  rw[e]at h;cases x with
  |none=>exact⟨trivial,h⟩
  |some s=>cases s with
   |fz d=>exact⟨trivial,h⟩
   |ow d=>exact⟨trivial,h⟩
   |io d=>exact h.elim
structure DE where
 nx:Ev->Prop
 rt:Sl->Ev->Prop
 bk:Ev->Prop
 ct:Ev->Prop
noncomputable abbrev IY:=DE->Ev->Prop
def qZ(K:Fg)(e:IY):TS:=λD σ H=>∃(G:Gh) (F:Hp) (d:Ev) (E:DE),Rel K G F σ H d/\e E d /\
 (∀b H' c a,Sub F c->Rel K G c b H' a->E.nx a->D.nx b H') /\
 (∀v b H' c r a,Sub F c->Rel K G c b H' a->Res K G c H' b a v r->E.rt r a->D.rt v H') /\
 (∀b H' c a,Sub F c->Rel K G c b H' a->E.bk a->D.bk b H') /\
 (∀b H' c a,Sub F c->Rel K G c b H' a->E.ct a->D.ct b H')
noncomputable def Yu:IY:=λE a=>E.nx a
noncomputable def Rv(t u:IY):IY:=λE b=>t {nx:=λa=>u E a,rt:=E.rt,bk:=E.bk,ct:=E.ct} b
noncomputable def JI(a:TD):IY:=λE b=>a b E.rt
noncomputable def Zu(a:TD):IY:=λE c=>a c λ_ b=>E.nx b
noncomputable def cP(c:MW)(t u:IY):IY:=λE d=>c d λb a=>if b=true then t E a else u E a
noncomputable def rq(i:Nat)(a:TD):IY:=λE c=>a c λr b=>match b[i]? with
 |some (some<|.io _)=>Ln
 |some _=>E.nx<|b.set i<|some r
 |none=>Ln
section
variable {K:Fg}{σ:L2.St}{E:Ends}{t u:IY}{a:TD}{c:MW}
theorem dP(h:qZ K Yu E σ H):Ux E σ H:=by obtain⟨G,F,d,D,R,w,n,r,b,c⟩:=h;exact n σ H F d (Sub.refl _) R w
theorem later{D:DE}(s:Sub F F1)(R:Rel K G F1 σ1 H1 ρ1)(w:ts D ρ1)(n:∀e H' i d,Sub F i->Rel K G i e H' d->D.nx d->E.nx e H')(r:∀v e H' i r d,Sub F i->Rel K G i e H' d->Res K G i H' e d v r->D.rt r d->E.rt v H')(b:∀e H' i d,Sub F i->Rel K G i e H' d->D.bk d->E.bk e H')(c:∀e H' i d,Sub F i->Rel K G i e H' d->D.ct d->E.ct e H'):qZ K ts E σ1 H1:=
 ⟨G,F1,ρ1,D,R,w,λ_ _ _ _ s' j q=>n _ _ _ _ (s.trans s') j q,λ_ _ _ _ _ _ s' j k q=>r _ _ _ _ _ _ (s.trans s') j k q,
   λ_ _ _ _ s' j q=>b _ _ _ _ (s.trans s') j q,λ_ _ _ _ s' j q=>c _ _ _ _ (s.trans s') j q⟩
theorem uT(h:qZ K (Rv t u) E σ H):cv (qZ K t) (qZ K u) E σ H:=by obtain⟨G,F,d,D,R,w,n,r,b,c⟩:=h;exact⟨G,F,d,_,R,w,λe H' k i s j q=>later s j q n r b c,r,b,c⟩
theorem vT(h:qZ K (JI a) E σ H):fv (lift K a) E σ H:=by obtain⟨G,F,e,D,R,w,n,r,b,c⟩:=h;exact⟨G,F,e,_,R,w,λv H' i x d s j k q=>r v σ H' i x d s j k q⟩
theorem eP(h:qZ K (Zu a) E σ H):XD (lift K a) E σ H:=by obtain⟨G,F,e,D,R,w,n,r,b,c⟩:=h;exact⟨G,F,e,_,R,w,λv H' i x d s j k q=>n σ H' i d s j q⟩
theorem wT(h:qZ K (cP c t u) E σ H):YE (yZ K c) (qZ K t) (qZ K u) E σ H:=by
 obtain⟨G,F,e,D,R,w,n,r,b,c⟩:=h;refine⟨G,F,e,_,R,w,λx H' j i s d q=>?_⟩;cases x with
 |true=>exact later s d q n r b c
 |false=>exact later s d q n r b c
theorem cN(h:qZ K (rq i a) E σ H):eV (lift K a) (FY i) E σ H:=by obtain⟨G,F,e,D,R,w,n,r,b,c⟩:=h;refine⟨G,F,e,_,R,w,λv H' j x k s l m q=>?_⟩;have d:=IU q;exact n _ H' j _ s (l.asg d.1 m) d.2
end
noncomputable def tq(i:Nat):IY:=λE a=>match a[i]? with
 |some (some<|.fz d)=>E.rt (.fz d) a
 |some (some<|.ow d)=>E.rt (.ow d)<|a.set i none
 |_=>Ln
noncomputable def uq(i j:Nat):IY:=λE a=>match a[j]? with
 | some (some<|.fz d)=>(match a[i]? with
   |some (some<|.io _)=>Ln
   |some _=>E.nx<|a.set i<|some<|.fz d
   |none=>Ln)
 | some (some<|.ow d)=>(match (a.set j none)[i]? with
   |some (some<|.io _)=>Ln
   |some _=>E.nx<|(a.set j none).set i<|some<|.ow d
   |none=>Ln)
 |_=>Ln
section
variable {K:Fg}{σ:L2.St}{E:Ends}
theorem fP(h:qZ K (tq i) E σ H):fv (IK i) E σ H:=by
 obtain⟨G,F,k,D,R,w,n,r,b,c⟩:=h;unfold tq at w;split at w
 .rename_i d e;obtain⟨v,a,j⟩:=R.fz i d e;exact⟨v,a,r v σ H F (.fz d) k (Sub.refl _) R j w⟩
 .rename_i d e;obtain⟨v,a,j⟩:=R.forgetRes e;exact⟨v,a,r v σ H F (.ow d) _ (Sub.refl _) (R.forget e) j w⟩
 .exact w.elim
theorem gP(h:qZ K (uq i j) E σ H):eV (IK j) (FY i) E σ H:=by
 obtain⟨G,F,m,D,R,w,n,r,b,c⟩:=h;unfold uq at w;split at w
 .rename_i d e;obtain⟨v,a,k⟩:=R.fz j d e;obtain⟨l,w⟩:=IU w;exact⟨v,a,n _ H F _ (Sub.refl _) (R.asg (s:=.fz d) l k) w⟩
 .rename_i d e;obtain⟨v,a,k⟩:=R.forgetRes e;obtain⟨l,w⟩:=IU w;exact⟨v,a,n _ H F _ (Sub.refl _) ((R.forget e).asg (s:=.ow d) l k) w⟩
 .exact w.elim
end
noncomputable abbrev uY:=D->Ev->(Ev->Prop)->Prop
def QZ(K:Fg)(g:uY):TG:=λv σ H Q=>∃(G:Gh) (F:Hp) (c:Ev) (d:D) (e:Ev->Prop),Rel K G F σ H c/\Da K F v d/\g d c e/\∀a b,Rel K G F a H b->e b->Q a H
noncomputable def aB(i:Nat):uY:=λd a Q=>match a[i]? with
 |some (some<|.io _)=>Ln
 |some _=>Q<|a.set i<|some<|.fz d
 |none=>Ln
noncomputable def F_:List uY->List D->Ev->(Ev->Prop)->Prop
 |[],[],a,Q=>Q a
 |g::c,d::e,a,Q=>g d a λb=>F_ c e b Q
 |_,_,_,_=>Ln
noncomputable def G_(a:List uY):uY:=λd c Q=>match d with
 | .tuple b=>b.length=a.length/\F_ a b c Q
 |_=>Ln
noncomputable def CU:List TG->Oy
 |[]=>LS
 |g::a=>UM g<|CU a
section
variable {K:Fg}{σ:L2.St}{v:V}{Q:L2.St->Hp->Prop}
theorem Ka(h:QZ K (aB i) v σ H Q):FY i v σ H Q:=by obtain⟨G,F,b,d,c,R,hd,w,k⟩:=h;obtain⟨a,w⟩:=IU w;exact k _ _ (R.asg (s:=.fz d) a hd) w
theorem iP{G:Gh}{F:Hp}:∀{gs:List uY}{i:List D}{j:List V}{σ:L2.St}{a:Ev}{e:Ev->Prop},Rel K G F σ H a->DaAll K F j i->F_ gs i a e->(∀b c,Rel K G F b H c->e c->Q b H)->CU (gs.map<|QZ K) j σ H Q
 |[],[],_,σ,a,e,R,.nil,w,k=>⟨rfl,k σ a R w⟩
 |g::gs,d::i,_,σ,a,e,R,.cons h t,w,k=>⟨_,_,rfl,G,F,a,d,_,R,h,w,λb c l m=>iP (gs:=gs) l t m k⟩
 |[],_::_,_,σ,a,e,R,_,w,k=>by exact w.elim
 |_::_,[],_,σ,a,e,R,_,w,k=>by exact w.elim
theorem La(a:gs.length=n)(h:QZ K (G_ gs) v σ H Q):cI K n (CU<|gs.map<|QZ K) v σ H Q:=by
 obtain⟨G,F,b,d,c,R,hd,w,k⟩:=h;unfold G_ at w;split at w
 .cases hd with
  |tup e t=>exact⟨_,_,rfl,SqT.of<|R.sub _ _ e,by rw[t.length,w.1,a],iP R t w.2 k⟩
 .exact w.elim
end
def Walks(K:Fg)(J:It)(F:Hp)(e:List D):Prop:=∀(i:Nat) (H a:Hp),Sub F a->Sub a H ->
 (∀d,e[i]?=some d->J.go i H/\∀x H',J.yld i H x H'->∃c,Sub a c/\(∀b o,c b=some o->a b=some o\/H b=none)/\Sub c H'/\Sub H H'/\Da K c x d)/\(e.length=i->J.stop i H)
noncomputable abbrev vq:=Ev->(List D->Ev->Prop)->Prop
def iJ(K:Fg)(i:vq):TI:=λσ H R=>∃(G:Gh) (F:Hp) (c:Ev) (d:List D->Ev->Prop),Rel K G F σ H c/\i c d /\
 ∀J H' b e a,Sub F b->Rel K G b σ H' a->Walks K J b e->d e a->R J H'
theorem Rel.turn{K:Fg}(R:Rel K G F σ H ρ)(s:Sub F F2)(n:∀b o,F2 b=some o->F b=some o\/H b=none)(x:Sub F2 H')(k:Sub H H'):Rel K G F2 σ H' ρ where
 len:=R.len
 sub:=x
 sub0:=R.sub0.trans s
 fn:=λb o e=>by
  rcases n b o e with q|q
  .exact R.fn b o q
  .exact .inr (R.h0 q)
 keep:=λa o e m=>k _ _ (R.keep a o e m)
 fz:=λi d e=>by obtain⟨v,c,j⟩:=R.fz i d e;exact⟨v,c,j.mono s⟩
 ow:=λi t e w=>by
  obtain⟨a,o,c,j,l,y⟩:=R.ow i t e w;refine⟨a,o,c,?_,k _ _ l,y.mono s⟩;cases q:F2 a with
  |none=>rfl
  |some u =>
   rcases n a u q with z|z
   .rw[j]at z;cases z
   .rw[l]at z;cases z
 new:=R.new
 io:=R.io
 ioi:=R.ioi
 ap:=R.ap
theorem wq{l:List α}{x:α}(h:l[i]?=some x):l.drop i=x::l.drop (i+1):=by obtain⟨hl,rfl⟩:=Y1.mp h;exact M4 hl
noncomputable def rj(c:MW)(j:IY):IY:=λE e=>∃W:Nat->Ev->Prop,(∃m,W m e)/\∀m e,W m e->c e λb a=>if b=true then
 ∃N:Ev->Prop,(∀d,N d->∃i,i<m/\W i d)/\j {nx:=N,rt:=E.rt,bk:=E.nx,ct:=N} a else E.nx a
theorem KI{K:Fg}{E:Ends}(h:qZ K (rj c tb) E σ H):Zz (yZ K c) (qZ K tb) E σ H:=by
 obtain⟨G,F,P,D,R,⟨W,⟨U,Y⟩,st⟩,n,r,b,c⟩:=h;refine⟨λm σ H=>∃C d,Sub F C/\Rel K G C σ H d/\W m d,⟨U,F,P,Sub.refl _,R,Y⟩,?_⟩;rintro m σ H ⟨C,d,s',Z,w'⟩;refine⟨G,C,d,_,Z,st m d w',λx H1 L t w M q=>?_⟩;cases x with
 |false=>exact n σ H1 L t (s'.trans w) M q
 |true =>
  obtain⟨N,hN,q⟩:=q;refine⟨λy O=>∃I e,Sub F I/\Rel K G I y O e/\N e,λy O ⟨I,e,z1,z2,z3⟩=>?_,?_⟩
  .obtain⟨m',hm,hw⟩:=hN e z3;exact⟨m',hm,I,e,z1,z2,hw⟩
  .refine⟨G,L,t,_,M,q,λi B j a k l q=>?_,λv i B j x4 a k l r4 q=>?_,λi B j a k l q=>?_,λi B j a k l q=>?_⟩
   .exact⟨j,a,s'.trans<|w.trans k,l,q⟩
   .exact r v i B j x4 a (s'.trans<|w.trans k) l r4 q
   .exact n i B j a (s'.trans<|w.trans k) l q
   .exact⟨j,a,s'.trans<|w.trans k,l,q⟩
noncomputable def LI:Jn Sl->Jn Sl
 |some (.ow d)=>some<|.io d
 |x=>x
noncomputable def sH(own:List Str)(fr:List Nat)(a:Ev):Ev:=own.map (λ_=>none)++fr.map λi=>LI<|(a[i]?).getD none
noncomputable def MI:Jn Sl->Jn (Jn Sl)->Jn Sl
 |some (.ow d),some (some<|.io a)=>some<|.ow a
 |some (.io d),some (some<|.io a)=>some<|.io a
 |x,_=>x
noncomputable def bU(fr:List Nat)(a:Ev):Nat->Ev->Ev
 |_,[]=>[]
 |j,x::b=>MI x ((fr.zip a).lookup j)::bU fr a (j+1) b
theorem tH(fr:List Nat)(b:Ev):∀(a:Ev) (j i:Nat),(bU fr b j a)[i]?=(a[i]?).map λx=>MI x<|(fr.zip b).lookup<|j+i
 |[],j,i=>by simp[bU]
 |x::a,j,0=>by simp[bU]
 |x::a,j,i+1=>by have:=tH fr b a (j+1) i;simp only[bU,T6];rw[this,show j+1+i=j+(i+1) by exact M6 _ _]
theorem xq(fr:List Nat)(b:Ev):∀(a:Ev) (j:Nat),(bU fr b j a).length=a.length
 |[],_=>rfl
 |x::a,j=>by simp[bU,xq fr b a<|j+1]
theorem uH:∀{fr:List Nat}{τ:Ev}{k i:Nat}{x:Jn Sl},fr.Nodup->fr[k]?=some i->τ[k]?=some x->(fr.zip τ).lookup i=some x
 |[],_,_,_,_,_,e,_=>by simp at e
 |j::fr,[],_,_,_,_,_,e=>by simp at e
 |j::fr,y::τ,0,i,x,_,e,a=>by simp at e a;subst e a;simp[qQ]
 |j::fr,y::τ,k+1,i,x,c,e,a=>by
  have b:=w6.mp c;simp at e a;have d:i∈fr:=O3 e;have ne:(i==j)=false:=by simp;intro z;subst z;exact b.1 d
  simp[qQ,ne];exact uH b.2 e a
theorem TY:∀{fr:List Nat}{a:Ev}{i:Nat}{x:Jn Sl},(fr.zip a).lookup i=some x->∃k:Nat,fr[k]?=some i/\a[k]?=some x
 |[],_,_,_,e=>by simp at e
 |j::fr,[],_,_,e=>by simp at e
 |j::fr,y::a,i,x,e=>by
  by_cases z:i=j
  .subst z;simp[qQ]at e;subst e;exact⟨0,by simp,by simp⟩
  .have ne:(i==j)=false:=by simp[z]
   simp[qQ,ne]at e;obtain⟨k,b,c⟩:=TY e;exact⟨k+1,by simpa using b,by simpa using c⟩
noncomputable def bB(σ:L2.St)(b:Ev)(i:Nat):Jn Ee:=match b[i]?,σ[i]? with
 |some (some s),some (some<|.ref a)=>if WZ s=true then some a else none
 |_,_=>none
theorem Sv(h:bB σ ρ i=some a):∃s,ρ[i]?=some (some s)/\WZ s=true/\σ[i]?=some (some<|V.ref a):=by
 unfold bB at h;split at h
 .rename_i s b c d;split at h
  .rename_i w;cases h;exact⟨s,c,w,d⟩
  .cases h
 .cases h
theorem NI{s:Sl}(b:ρ[i]?=some (some s))(c:WZ s=true)(d:σ[i]?=some (some<|V.ref a)):bB σ ρ i=some a:=by unfold bB;rw[b,d];simp[c]
noncomputable def IE(own:List Str)(fr:List Nat)(F H:Hp)(σ:L2.St)(a:Ev):Gh:=⟨H,F,λj=>if own.length<=j then (match fr[j-own.length]? with|some i=>bB σ a i|none=>none) else none⟩
theorem sj(h:(IE own fr F H σ ρ).io j=some a):∃k i s,j=own.length+k/\fr[k]?=some i/\ρ[i]?=some (some s)/\WZ s=true/\σ[i]?=some (some<|V.ref a):=by
 unfold IE at h;simp only at h;split at h
 .rename_i hl;split at h
  .rename_i i e;obtain⟨s,b,c,d⟩:=Sv h;exact⟨j-own.length,i,s,N3 (Z6.1<|P0 rfl)<|P0<|M3 hl,e,b,c,d⟩
  .cases h
 .cases h
theorem tj{s:Sl}(h0:fr[k]?=some i)(b:ρ[i]?=some (some s))(c:WZ s=true)(d:σ[i]?=some (some<|V.ref a)):(IE own fr F H σ ρ).io (own.length+k)=some a:=by unfold IE;simp only;rw[De<|T1 _ _,W2,h0];exact NI b c d
theorem Tv{own:List Str}{f:Nat->Jn α}(h:(own.map (λ_=>(none:Jn α))++fr.map f)[j]?=some (some x)):∃k i,j=own.length+k/\fr[k]?=some i/\f i=some x:=by
 by_cases hl:j<own.length
 .rw[A3<|by simpa using hl]at h;simp at h
 .rw[S2<|by simpa using A1 hl]at h;simp at h;obtain⟨i,a,b⟩:=h;exact⟨j-own.length,i,eZ<|M3<|A1 hl,a,b⟩
theorem yq{own:List Str}{f:Nat->Jn α}(h:fr[k]?=some i):(own.map (λ_=>(none:Jn α))++fr.map f)[own.length+k]?=some (f i):=by rw[S2<|by simp];simp[h]
theorem cB{s:Sl}(h:LI x=some s):∃a,x=some a/\((∃d,a=.fz d/\s=.fz d)\/(WZ a=true/\s=.io a.d)):=by
 cases x with
 |none=>cases h
 |some a =>
  cases a with
  |fz d=>cases h;exact⟨_,rfl,.inl ⟨d,rfl,rfl⟩⟩
  |ow d=>cases h;exact⟨_,rfl,.inr ⟨rfl,rfl⟩⟩
  |io d=>cases h;exact⟨_,rfl,.inr ⟨rfl,rfl⟩⟩
theorem getD_some{o:Jn (Jn α)}{x:α}(h:o.getD none=some x):o=some (some x):=by
 cases o with
 |none=>cases h
 |some y=>simp at h;rw[h]
section
variable {K:Fg}{G:Gh}{F F':Hp}{σ τ:L2.St}{ρ μ:Ev}{own:List Str}
theorem pK{s:Sl}(h:(sH own fr ρ)[j]?=some (some s)):∃k i a,j=own.length+k/\fr[k]?=some i/\ρ[i]?=some (some a)/\((∃d,a=.fz d/\s=.fz d)\/(WZ a=true/\s=.io a.d)):=by obtain⟨k,i,b,c,e⟩:=Tv h;obtain⟨a,l,m⟩:=cB e;exact⟨k,i,a,b,c,getD_some l,m⟩
theorem vH(h:fr[k]?=some i):(MO own σ fr)[own.length+k]?=some ((σ[i]?).getD none):=yq (f:=λi=>(σ[i]?).getD none) h
theorem Uv(h:fr[k]?=some i):(sH own fr ρ)[own.length+k]?=some (LI<|(ρ[i]?).getD none):=yq (f:=λi=>LI<|(ρ[i]?).getD none) h
theorem dB(c:fr.Nodup){k l i:Nat}(a:fr[k]?=some i)(b:fr[l]?=some i):k=l:=by obtain⟨j,d⟩:=Y1.mp a;obtain⟨m,e⟩:=Y1.mp b;exact(List.getElem_inj c).mp<|d.trans e.symm
theorem Rel.inner(R:Rel K G F σ H ρ)(nd:fr.Nodup):Rel K (IE own fr F H σ ρ) F (MO own σ fr) H (sH own fr ρ) where
 len:=by simp[MO,yS,sH]
 sub:=R.sub
 sub0:=Sub.refl _
 fn:=λ_ _ e=>.inl e
 keep:=λ_ _ e _=>e
 fz:=λj d e=>by
  obtain⟨k,i,y,rfl,b,c,m⟩:=pK e;rcases m with⟨C,rfl,z⟩|⟨_,z⟩
  .cases z;obtain⟨v,B,I⟩:=R.fz i d c;exact⟨v,by rw[vH b,B];rfl,I⟩
  .cases z
 ow:=λj s e w=>by
  obtain⟨k,i,y,rfl,b,c,m⟩:=pK e;rcases m with⟨C,rfl,z⟩|⟨x,z⟩
  .cases z;cases w
  .cases z;obtain⟨a,o,B,I,O,P⟩:=R.ow i y c x;exact⟨a,o,by rw[vH b,B];rfl,I,O,P⟩
 new:=λj d a e _=>by obtain⟨k,i,y,rfl,b,c,m⟩:=pK e;rcases m with⟨C,rfl,z⟩|⟨x,z⟩<;>cases z
 io:=λj a e=>by obtain⟨k,i,s,rfl,Z,b,c,m⟩:=sj e;refine⟨s.d,?_,by rw[vH Z,m];rfl⟩;rw[Uv Z,b];cases s<;>first|rfl|cases c
 ioi:=λj d e=>by
  obtain⟨k,i,y,rfl,b,c,m⟩:=pK e;rcases m with⟨C,rfl,z⟩|⟨x,z⟩
  .cases z
  .obtain⟨a,o,B,_⟩:=R.ow i y c x;exact⟨a,tj b c x B⟩
 ap:=λj l s t a B w1 I w2 O P=>by
  obtain⟨k,i,y,rfl,b,c,m⟩:=pK B;obtain⟨k',i',L,rfl,M,U,Y⟩:=pK I;have p1:WZ y=true:=by
   rcases m with⟨C,rfl,z⟩|⟨x,z⟩
   .subst z;cases w1
   .exact x
  have p2:WZ L=true:=by
   rcases Y with⟨C,rfl,z⟩|⟨x,z⟩
   .subst z;cases w2
   .exact x
  rw[vH b]at O;rw[vH M]at P;have q:=R.ap i i' y L a c p1 U p2 (getD_some<|E3 O)<|getD_some<|E3 P;subst q;rw[dB nd b M]
theorem UY(R:Rel K G F σ H ρ)(v:Rel K (IE own fr F H σ ρ) F' τ H' μ)(w:fr.Nodup){i:Nat}{s:Sl}(h:(bU fr (μ.drop own.length) 0 ρ)[i]?=some (some s)):∃b,ρ[i]?=some (some b)/\((s=b/\(WZ b=true->i∉fr))\/(WZ b=true/\∃k j,fr[k]?=some i/\μ[own.length+k]?=some (some<|Sl.io j)/\s=b.put j)):=by
 rw[tH]at h;cases e:ρ[i]? with
 |none=>rw[e]at h;cases h
 |some x =>
  rw[e]at h;simp only[U6,Y6]at h;have h:=E3 h;cases x with
  |none=>simp[MI]at h
  |some b =>
   refine⟨b,rfl,?_⟩;by_cases c:WZ b=true
   .by_cases l:i∈fr
    .obtain⟨k,m⟩:=E7.mp l;obtain⟨a,o,B,_⟩:=R.ow i b e c;obtain⟨j,t,g2⟩:=v.io _ _<|tj (own:=own) (F:=F) (H:=H) m e c B;have z:=uH (τ:=μ.drop own.length) w m (by rw[RX];exact t);rw[z]at h;refine .inr ⟨c,k,j,m,t,?_⟩;cases b with
     |fz d=>cases c
     |ow d=>simp[MI]at h;exact h.symm
     |io d=>simp[MI]at h;exact h.symm
    .refine .inl ⟨?_,λ_=>l⟩;have z:(fr.zip<|μ.drop own.length).lookup i=none:=by
      cases q:(fr.zip<|μ.drop own.length).lookup i with
      |none=>rfl
      |some y=>obtain⟨k,C,_⟩:=TY q;exact(l<|O3 C).elim
     rw[z]at h;cases b with
     |fz d=>cases c
     |ow d=>simp[MI]at h;exact h.symm
     |io d=>simp[MI]at h;exact h.symm
   .refine .inl ⟨?_,λz=>(c z).elim⟩;cases b with
    |fz d=>simp[MI]at h;exact h.symm
    |ow d=>exact(c rfl).elim
    |io d=>exact(c rfl).elim
theorem jP(x:Jn (Jn Sl)):∃a,MI (some<|.io d) x=some (.io a):=by
 rcases x with _|_|(a|a|a)
 .exact⟨d,rfl⟩
 .exact⟨d,rfl⟩
 .exact⟨d,rfl⟩
 .exact⟨d,rfl⟩
 .exact⟨a,rfl⟩
theorem Rel.outer(R:Rel K G F σ H ρ)(m:Rel K (IE own fr F H σ ρ) F' τ H' μ)(C:fr.Nodup):Rel K G F' σ H' (bU fr (μ.drop own.length) 0 ρ):=by
 have P:Sub F F':=m.sub0;have B:∀{i:Nat}{s:Sl},(bU fr (μ.drop own.length) 0 ρ)[i]?=some (some s)->WZ s=true->∃c,ρ[i]?=some (some c)/\WZ c=true:=λ{i s} e w=>by
  obtain⟨c,b,l⟩:=UY R m C e;rcases l with⟨rfl,_⟩|⟨x,_⟩
  .exact⟨s,b,w⟩
  .exact⟨c,b,x⟩
 refine⟨by rw[xq];exact R.len,m.sub,R.sub0.trans P,λa o e=>?_,λa o e n=>?_,λi d e=>?_,λi s e w=>?_,λi d a e Z=>?_,λi a e=>?_,λi d e=>?_,λi j s t a e1 w1 e2 w2 e3 e4=>?_⟩
 .rcases m.fn a o e with q|q
  .exact R.fn a o q
  .exact .inr (R.h0 q)
 .refine m.keep a o (R.keep a o e n) λj z=>?_;obtain⟨k,i,s,rfl,b,l,h3,h4⟩:=sj z;cases s with
  |fz d=>cases h3
  |ow d=>rw[R.new i d a l h4]at e;cases e
  |io d=>obtain⟨a',g⟩:=R.ioi i d l;obtain⟨_,_,g2⟩:=R.io i a' g;rw[h4]at g2;cases g2;exact n i g
 .obtain⟨c,b,l⟩:=UY R m C e;rcases l with⟨rfl,_⟩|⟨x,k,I,_,_,z⟩
  .obtain⟨v,y,g2⟩:=R.fz i d b;exact⟨v,y,g2.mono P⟩
  .cases c<;>simp[Sl.put,WZ]at z x
 .obtain⟨c,b,l⟩:=UY R m C e;rcases l with⟨rfl,hm⟩|⟨x,k,I,hk,hd,rfl⟩
  .obtain⟨a,o,y,g2,L,O⟩:=R.ow i s b w;have U:∀j,(IE own fr F H σ ρ).io j≠some a:=λj z=>by
    obtain⟨k,i',s',rfl,q1,Y,q3,q4⟩:=sj z;have:=R.ap i i' s s' a b w Y q3 y q4;subst this;exact hm w<|O3 q1
   refine⟨a,o,y,?_,m.keep a o L U,O.mono P⟩;cases q:F' a with
   |none=>rfl
   |some u =>
    rcases m.fn a u q with z|z
    .have z:F a=some u:=z;rw[g2]at z;cases z
    .have z:H a=none:=z;rw[L]at z;cases z
  .obtain⟨a,o,y,g2,L,O⟩:=R.ow i c b x;obtain⟨d2,q1,Y⟩:=m.io _ _<|tj (own:=own) (F:=F) (H:=H) hk b x y;obtain⟨a',o',p1,p2,p3,p4⟩:=m.ow _ _ hd rfl;rw[Y]at p1;cases p1;exact⟨a,o',y,p2,p3,by cases c<;>first|exact p4|cases x⟩
 .obtain⟨c,b,l⟩:=UY R m C e;rcases l with⟨rfl,_⟩|⟨x,k,I,_,_,z⟩
  .exact R.new i d a b Z
  .cases c with
   |fz d=>cases x
   |ow M=>exact R.new i M a b Z
   |io M=>cases z
 .obtain⟨d,b,l⟩:=R.io i a e;obtain⟨I,hd⟩:=jP (d:=d)<|(fr.zip<|μ.drop own.length).lookup i;exact⟨I,by rw[tH,b];simp only[U6,Y6];rw[hd],l⟩
 .obtain⟨c,b,l⟩:=UY R m C e;rcases l with⟨rfl,_⟩|⟨x,k,I,_,_,z⟩
  .exact R.ioi i d b
  .cases c with
   |fz d=>cases x
   |ow M=>cases z
   |io M=>exact R.ioi i M b
 .obtain⟨c,y,g2⟩:=B e1 w1;obtain⟨t0,L,O⟩:=B e2 w2;exact R.ap i j c t0 a y g2 L O e3 e4
end
noncomputable abbrev Con:=List Sl->(Sl->Ev->Prop)->Prop
noncomputable def iZ(K:Fg)(c:Con):Sp:=λd H Q _=>∃(G:Gh) (F:Hp) (a:List Sl) (i:Sl->Ev->Prop),Rel K G F (d.map some) H (a.map some)/\c a i /\
 ∀v H' e r b,Sub F e->Rel K G e (d.map some) H' b->Res K G e H' (d.map some) b v r->i r b->Q v H'
mutual
noncomputable def noMut:D->Bool
 | .none=>true
 | .bool _=>true
 | .int _=>true
 | .str _=>true
 | .tuple xs=>noMutAll xs
 | .list _=>false
 | .dict _=>false
noncomputable def noMutAll:List D->Bool
 |[]=>true
 |x::a=>noMut x&&noMutAll a
end
section
variable {K:Fg}{F F':Hp}
theorem Da.noMut(h:∀b xs,F b=some (.tup xs)->F' b=some (.tup xs)){v:V}{d:D}(q:Da K F v d):L3.noMut d=true->Da K F' v d:=by refine Da.rec (motive_1:=λv d _=>L3.noMut d=true->Da K F' v d) (motive_2:=λv d _=>noMutAll d=true->DaAll K F' v d) (motive_3:=λ_ _ _=>True) (motive_4:=λ_ _ _=>True) (motive_5:=λ_ _ _=>True) (motive_6:=λ_ _ _=>True) (λ_=>.non) (λb _=>.bl b) (λi _=>.int i) (λx _=>.str x) (λ_ _ _ z=>nomatch z) (λe _ t z=>.tup (h _ _ e)<|t z) (λ_ _ _ z=>nomatch z) (λ_ _ _ z=>nomatch z) (λ_ z=>nomatch z) (λ_ z=>nomatch z) (λ_ z=>nomatch z) (λ_ _ _ z=>nomatch z) (λ_ _ _ z=>nomatch z) (λ_=>.nil) (λ_ _ a t z=>.cons (a (P6.mp z).1)<|t (P6.mp z).2) ?_ ?_ ?_ ?_ ?_ ?_ ?_ ?_ q<;>intros<;>trivial
end
noncomputable def qJ(a:Ev):List TF->Bool
 |[]=>false
 | .inr _::xs=>qJ a xs
 | .inl i::xs=>(match a[i]? with|some (some s)=>WZ s|_=>false)||qJ a xs
def eB(b:Con)(as:List AD):TD:=λe Q=>MJ as e λc a=>UZ a c λi=>b (i.map Sl.fz) λr _=>match qJ a c with
 |false=>Q r a
 |true=>noMut r.d=true/\Q r a
def fB(b:Con)(i:Nat)(c:List TF)(a:Ev)(Q:Sl->Ev->Prop):Prop:=match a[i]? with
 |some (some s)=>match WZ s,qJ a c with
  |true,false=>UZ a c λe=>b (.io s.d::e.map Sl.fz) λr outs=>match outs with
   |some (.io j)::_=>Q r<|a.set i<|some<|s.put j
   |_=>Ln
  |_,_=>Ln
 |_=>Ln
def WF(a:Con)(i:Nat)(as:List AD):TD:=λc Q=>MJ (.inl i::as) c λd b=>fB a i d.tail b Q
def LentA(σ:L2.St)(b:Ev)(c:List TF)(a:Ee):Prop:=∃(i:Nat) (s:Sl),Sum.inl i∈c/\b[i]?=some (some s)/\WZ s=true/\σ[i]?=some (some<|V.ref a)
theorem NW{σ:L2.St}{k:Ev}:∀{xs:List TF}{a:Ee},LentA σ k xs a->qJ k xs=true
 |[],a,⟨i,s,h,_⟩=>by cases h
 | .inr d::xs,a,⟨i,s,h,b,c,e⟩=>by
  rcases E1.mp h with h|h
  .cases h
  .exact NW (xs:=xs) ⟨i,s,h,b,c,e⟩
 | .inl j::xs,a,⟨i,s,h,b,c,e⟩=>by
  unfold qJ;rcases E1.mp h with h|h
  .cases h;rw[b];simp[c]
  .rw[NW (xs:=xs) ⟨i,s,h,b,c,e⟩];simp
open Classical in
noncomputable def pV(σ:L2.St)(a:Ev)(c:List TF)(F H:Hp):Hp:=λb=>if LentA σ a c b then H b else F b
open Classical in
noncomputable def xK(σ:L2.St)(a:Ev)(c:List TF)(F:Hp):Hp:=λb=>if LentA σ a c b then none else F b
section
variable {K:Fg}{G:Gh}{F F':Hp}{σ:L2.St}{ρ:Ev}{xs:List TF}
theorem qV(h:¬LentA σ ρ xs b):pV σ ρ xs F H b=F b:=by unfold pV;rw[Ce h]
theorem XF(h:LentA σ ρ xs b):pV σ ρ xs F H b=H b:=by unfold pV;rw[De h]
theorem vY(h:¬LentA σ ρ xs b):xK σ ρ xs F b=F b:=by unfold xK;rw[Ce h]
theorem Vv(h:LentA σ ρ xs b):xK σ ρ xs F b=none:=by unfold xK;rw[De h]
theorem LentA.own(R:Rel K G F σ H ρ){b:Ee}(h:LentA σ ρ xs b):∃(i:Nat) (s:Sl) (o:HO),ρ[i]?=some (some s)/\WZ s=true/\σ[i]?=some (some<|V.ref b)/\F b=none/\H b=some o/\Own1 K F o s.d:=by obtain⟨i,s,_,c,e,j⟩:=h;obtain⟨a,o,k,g2,l,m⟩:=R.ow i s c e;rw[j]at k;cases k;exact⟨i,s,o,c,e,j,g2,l,m⟩
theorem rV(R:Rel K G F σ H ρ):Sub F (pV σ ρ xs F H):=λb o e=>by
 have n:¬LentA σ ρ xs b:=λz=>by obtain⟨_,_,_,_,_,_,h,_⟩:=z.own R;rw[h]at e;cases e
 rw[qV n];exact e
theorem OI(R:Rel K G F σ H ρ):Sub (pV σ ρ xs F H) H:=λb o e=>by
 by_cases z:LentA σ ρ xs b
 .rw[XF z]at e;exact e
 .rw[qV z]at e;exact R.sub _ _ e
theorem uj(R:Rel K G F σ H ρ){ys:List TF}{j:List V}{k:List D->Prop}(m:∀y∈ys,y∈xs)(o:OpdsAt K F σ j ys)(h:UZ ρ ys k):∃c,DaAll K (pV σ ρ xs F H) j c/\k c:=by
 induction o generalizing k with
 |nil=>exact⟨[],.nil,h⟩
 |@cons v x j ys o t B =>
  cases x with
  |inr d=>obtain⟨c,a,q⟩:=B (k:=λc=>k (d::c)) (λy hy=>m y<|G0 _ hy) h;exact⟨d::c,.cons (Da.mono (rV R) o) a,q⟩
  |inl i =>
   unfold UZ at h;split at h
   .rename_i s e;obtain⟨c,a,q⟩:=B (k:=λc=>k (s.d::c)) (λy hy=>m y<|G0 _ hy) h;refine⟨s.d::c,.cons ?_ a,q⟩;have o:σ[i]?=some (some v):=o;have own:WZ s=true->Da K (pV σ ρ xs F H) v s.d:=λw=>by
     obtain⟨b,u,C,P,L,M⟩:=R.ow i s e w;rw[o]at C;cases C;have l:LentA σ ρ xs b:=⟨i,s,m _ L0,e,w,o⟩;exact(M.mono<|rV R).da (by rw[XF l];exact L)
    cases s with
    |fz d=>obtain⟨v,I,O⟩:=R.fz i d e;rw[o]at I;cases I;exact O.mono<|rV R
    |ow d=>exact own rfl
    |io d=>exact own rfl
   .exact h.elim
theorem Wv{o:HO}(h:Own1 K F o d):noMut d=false:=by
 cases o with
 |ext a=>obtain⟨b,c,xs,e,z,rfl,t⟩:=h.ext;rfl
 |_=>cases d<;>first|rfl|exact h.elim
theorem bY{a:List D}{i:Nat}{s:Sl}(h:((a.map Sl.fz).map some)[i]?=some (some s)):∃d,a[i]?=some d/\s=.fz d:=by
 rw[O0,S1]at h;cases e:a[i]? with
 |none=>rw[e]at h;cases h
 |some d=>rw[e]at h;cases h;exact⟨d,rfl,rfl⟩
theorem kP{a:List V}{i:Nat}(h:a[i]?=some v):(a.map some)[i]?=some (some v):=by rw[S1,h];rfl
theorem gB(s:Sub F H)(da:DaAll K F vs ds):Rel K ⟨H,F,λ_=>none⟩ F (vs.map some) H ((ds.map Sl.fz).map some) where
 len:=by simp[da.length]
 sub:=s
 sub0:=Sub.refl _
 fn:=λ_ _ e=>.inl e
 keep:=λ_ _ e _=>e
 fz:=λi d e=>by obtain⟨k,b,c⟩:=bY e;cases c;obtain⟨v,l,m⟩:=da.get b;exact⟨v,kP l,m⟩
 ow:=λi s e w=>by obtain⟨k,b,rfl⟩:=bY e;cases w
 new:=λi d a e _=>by obtain⟨k,b,c⟩:=bY e;cases c
 io:=λi a e=>by cases e
 ioi:=λi d e=>by obtain⟨k,b,c⟩:=bY e;cases c
 ap:=λi j s t a e w _ _ _ _=>by obtain⟨k,b,rfl⟩:=bY e;cases w
theorem Rel.called(R:Rel K G F σ H ρ){k:L2.St}{l:Ev}(c:Rel K ⟨H,pV σ ρ xs F H,λ_=>none⟩ F' k H' l):Sub F (xK σ ρ xs F')/\Rel K G (xK σ ρ xs F') σ H' ρ:=by
 have nl:∀{b:Ee}{o:HO},F b=some o->¬LentA σ ρ xs b:=λ{b o} e z=>by obtain⟨_,_,_,_,_,_,h,_⟩:=z.own R;rw[h]at e;cases e
 have j:Sub F (xK σ ρ xs F'):=λb o e=>by rw[vY<|nl e];exact c.sub0 _ _<|rV R _ _ e
 have m:∀{b:Ee}{o:HO},xK σ ρ xs F' b=some o->¬LentA σ ρ xs b/\F' b=some o:=λ{b o} e=>by
  by_cases z:LentA σ ρ xs b
  .rw[Vv z]at e;cases e
  .rw[vY z]at e;exact⟨z,e⟩
 have kp:∀{b:Ee}{o:HO},H b=some o->H' b=some o:=λ{b o} e=>c.keep b o e λi z=>by cases z
 refine⟨j,R.len,λb o e=>c.sub _ _ (m e).2,R.sub0.trans j,λb o e=>?_,λa o e n=>kp<|R.keep a o e n,λi d e=>?_,λi s e w=>?_,R.new,R.io,R.ioi,R.ap⟩
 .obtain⟨n,e⟩:=m e;rcases c.fn b o e with q|q
  .have q:pV σ ρ xs F H b=some o:=q;rw[qV n]at q;exact R.fn b o q
  .exact .inr (R.h0 q)
 .obtain⟨v,t,x⟩:=R.fz i d e;exact⟨v,t,x.mono j⟩
 .obtain⟨a,o,t,x,y,B⟩:=R.ow i s e w;refine⟨a,o,t,?_,kp y,B.mono j⟩;cases q:xK σ ρ xs F' a with
  |none=>rfl
  |some u =>
   obtain⟨n,q⟩:=m q;rcases c.fn a u q with z|z
   .have z:pV σ ρ xs F H a=some u:=z;rw[qV n,x]at z;cases z
   .have z:H a=none:=z;rw[y]at z;cases z
theorem Res.called(R:Rel K G F σ H ρ){c:L2.St}{j:Ev}{v:V}{r:Sl}(y:Rel K ⟨H,pV σ ρ xs F H,λ_=>none⟩ F' c H' j)(q:Res K ⟨H,pV σ ρ xs F H,λ_=>none⟩ F' H' c j v r)(hl:qJ ρ xs=true->noMut r.d=true):Res K G (xK σ ρ xs F') H' σ ρ v r:=by
 have B:∀b ys,F' b=some (.tup ys)->xK σ ρ xs F' b=some (.tup ys):=λb ys e=>by
  have n:¬LentA σ ρ xs b:=λz=>by obtain⟨_,_,o,_,_,_,_,h,w⟩:=z.own R;have m:=y.sub0 b o (by show pV σ ρ xs F H b=some o;rw[XF z];exact h);rw[e]at m;cases m;exact w
  rw[vY n];exact e
 by_cases l:qJ ρ xs=true
 .cases r with
  |fz d=>exact Da.noMut B q<|hl l
  |ow d=>obtain⟨a,o,_,_,_,w,_⟩:=q;have:=hl l;rw[show (Sl.ow d).d=d from rfl,Wv w]at this;cases this
  |io d=>exact q.elim
 .have e:xK σ ρ xs F'=F':=funext λb=>vY λz=>l<|NW z;rw[e];cases r with
  |fz d=>exact q
  |io d=>exact q.elim
  |ow d=>obtain⟨a,o,C,I,L,M,k,_⟩:=q;refine⟨a,o,C,I,L,M,R.h0 k,λi s O w z=>?_⟩;obtain⟨P,U,t,_,x,_⟩:=R.ow i s O w;rw[z]at t;cases t;have k:H a=none:=k;rw[k]at x;cases x
theorem lP{E:XK}{Q:VK}(h:lift K (eB con as) σ H Q):VU (iZ K con) [] E (vZ<|as.map<|mZ K) σ H Q:=by
 obtain⟨G,F,ρ,l,R,w,k⟩:=h;refine uJ R w λI L M xs a m b o c=>?_;obtain⟨t,da,c⟩:=uj (xs:=xs) b (λy hy=>hy) o c;rw[Z2];refine⟨_,_,t.map Sl.fz,_,gB (OI b) da,c,λv H' F' r x s' i B q=>?_⟩;obtain⟨C,R2⟩:=b.called i;have j:(qJ a xs=true->noMut r.d=true)/\l r a:=by
  split at q
  .rename_i e;exact⟨λz=>(by rw[e]at z;cases z),q⟩
  .exact⟨λ_=>q.1,q.2⟩
 exact k v H' _ r a (m.trans C) R2 (Res.called b i B j.1) j.2
end
section
variable {K:Fg}{G:Gh}{F F':Hp}{σ:L2.St}{ρ:Ev}{xs:List TF}
noncomputable def H_(a:Ee):Nat->Jn Ee:=λj=>if j=0 then some a else none
theorem zq(h:H_ a j=some b):j=0/\b=a:=by
 unfold H_ at h;split at h
 .rename_i z;cases h;exact⟨z,rfl⟩
 .cases h
theorem Xv{o:HO}(s:Sub F H)(q:F a=none)(x:H a=some o)(y:Own1 K F o d)(da:DaAll K F vs ds):Rel K ⟨H,F,H_ a⟩ F ((V.ref a::vs).map some) H ((Sl.io d::ds.map Sl.fz).map some) where
 len:=by simp[da.length]
 sub:=s
 sub0:=Sub.refl _
 fn:=λ_ _ e=>.inl e
 keep:=λ_ _ e _=>e
 fz:=λi l e=>by
  cases i with
  |zero=>simp at e
  |succ i =>
   have e:((ds.map Sl.fz).map some)[i]?=some (some<|Sl.fz l):=by simpa using e
   obtain⟨m,c,k⟩:=bY e;cases k;obtain⟨v,B,g2⟩:=da.get c;exact⟨v,by simpa using B,g2⟩
 ow:=λi s e w=>by
  cases i with
  |zero=>simp at e;subst e;exact⟨a,o,by simp,q,x,y⟩
  |succ i =>
   have e:((ds.map Sl.fz).map some)[i]?=some (some s):=by simpa using e
   obtain⟨m,c,rfl⟩:=bY e;cases w
 new:=λi l b e _=>by
  cases i with
  |zero=>simp at e
  |succ i =>
   have e:((ds.map Sl.fz).map some)[i]?=some (some<|Sl.ow l):=by simpa using e
   obtain⟨m,c,k⟩:=bY e;cases k
 io:=λi b e=>by obtain⟨rfl,rfl⟩:=zq e;exact⟨d,by simp,by simp⟩
 ioi:=λi l e=>by
  cases i with
  |zero=>exact⟨a,rfl⟩
  |succ i =>
   have e:((ds.map Sl.fz).map some)[i]?=some (some<|Sl.io l):=by simpa using e
   obtain⟨m,c,k⟩:=bY e;cases k
 ap:=λi j s t b c C k I _ _=>by
  have f:∀{i:Nat}{s:Sl},((Sl.io d::ds.map Sl.fz).map some)[i]?=some (some s)->WZ s=true->i=0:=λ{i s} e w=>by
   cases i with
   |zero=>rfl
   |succ i =>
    have e:((ds.map Sl.fz).map some)[i]?=some (some s):=by simpa using e
    obtain⟨m,c,rfl⟩:=bY e;cases w
  rw[f c C,f k I]
theorem Rel.calledI(R:Rel K G F σ H ρ){i:Nat}{s:Sl}{a:Ee}{B:D}{L:L2.St}{M:Ev}(e:ρ[i]?=some (some s))(w:WZ s=true)(C:σ[i]?=some (some<|V.ref a))(m:Rel K ⟨H,F,H_ a⟩ F' (some (V.ref a)::L) H' (some (Sl.io B)::M)):Rel K G F' σ H' (ρ.set i<|some<|s.put B):=by
 obtain⟨a0,o0,g1,g2,g3,g4⟩:=R.ow i s e w;rw[C]at g1;cases g1;have O:Sub F F':=m.sub0;have hl:=wJ e;have kp:∀{b:Ee}{o:HO},b≠a->H b=some o->H' b=some o:=λ{b o} n q=>m.keep b o q λj z=>n (zq z).2;have P:∀{j:Nat}{t:Sl},j≠i->ρ[j]?=some (some t)->WZ t=true->∃b o,σ[j]?=some (some<|V.ref b)/\F' b=none/\H' b=some o/\Own1 K F' o t.d:=λ{j t} n q x=>by
  obtain⟨b,o,q1,q2,q3,q4⟩:=R.ow j t q x;have nb:b≠a:=λz=>n<|R.ap j i t s a q x e w (by rw[q1,z]) C;refine⟨b,o,q1,?_,kp nb q3,q4.mono O⟩;cases z:F' b with
  |none=>rfl
  |some u =>
   rcases m.fn b u z with y|y
   .have y:F b=some u:=y;rw[q2]at y;cases y
   .have y:H b=none:=y;rw[q3]at y;cases y
 refine⟨by rw[A6];exact R.len,m.sub,R.sub0.trans O,λb o q=>?_,λb o q n=>?_,λj d q=>?_,λj t q x=>?_,λj d b q eb=>?_,λj b q=>?_,λj d q=>?_,λj k t u b e1 w1 e2 w2 e3 e4=>?_⟩
 .rcases m.fn b o q with y|y
  .exact R.fn b o y
  .exact .inr (R.h0 y)
 .refine kp (λz=>?_) (R.keep b o q n);subst z;cases s with
  |fz d=>cases w
  |ow d=>rw[R.new i d b e C]at q;cases q
  |io d=>obtain⟨a',y⟩:=R.ioi i d e;obtain⟨_,_,c⟩:=R.io i a' y;rw[C]at c;cases c;exact n i y
 .rcases sZ q with⟨rfl,z⟩|⟨n,z⟩
  .cases s<;>simp[Sl.put,WZ]at z w
  .obtain⟨v,l,c⟩:=R.fz j d z;exact⟨v,l,c.mono O⟩
 .rcases sZ q with⟨rfl,z⟩|⟨n,z⟩
  .cases z;obtain⟨b,o,l,c,y3,y4⟩:=m.ow 0 (.io B) (by simp) rfl;simp at l;subst l;exact⟨a,o,C,c,y3,by cases s<;>first|exact y4|cases w⟩
  .exact P n z x
 .rcases sZ q with⟨rfl,z⟩|⟨n,z⟩
  .cases s with
   |fz d=>cases w
   |ow I=>exact R.new j I b e eb
   |io I=>cases z
  .exact R.new j d b z eb
 .obtain⟨d,l,c⟩:=R.io j b q;by_cases z:j=i
  .subst z;rw[e]at l;cases l;exact⟨B,by rw[UK hl];rfl,c⟩
  .exact⟨d,by rw[P1<|G3 z];exact l,c⟩
 .rcases sZ q with⟨rfl,z⟩|⟨n,z⟩
  .cases s with
   |fz d=>cases w
   |ow I=>cases z
   |io I=>exact R.ioi j I e
  .exact R.ioi j d z
 .have f:∀(j:Nat) (t:Sl),(ρ.set i<|some<|s.put B)[j]?=some (some t)->WZ t=true->∃t',ρ[j]?=some (some t')/\WZ t'=true:=λj t q x=>by
   rcases sZ q with⟨rfl,z⟩|⟨n,z⟩
   .exact⟨s,e,w⟩
   .exact⟨t,z,x⟩
  obtain⟨t',U,Y⟩:=f j t e1 w1;obtain⟨u',Z,w2'⟩:=f k u e2 w2;exact R.ap j k t' u' b U Y Z w2' e3 e4
theorem rJ(R:Rel K G F σ H ρ){ys:List TF}{c:List V}{k:List D->Prop}(m:qJ ρ ys=false)(o:OpdsAt K F σ c ys)(h:UZ ρ ys k):∃b,DaAll K F c b/\k b:=by
 induction o generalizing k with
 |nil=>exact⟨[],.nil,h⟩
 |@cons v x c ys o t l =>
  cases x with
  |inr d=>obtain⟨b,a,q⟩:=l (k:=λb=>k (d::b)) m h;exact⟨d::b,.cons o a,q⟩
  |inl i =>
   unfold UZ at h;unfold qJ at m;simp only[Bool.or_eq_false_iff]at m;split at h
   .rename_i s e;obtain⟨b,a,q⟩:=l (k:=λb=>k (s.d::b)) m.2 h;refine⟨s.d::b,.cons ?_ a,q⟩;have j:=m.1;rw[e]at j;cases s with
    |fz d=>obtain⟨B,w,y⟩:=R.fz i d e;have o:σ[i]?=some (some v):=o;rw[o]at w;cases w;exact y
    |ow d=>cases j
    |io d=>cases j
   .exact h.elim
theorem QI{E:XK}{Q:VK}(h:lift K (WF con i as) σ H Q):VU (iZ K con) [] E (vZ<|(.inl i::as).map<|mZ K) σ H Q:=by
 obtain⟨G,F,ρ,U,R,w,k⟩:=h;unfold WF MJ at w;split at w
 .rename_i s0 Y;obtain⟨v,B⟩:=R.bound Y;refine⟨v,B,uJ R w λZ L F1 xs m s1 l o c=>?_⟩;show iZ K con (v::Z++[]) L Q E;rw[Z2];have c:fB con i xs m U:=c;unfold fB at c;split at c
  .rename_i s e;split at c
   .rename_i C p2;obtain⟨a,o',M,g2,g3,g4⟩:=l.ow i s e C;rw[B]at M;cases M;obtain⟨ds,da,c⟩:=rJ l p2 o c;refine⟨_,F1,.io s.d::ds.map Sl.fz,_,Xv l.sub g2 g3 g4 da,c,λv H' F' r ρ' s' R' I q=>?_⟩;split at q
    .rename_i d' ρ2;have R2:=l.calledI e C B R';refine k v H' F' r _ (s1.trans s') R2 ?_ q;cases r with
     |fz d=>exact I
     |io d=>exact I.elim
     |ow d =>
      obtain⟨b,u,h1,h2,h3,h4,x,_⟩:=I;have x:L b=none:=x;refine⟨b,u,h1,h2,h3,h4,l.h0 x,λj t es w z=>?_⟩;have own:∃t',m[j]?=some (some t')/\WZ t'=true:=by
       rcases sZ es with⟨rfl,y⟩|⟨n,y⟩
       .exact⟨s,e,C⟩
       .exact⟨t,y,w⟩
      obtain⟨t',y1,y2⟩:=own;obtain⟨a',o',O,_,P,_⟩:=l.ow j t' y1 y2;rw[z]at O;cases O;rw[x]at P;cases P
    .exact q.elim
   .exact c.elim
  .exact c.elim
 .exact w.elim
noncomputable def cU(n:Nat)(a:List Sl):Ev:=a.map some++B1 (n-a.length) none
noncomputable def outs:List Sl->Ev->Ev
 |[],_=>[]
 | .io _::as,ρ=>(ρ.headD none)::outs as ρ.tail
 | .fz d::as,ρ=>some (.fz d)::outs as ρ.tail
 | .ow d::as,ρ=>some (.ow d)::outs as ρ.tail
theorem gK{l:List (Jn α)}{i:Nat}{x:α}(h:(l++B1 n none)[i]?=some (some x)):l[i]?=some (some x):=by
 by_cases z:i<l.length
 .rw[A3 z]at h;exact h
 .rw[S2<|A1 z,QQ]at h;split at h<;>cases h
theorem sV{l m:List α}{i:Nat}{x:α}(h:l[i]?=some x):(l++m)[i]?=some x:=by rw[A3<|wJ h];exact h
theorem Rel.start(R:Rel K G F (vs.map some) H (args.map some)):Rel K G F (L2.start N vs) H (cU N.length args) where
 len:=by have:=R.len;simp[L2.start,cU]at this ⊢;lia
 sub:=R.sub
 sub0:=R.sub0
 fn:=R.fn
 keep:=R.keep
 fz:=λi d e=>by obtain⟨v,b,c⟩:=R.fz i d<|gK e;exact⟨v,sV b,c⟩
 ow:=λi s e w=>by obtain⟨a,o,b,c⟩:=R.ow i s (gK e) w;exact⟨a,o,sV b,c⟩
 new:=λi d a e k=>R.new i d a (gK e) (gK k)
 io:=λi a e=>by obtain⟨d,b,c⟩:=R.io i a e;exact⟨d,sV b,sV c⟩
 ioi:=λi d e=>R.ioi i d (gK e)
 ap:=λi j s t a l m q x y B=>R.ap i j s t a (gK l) m (gK q) x (gK y)<|gK B
theorem iY:∀{b:List Sl}{ρ:Ev}{i:Nat}{s:Sl},(outs b ρ)[i]?=some (some s)->(∃d,b[i]?=some (.io d)/\ρ[i]?=some (some s))\/(b[i]?=some s/\∀d,s≠.io d)
 |[],ρ,i,s,h=>by simp[outs]at h
 | .io d::as,ρ,0,s,h=>by
  simp[outs]at h;cases ρ with
  |nil=>simp at h
  |cons x ρ=>simp at h;exact .inl ⟨d,by simp,by simp[h]⟩
 | .fz d::as,ρ,0,s,h=>by simp[outs]at h;subst h;exact .inr ⟨by simp,λd z=>by cases z⟩
 | .ow d::as,ρ,0,s,h=>by simp[outs]at h;subst h;exact .inr ⟨by simp,λd z=>by cases z⟩
 | .io d::as,ρ,i+1,s,h=>by
  simp only[outs,T6]at h;rcases iY h with⟨d,c,a⟩|⟨c,a⟩
  .exact .inl ⟨d,by simpa using c,by cases ρ with|nil=>simp at a|cons x ρ=>simpa using a⟩
  .exact .inr ⟨by simpa using c,a⟩
 | .fz d::as,ρ,i+1,s,h=>by
  simp only[outs,T6]at h;rcases iY h with⟨d,c,a⟩|⟨c,a⟩
  .exact .inl ⟨d,by simpa using c,by cases ρ with|nil=>simp at a|cons x ρ=>simpa using a⟩
  .exact .inr ⟨by simpa using c,a⟩
 | .ow d::as,ρ,i+1,s,h=>by
  simp only[outs,T6]at h;rcases iY h with⟨d,c,a⟩|⟨c,a⟩
  .exact .inl ⟨d,by simpa using c,by cases ρ with|nil=>simp at a|cons x ρ=>simpa using a⟩
  .exact .inr ⟨by simpa using c,a⟩
theorem Ak:∀{args:List Sl}{ρ:Ev}{i:Nat}{d:D}{x:Jn Sl},args[i]?=some (.io d)->ρ[i]?=some x->(outs args ρ)[i]?=some x
 |[],_,_,_,_,h,_=>by simp at h
 |_::_,[],_,_,_,_,h=>by simp at h
 |s::as,y::ρ,0,d,x,h,h'=>by simp at h h';subst h h';simp[outs]
 |s::as,y::ρ,i+1,d,x,h,h'=>by have:=Ak (args:=as) (ρ:=ρ) (i:=i) (by simpa using h) (by simpa using h');cases s<;>simpa [outs]using this
theorem Aq:∀(a:List Sl) (ρ:Ev),(outs a ρ).length=a.length
 |[],_=>rfl
 |s::as,ρ=>by cases s<;>simp[outs,Aq as]
theorem iB{a:List Sl}{i:Nat}{s:Sl}(h:(a.map some)[i]?=some (some s)):a[i]?=some s:=by
 rw[S1]at h;cases e:a[i]? with
 |none=>rw[e]at h;cases h
 |some x=>rw[e]at h;cases h;rfl
theorem tV{a:List Sl}{i:Nat}{s:Sl}(h:a[i]?=some s):(a.map some)[i]?=some (some s):=by rw[S1,h];rfl
theorem Rel.ret{C:List V}(Y:∀s∈k,∀d,s≠.ow d)(R:Rel K G F (C.map some) H (k.map some))(Z:Sub F F')(x:Rel K G F' σ' H' ρ'):Rel K G F' (C.map some) H' (outs k ρ'):=by
 have own:∀{i:Nat}{s:Sl},(outs k ρ')[i]?=some (some s)->WZ s=true->∃d a,k[i]?=some (.io d)/\ρ'[i]?=some (some s)/\G.io i=some a/\(C.map some)[i]?=some (some<|V.ref a)/\σ'[i]?=some (some<|V.ref a):=λ{i s} e w=>by
  rcases iY e with⟨d,m,c⟩|⟨m,c⟩
  .obtain⟨a,q⟩:=R.ioi i d<|tV m;obtain⟨_,_,l⟩:=R.io i a q;obtain⟨_,_,y⟩:=x.io i a q;exact⟨d,a,m,c,q,l,y⟩
  .cases s with
   |fz d=>cases w
   |ow d=>exact(Y _ (O3 m) d rfl).elim
   |io d=>exact(c d rfl).elim
 refine⟨by rw[Aq];simpa using R.len,x.sub,x.sub0,x.fn,x.keep,λi d e=>?_,λi s e w=>?_,λi d a e I=>?_,λi a e=>?_,λi d e=>?_,λi j s t a e1 L e2 M O P=>?_⟩
 .rcases iY e with⟨B,m,c⟩|⟨m,c⟩
  .obtain⟨a,q⟩:=R.ioi i B<|tV m;obtain⟨d2,l,_⟩:=x.io i a q;rw[c]at l;cases l
  .obtain⟨v,q,l⟩:=R.fz i d<|tV m;exact⟨v,q,l.mono Z⟩
 .obtain⟨d,a,m,c,q,l,y⟩:=own e w;obtain⟨b,o,U,g2⟩:=x.ow i s c w;rw[y]at U;cases U;exact⟨a,o,l,g2⟩
 .obtain⟨B,b,m,c,q,l,y⟩:=own e rfl;rw[l]at I;cases I;exact x.new i d _ c y
 .obtain⟨d,m,c⟩:=R.io i a e;obtain⟨B,q,l⟩:=x.io i a e;exact⟨B,Ak (iB m) q,c⟩
 .obtain⟨B,a,m,c,q,l,y⟩:=own e rfl;exact⟨a,q⟩
 .obtain⟨_,a1,_,c,_,l,y⟩:=own e1 L;obtain⟨_,a2,_,g2,_,g4,g5⟩:=own e2 M;rw[l]at O;cases O;rw[g4]at P;cases P;exact x.ap i j s t a c L g2 M y g5
theorem Res.ret{k:List V}{r:Sl}(m:∀s∈c,∀d,s≠.ow d)(R:Rel K G F (k.map some) H (c.map some))(t:Rel K G F' σ' H' ρ')(q:Res K G F' H' σ' ρ' v r):Res K G F' H' (k.map some) (outs c ρ') v r:=by
 cases r with
 |fz d=>exact q
 |io d=>exact q.elim
 |ow d =>
  obtain⟨a,o,x,y,B,C,I,L⟩:=q;refine⟨a,o,x,y,B,C,I,λi s e w z=>?_⟩;rcases iY e with⟨M,j,g2⟩|⟨j,g2⟩
  .obtain⟨b,l⟩:=R.ioi i M<|tV j;obtain⟨_,_,O⟩:=R.io i b l;obtain⟨_,_,P⟩:=t.io i b l;rw[O]at z;cases z;exact L i s g2 w P
  .cases s with
   |fz d=>cases w
   |ow d=>exact(m _ (O3 j) d rfl).elim
   |io d=>exact(g2 d rfl).elim
noncomputable def YF(a:List Sl)(b:Sl->Ev->Prop):DE:={nx:=λρ=>b (.fz .none) (outs a ρ),rt:=λr ρ=>b r (outs a ρ),bk:=λ_=>Ln,ct:=λ_=>Ln}
theorem xT{Q:VK}{E:XK}(l:∀a b,con a b->(∀s∈a,∀d,s≠.ow d)/\ts (YF a b) (cU N.length a))(h:iZ K con vs H Q E):qZ K ts {nx:=λ_ H'=>Q .non H',rt:=Q} (L2.start N vs) H:=by
 obtain⟨G,F,a,b,R,w,k⟩:=h;obtain⟨e,w⟩:=l a b w;refine⟨G,F,_,_,R.start,w,λi H' F' j s c q=>?_,λv i H' F' r j s c m q=>?_,λ_ _ _ _ _ _ q=>q.elim,λ_ _ _ _ _ _ q=>q.elim⟩
 .exact k .non H' F' (.fz .none) _ s (R.ret e s c) Da.non q
 .exact k v H' F' r _ s (R.ret e s c) (m.ret e R c) q
end
section
variable {K:Fg}{F:Hp}{v:V}
theorem At.int(h:At K F H v (.int i)):v=.int i:=by
 rcases h with h|⟨a,o,rfl,_,_,h⟩
 .cases h;rfl
 .cases o<;>exact h.elim
theorem At.bool(h:At K F H v (.bool b)):v=.bl b:=by
 rcases h with h|⟨a,o,rfl,_,_,h⟩
 .cases h;rfl
 .cases o<;>exact h.elim
theorem At.str(h:At K F H v (.str x)):v=.str x:=by
 rcases h with h|⟨a,o,rfl,_,_,h⟩
 .cases h;rfl
 .cases o<;>exact h.elim
theorem At.none(h:At K F H v .none):v=.non:=by
 rcases h with h|⟨a,o,rfl,_,_,h⟩
 .cases h;rfl
 .cases o<;>exact h.elim
theorem At.list{b:List D}(s:Sub F H)(h:At K F H v (.list b)):∃a xs,v=.ref a/\H a=some (.lst xs)/\DaAll K F xs b:=by
 rcases h with h|⟨a,o,rfl,_,e,h⟩
 .cases h with
  |lst e t=>exact⟨_,_,rfl,s _ _ e,t⟩
 .cases o<;>first|exact h.elim|exact⟨_,_,rfl,e,h⟩
theorem At.tuple{b:List D}(s:Sub F H)(h:At K F H v (.tuple b)):∃a xs,v=.ref a/\F a=some (.tup xs)/\H a=some (.tup xs)/\DaAll K F xs b:=by
 rcases h with h|⟨a,o,rfl,_,e,h⟩
 .cases h with
  |tup e t=>exact⟨_,_,rfl,e,s _ _ e,t⟩
 .cases o<;>exact h.elim
theorem Bk(k:VZ):YV k≠.none:=by cases k<;>(intro z;cases z)
theorem Da.scr_inv(h:Da K F v d)(e:d=JJ ns):∃a,v=.ref a/\SqL K F a (ns.map V.int):=by
 cases h with
 |non=>cases e
 |bl _=>cases e
 |int _=>cases e
 |str _=>cases e
 |lst _ _=>cases e
 |tup _ _=>cases e
 |dk _ t =>
  cases t with
  |nil=>injection e with e;cases e
  |cons _ _=>injection e with e;injection e with e _;injection e with e _;exact(Bk _ e).elim
 |dt _ t =>
  cases t with
  |nil=>injection e with e;cases e
  |cons _ _=>injection e with e;injection e with e _;injection e with e _;cases e
 |@scr _ i q =>
  injection e with e;injection e with e _;injection e with _ e;injection e with e2;have:∀(l m:Qn),l.map q0=m.map q0->l=m:=by
   intro l;induction l with
   |nil=>intro m e;cases m with|nil=>rfl|cons=>simp at e
   |cons a l c=>intro m e;cases m with|nil=>simp at e|cons b m=>simp at e;rw[e.1,c m e.2]
  rw[<-this _ _ e2];exact⟨_,rfl,q⟩
 |_=>cases e
theorem At.scr(s:Sub F H)(h:At K F H v (JJ ns)):∃a,v=.ref a/\SqL K H a (ns.map V.int):=by
 rcases h with h|⟨a,o,rfl,_,e,h⟩
 .obtain⟨a,c,d⟩:=h.scr_inv rfl;exact⟨a,c,s.sql d⟩
 .exfalso;cases o<;>first|exact h.elim|skip
  .rename_i b;have h:DaKV K F b [(.none,.list<|ns.map q0)]:=h;generalize q:[(PyData.none,Y2<|ns.map q0)]=es at h;cases h with
   |nil=>cases q
   |cons _ _=>injection q with q _;injection q with q _;exact Bk _ q.symm
  .rename_i b;have h:DaKT K F b [(.none,.list<|ns.map q0)]:=h;cases h
theorem AtAll.one(h:AtAll K F H vs [d]):∃v,vs=[v]/\At K F H v d:=by cases h with|cons a t=>cases t;exact⟨_,rfl,a⟩
theorem AtAll.two(h:AtAll K F H vs [d,e]):∃v u,vs=[v,u]/\At K F H v d/\At K F H u e:=by cases h with|cons a t=>cases t with|cons b t=>cases t;exact⟨_,_,rfl,a,b⟩
end
def dU(r:R2):List V->Hp->VK->Prop:=λa H Q=>∃x y,a=[x,y]/\r x y H Q
def yc(r:V->Hp->VK->Prop):List V->Hp->VK->Prop:=λa H Q=>∃x,a=[x]/\r x H Q
theorem Yv{K:Fg}{r:R2}{f:D->D->(Sl->Prop)->Prop}(h:∀(G:Gh) (F:Hp) (σ:L2.St) (H:Hp) (b:Ev) (x y:V) (d e:D) (Q:VK) (c:Sl->Prop),Rel K G F σ H b->At K F H x d->At K F H y e->f d e c ->(∀v H' i s,Sub F i->Rel K G i σ H' b->Res K G i H' σ b v s->c s->Q v H')->r x y H Q):RZ K (dU r) (o2 f):=by
 intro G F σ H b q j Q c R a w k;match j,a,w with
 |[d,e],a,w=>obtain⟨v,u,rfl,l,m⟩:=a.two;exact⟨v,u,rfl,h G F σ H b v u d e Q c R l m w k⟩
theorem Bq{K:Fg}{r:List V->Hp->VK->Prop}{f:D->(Sl->Prop)->Prop}(h:∀(G:Gh) (F:Hp) (σ:L2.St) (H:Hp) (b:Ev) (x:V) (d:D) (Q:VK) (c:Sl->Prop),Rel K G F σ H b->At K F H x d->f d c ->(∀v H' e s,Sub F e->Rel K G e σ H' b->Res K G e H' σ b v s->c s->Q v H')->r [x] H Q):RZ K r (o1 f):=by
 intro G F σ H b l i Q c R a w k;match i,a,w with
 |[d],a,w=>obtain⟨v,rfl,j⟩:=a.one;exact h G F σ H b v d Q c R j w k
noncomputable def fI(C:Int->Int->Prop)(g:Int->Int->D):D->D->(Sl->Prop)->Prop
 | .int i,.int j,Q=>C i j/\Q (.fz<|g i j)
 |_,_,_=>Ln
noncomputable def JE(g:Int->Int->D):D->D->(Sl->Prop)->Prop
 | .int i,.int j,Q=>Q<|.fz<|g i j
 |_,_,_=>Ln
theorem mP{K:Fg}{g:Int->Int->V}(a:∀F i j,Da K F (g i j)<|b i j):RZ K (dU<|rI C g) (o2<|fI C b):=Yv λG F σ H m x y d e Q q R c l w k=>by
 cases d<;>first|exact w.elim|skip
 cases e<;>first|exact w.elim|skip
 case int.int i j=>cases c.int;cases l.int;exact⟨i,j,rfl,rfl,w.1,k _ H F (.fz _) (Sub.refl _) R (a F i j) w.2⟩
theorem Cq{K:Fg}{g:Int->Int->V}(a:∀F i j,Da K F (g i j)<|b i j):RZ K (dU<|AU g) (o2<|JE b):=Yv λG F σ H m x y d e Q q R c l w k=>by
 cases d<;>first|exact w.elim|skip
 cases e<;>first|exact w.elim|skip
 case int.int i j=>cases c.int;cases l.int;exact⟨i,j,rfl,rfl,k _ H F (.fz _) (Sub.refl _) R (a F i j) w⟩
def uV(r a:R2):R2:=λx y H Q=>r x y H Q\/a x y H Q
def jB:R2:=λx y H Q=>∃(a b:Ee) (c ys:List V),x=.ref a/\y=.ref b/\H a=some (.tup c)/\H b=some (.tup ys)/\c.length+ys.length<=sizeLine /\
 (c=[]->Q (.ref b) H)/\(c≠[]->ys=[]->Q (.ref a) H)/\(c≠[]->ys≠[]->∀p,H p=none->Q (.ref p) (bJ H p<|.tup<|c++ys))
noncomputable def RI:D->D->(Sl->Prop)->Prop
 | .int i,.int j,Q=>Q<|.fz<|.int<|i+j
 | .tuple a,.tuple ys,Q=>a.length+ys.length<=sizeLine/\Q (.fz<|.tuple<|a++ys)
 | .list a,.list ys,Q=>a.length+ys.length<=sizeLine/\Q (.ow<|.list<|a++ys)
 |_,_,_=>Ln
theorem DaAll.nil_of{K:Fg}(h:DaAll K F [] ds):ds=[]:=by cases h;rfl
theorem nP{K:Fg}:RZ K (dU<|uV (AU λi j=>.int<|i+j)<|uV jB CO) (o2 RI):=Yv λG F σ H Z x y d e Q Qd R q t w k=>by
 cases d<;>first|exact w.elim|(cases e<;>first|exact w.elim|skip)
 case int.int i j=>cases q.int;cases t.int;exact .inl ⟨i,j,rfl,rfl,k _ H F (.fz _) (Sub.refl _) R (Da.int _) w⟩
 case tuple.tuple L ys =>
  obtain⟨a,us,rfl,M,v,c⟩:=q.tuple R.sub;obtain⟨b,m,rfl,O,B,l⟩:=t.tuple R.sub;refine .inr<|.inl ⟨a,b,us,m,rfl,rfl,v,B,by rw[c.length,l.length];exact w.1,λz=>?_,λ_ z=>?_,λ_ _ p C=>?_⟩
  .subst z;have:=c.nil_of;subst this;exact k _ H F (.fz _) (Sub.refl _) R (Da.tup O l) w.2
  .subst z;have:=l.nil_of;subst this;refine k _ H F (.fz _) (Sub.refl _) R (Da.tup M c) ?_;have:=w.2;rw[Z2]at this;exact this
  .obtain⟨P,I,U⟩:=R.newTup C<|c.append l;exact k _ _ _ (.fz _) P I U w.2
 case list.list L ys=>obtain⟨a,us,rfl,v,c⟩:=q.list R.sub;obtain⟨b,m,rfl,B,l⟩:=t.list R.sub;refine .inr<|.inr ⟨a,b,us,m,rfl,rfl,v,B,by rw[c.length,l.length];exact w.1,λp C=>?_⟩;obtain⟨I,Y⟩:=R.newOw (o:=.lst<|us++m) (d:=.list<|L++ys) C<|c.append l;exact k _ _ F _ (Sub.refl _) I Y w.2
noncomputable def yT:D->D->(Sl->Prop)->Prop
 | .int i,.int j,Q=>CMul i j/\Q (.fz<|.int<|i*j)
 | .list a,.int k,Q=>-(2 ^ 63)<=k/\k<2 ^ 63/\a.length*k.toNat<=sizeLine/\Q (.ow<|.list (B1 k.toNat a).flatten)
 |_,_,_=>Ln
theorem oP{K:Fg}:RZ K (dU<|uV (rI CMul λi j=>.int<|i*j) EO) (o2 yT):=Yv λG F σ H C x y d e Q I R b c w k=>by
 cases d<;>first|exact w.elim|(cases e<;>first|exact w.elim|skip)
 case int.int i j=>cases b.int;cases c.int;exact .inl ⟨i,j,rfl,rfl,w.1,k _ H F (.fz _) (Sub.refl _) R (Da.int _) w.2⟩
 case list.int m j=>cases c.int;obtain⟨a,us,rfl,q,l⟩:=b.list R.sub;refine .inr ⟨a,j,us,rfl,rfl,q,w.1,w.2.1,by rw[l.length];exact w.2.2.1,λp t=>?_⟩;obtain⟨v,B⟩:=R.newOw (o:=.lst (B1 j.toNat us).flatten) (d:=.list (B1 j.toNat m).flatten) t<|l.rep _;exact k _ _ F _ (Sub.refl _) v B w.2.2.2
noncomputable def AT:D->(Sl->Prop)->Prop
 | .list a,Q=>Q<|.fz<|.int a.length
 | .tuple a,Q=>Q<|.fz<|.int a.length
 | .dict [(.none,.list a)],Q=>∃ns:Qn,a=ns.map q0/\Q (.fz<|.int ns.length)
 |_,_=>Ln
theorem pP{K:Fg}:RZ K (mT K) (o1 AT):=Bq λG F σ H l x d Q m R b w k=>by
 cases d<;>first|exact w.elim|skip
 case list i=>obtain⟨a,us,rfl,e1,d1⟩:=b.list R.sub;exact⟨a,us,rfl,.inl<|SqL.of e1,k _ H F (.fz _) (Sub.refl _) R (Da.int _)<|by rw[d1.length];exact w⟩
 case tuple i=>obtain⟨a,us,rfl,_,e1,d1⟩:=b.tuple R.sub;exact⟨a,us,rfl,.inr<|SqT.of e1,k _ H F (.fz _) (Sub.refl _) R (Da.int _)<|by rw[d1.length];exact w⟩
 case dict j =>
  rcases j with _|⟨⟨c,e⟩,_|⟨t,v⟩⟩
  .exact w.elim
  .cases c<;>first|exact w.elim|skip
   cases e<;>first|exact w.elim|skip
   obtain⟨ns,rfl,w⟩:=w;obtain⟨a,rfl,q⟩:=b.scr R.sub;exact⟨a,_,rfl,.inl q,k _ H F (.fz _) (Sub.refl _) R (Da.int _)<|by rw[g0];exact w⟩
  .cases c<;>first|exact w.elim|(cases e<;>exact w.elim)
noncomputable def Ma:D->D->(Sl->Prop)->Prop
 | .list a,.int i,Q=>∃d,lV a i=some d/\Q (.fz d)
 | .tuple a,.int i,Q=>∃d,lV a i=some d/\Q (.fz d)
 | .dict [(.none,.list a)],.int i,Q=>∃(ns:Qn) (n:Int),a=ns.map q0/\lV ns i=some n/\Q (.fz<|.int n)
 |_,_,_=>Ln
theorem DaAll.at{K:Fg}(h:DaAll K F xs ds)(e:lV ds i=some d):∃v,lV xs i=some v/\Da K F v d:=by
 unfold lV at e ⊢;rw[h.length];cases q:Sz ds.length i with
 |none=>rw[q]at e;cases e
 |some j=>rw[q]at e;exact h.get e
theorem Ck(f:α->β){l:List α}{i:Int}{x:α}(h:lV l i=some x):lV (l.map f) i=some (f x):=by
 unfold lV at h ⊢;rw[g0];cases q:Sz l.length i with
 |none=>rw[q]at h;cases h
 |some j=>rw[q]at h;simp at h ⊢;exact⟨x,h,rfl⟩
theorem CT{K:Fg}:RZ K (dU<|uV (mI K)<|vv K) (o2 Ma):=Yv λG F σ H O x y d e Q P R j l w k=>by
 cases d<;>first|exact w.elim|skip
 case list L =>
  cases e<;>first|exact w.elim|skip
  rename_i i;obtain⟨d,b,c⟩:=w;cases l.int;obtain⟨a,us,rfl,m,t⟩:=j.list R.sub;obtain⟨v,B,g2⟩:=t.at b;exact .inl ⟨a,us,i,v,rfl,rfl,SqL.of m,B,k _ H F (.fz _) (Sub.refl _) R g2 c⟩
 case tuple L =>
  cases e<;>first|exact w.elim|skip
  rename_i i;obtain⟨d,b,c⟩:=w;cases l.int;obtain⟨a,us,rfl,_,m,t⟩:=j.tuple R.sub;obtain⟨v,B,g2⟩:=t.at b;exact .inr ⟨a,us,i,v,rfl,rfl,SqT.of m,B,k _ H F (.fz _) (Sub.refl _) R g2 c⟩
 case dict M =>
  rcases M with _|⟨⟨C,I⟩,_|⟨U,Y⟩⟩
  .exact w.elim
  .cases C<;>first|exact w.elim|skip
   cases I<;>first|exact w.elim|skip
   cases e<;>first|exact w.elim|skip
   rename_i i;obtain⟨ns,n,e,b,c⟩:=w;subst e;cases l.int;obtain⟨a,rfl,q⟩:=j.scr R.sub;exact .inl ⟨a,_,i,_,rfl,rfl,q,Ck V.int b,k _ H F (.fz _) (Sub.refl _) R (Da.int _) c⟩
  .cases C<;>first|exact w.elim|(cases I<;>exact w.elim)
noncomputable def DT:D->(Sl->Prop)->Prop
 | .list a,Q=>Q<|.ow<|.list a
 | .tuple a,Q=>Q<|.ow<|.list a
 |_,_=>Ln
theorem vV{K:Fg}:RZ K (zk K) (o1 DT):=Bq λG F σ H m x d Q q R l w k=>by
 cases d<;>first|exact w.elim|skip
 case list b=>obtain⟨a,us,rfl,c,d1⟩:=l.list R.sub;refine⟨a,us,rfl,.inl<|SqL.of c,λp e=>?_⟩;obtain⟨i,j⟩:=R.newOw (o:=.lst us) (d:=.list b) e d1;exact k _ _ F _ (Sub.refl _) i j w
 case tuple b=>obtain⟨a,us,rfl,_,c,d1⟩:=l.tuple R.sub;refine⟨a,us,rfl,.inr<|SqT.of c,λp e=>?_⟩;obtain⟨i,j⟩:=R.newOw (o:=.lst us) (d:=.list b) e d1;exact k _ _ F _ (Sub.refl _) i j w
noncomputable def lB:D->(Sl->Prop)->Prop
 | .list a,Q=>Q<|.fz<|.tuple a
 | .tuple a,Q=>Q<|.fz<|.tuple a
 |_,_=>Ln
theorem mB{K:Fg}:RZ K (kq K) (o1 lB):=Bq λG F σ H m x d Q q R b w k=>by
 cases d<;>first|exact w.elim|skip
 case list c=>obtain⟨a,us,rfl,e1,d1⟩:=b.list R.sub;refine⟨a,us,rfl,.inl ⟨SqL.of e1,λp e=>?_⟩⟩;obtain⟨i,j,l⟩:=R.newTup e d1;exact k _ _ _ (.fz _) i j l w
 case tuple c=>obtain⟨a,us,rfl,f1,e1,d1⟩:=b.tuple R.sub;exact⟨a,us,rfl,.inr ⟨SqT.of e1,k _ H F (.fz _) (Sub.refl _) R (Da.tup f1 d1) w⟩⟩
noncomputable def Na:D->(Sl->Prop)->Prop
 | .list a,Q=>∃bs:List Bool,a=bs.map W5/\Q (.fz<|.bool<|bs.all id)
 |_,_=>Ln
theorem DaAll.bools{K:Fg}{bs:List Bool}(h:DaAll K F xs (bs.map W5)):xs=bs.map V.bl:=by
 induction bs generalizing xs with
 |nil=>cases h;rfl
 |cons b bs a=>cases h with|cons h t=>cases h;rw[a t];rfl
theorem wH{K:Fg}:RZ K (QO K) (o1 Na):=Bq λG F σ H j x d Q l R b w k=>by
 cases d<;>first|exact w.elim|skip
 rename_i m;obtain⟨bs,e,w⟩:=w;subst e;obtain⟨a,us,rfl,c,i⟩:=b.list R.sub;have:=i.bools;subst this;exact⟨a,bs,rfl,SqL.of c,k _ H F (.fz _) (Sub.refl _) R (Da.bl _) w⟩
noncomputable def zc:D->Ki
 | .none=>.non
 | .bool _=>.bl
 | .int _=>.int
 | .str _=>.str
 | .list _=>.lst
 | .tuple _=>.tup
 | .dict ((.none,_)::_)=>.lst
 | .dict _=>.dct
noncomputable def qP(T:Ki):D->(Sl->Prop)->Prop
 | .dict _,_=>Ln
 |d,Q=>Q<|.fz<|.bool<|(zc d).sub T
theorem rP{K:Fg}:RZ K (λl H Q=>∃x,l=[x]/\Hv K [x,.ty T.nm] H Q) (o1<|qP T):=Bq λG F σ H t x d Q m R c w k=>by
 have go:∀(e:Ki),KiOf K H x e->m (.fz<|.bool<|e.sub T)->∃j,[x]=[j]/\Hv K [j,.ty T.nm] H Q:=λe h w=>⟨x,rfl,x,e,T,rfl,h,k _ H F (.fz _) (Sub.refl _) R (Da.bl _) w⟩;cases d<;>first|exact w.elim|skip
 case none=>cases c.none;exact go .non rfl w
 case bool b=>cases c.bool;exact go .bl rfl w
 case int i=>cases c.int;exact go .int rfl w
 case str z=>cases c.str;exact go .str rfl w
 case list q=>obtain⟨a,us,rfl,e1,d1⟩:=c.list R.sub;exact go .lst (.inl ⟨rfl,us,SqL.of e1⟩) w
 case tuple q=>obtain⟨a,us,rfl,_,e1,d1⟩:=c.tuple R.sub;exact go .tup (.inr<|.inl ⟨rfl,us,SqT.of e1⟩) w
noncomputable def Oa:D->(Sl->Prop)->Prop
 | .int i,Q=>Q<|.fz<|.int<|if i<0 then -i else i
 |_,_=>Ln
theorem nB{K:Fg}:RZ K (λa H Q=>∃i,a=[V.int i]/\Q (V.int<|if i<0 then -i else i) H) (o1 Oa):=Bq λG F σ H c x d Q e R b w k=>by
 cases d<;>first|exact w.elim|skip
 rename_i i;cases b.int;exact⟨i,rfl,k _ H F (.fz _) (Sub.refl _) R (Da.int _) w⟩
theorem ET{K:Fg}:RZ K (λb H Q=>∃i j,b=[V.int i,V.int j]/\Q (V.int<|g i j) H) (o2<|JE λi j=>.int<|g i j):=by
 intro G F σ H t x c Q l R a w k;match c,a,w with
 |[d,e],a,w =>
  obtain⟨v,u,rfl,m,q⟩:=a.two;have w:JE (λi j=>.int<|g i j) d e l:=w;unfold JE at w;split at w
  rotate_left
  .exact w.elim
  rename_i i j w;cases m.int;cases q.int;exact⟨i,j,rfl,k _ H F (.fz _) (Sub.refl _) R (Da.int _) w⟩
noncomputable def Pa:D->(Sl->Prop)->Prop
 | .int i,Q=>Q<|.fz<|.int i
 | .bool b,Q=>Q<|.fz<|.int<|if b then 1 else 0
 |_,_=>Ln
theorem sP{K:Fg}:RZ K (λa H Q=>(∃i,a=[V.int i]/\Q (V.int i) H)\/∃k,a=[V.bl k]/\Q (V.int<|if k then 1 else 0) H) (o1 Pa):=Bq λG F σ H e x d Q j R c w k=>by
 cases d<;>first|exact w.elim|skip
 case int i=>cases c.int;exact .inl ⟨i,rfl,k _ H F (.fz _) (Sub.refl _) R (Da.int _) w⟩
 case bool b=>cases c.bool;exact .inr ⟨b,rfl,k _ H F (.fz _) (Sub.refl _) R (Da.int _) w⟩
noncomputable def FT:D->(Sl->Prop)->Prop
 | .int i,Q=>Q<|.fz<|.int<|-i
 |_,_=>Ln
theorem tP{K:Fg}:RZ K (yc<|rU λi=>.int<|-i) (o1 FT):=Bq λG F σ H b x d Q c R a w k=>by
 cases d<;>first|exact w.elim|skip
 rename_i i;cases a.int;exact⟨_,rfl,i,rfl,k _ H F (.fz _) (Sub.refl _) R (Da.int _) w⟩
def Dq(as:List AD)(f:List D->(Sl->Prop)->Prop):TD:=λc Q=>MJ as c λb a=>match qJ a b with
 |false=>UZ a b λd=>f d λr=>Q r a
 |true=>Ln
def Dk(a:List D)(Q:Sl->Prop):Prop:=Q<|.fz<|.tuple a
def Ek(a:List D)(Q:Sl->Prop):Prop:=Q<|.ow<|.list a
theorem rZ(h:n<=1000):n<=sizeLine:=A0 h (by decide)
theorem IT{K:Fg}(hl:as.length<=1000){σ:L2.St}{H:Hp}{Q:VK}(h:lift K (Dq as Dk) σ H Q):uO (vZ<|as.map<|mZ K) σ H Q:=by
 obtain⟨G,F,m,t,R,w,k⟩:=h;refine SY R w λv H' x y b c a o d q=>?_;split at q
 .rename_i e;obtain⟨B,da,q⟩:=rJ a e o q;refine⟨rZ<|le_of_eq_of_le d hl,λp i=>?_⟩;obtain⟨j,R2,l⟩:=a.newTup i da;exact k _ _ _ (.fz _) _ (c.trans j) R2 l q
 .exact q.elim
theorem JT{K:Fg}(hl:as.length<=1000){σ:L2.St}{H:Hp}{Q:VK}(h:lift K (Dq as Ek) σ H Q):vO (vZ<|as.map<|mZ K) σ H Q:=by
 obtain⟨G,F,t,v,R,w,k⟩:=h;refine SY R w λb H' x y c i a o B q=>?_;split at q
 .rename_i e;obtain⟨j,da,q⟩:=rJ a e o q;refine⟨rZ<|by lia,λp l=>?_⟩;obtain⟨R2,m⟩:=a.newOw (o:=.lst b) (d:=.list j) l da;exact k _ _ _ _ _ i R2 m q
 .exact q.elim
def vj(p q:Int->Int->Bool)(a b c:AD):TD:=λl Q=>MJ [a,b] l λm d=>UZ d m λt=>match t with
 | [.int i,.int j]=>if p i j=true then MJ [c] d λys e=>UZ e ys λv=>match v with
   |[.int k]=>Q (.fz<|.bool<|q j k) e
   |_=>Ln
  else Q (.fz<|.bool false) d
 |_=>Ln
theorem SI{K:Fg}{p:Int->Int->Bool}{Q:VK}(h:lift K (vj p q a b c) σ H Q):cj (AU λi j=>.bl<|p i j) (AU λi j=>.bl<|q i j) (mZ K a) (mZ K b) (mZ K c) σ H Q:=by
 obtain⟨G,F,ρ,Qd,R,w,k⟩:=h;have l:vZ ([a,b].map (mZ K)) σ H λm C=>∃x y,m=[x,y]/\(AU λi j=>V.bl<|p i j) x y C λz P=>∃k,z=.bl k /\
   (if k=true then mZ K c σ P λB I=>(AU λi j=>V.bl<|q i j) y B I Q else Q (.bl false) P):=by
  refine uJ R w λm H' Y xs L U M o d=>?_;obtain⟨ds,Z,d⟩:=fK M o d;split at d
  .rename_i i j;obtain⟨v,u,rfl,h1,h2⟩:=Z.two;cases h1.int;cases h2.int;refine⟨_,_,rfl,i,j,rfl,rfl,p i j,rfl,?_⟩;by_cases e:p i j=true
   .rw[De e]at d ⊢;have:=uJ (as:=[c]) (Qv:=λm I=>∃B,m=[B]/\(AU λi j=>V.bl<|q i j) (V.int j) B I Q) M d λm C F2 ys O s2 R2 o2 t=>by
     obtain⟨es,hb,t⟩:=fK R2 o2 t;split at t
     .rename_i k';obtain⟨v,rfl,h3⟩:=hb.one;cases h3.int;exact⟨_,rfl,j,k',rfl,rfl,k _ C F2 (.fz _) O (U.trans s2) R2 (Da.bl _) t⟩
     .exact t.elim
    exact nq this
   .rw[Ce e]at d ⊢;exact k _ H' Y (.fz _) L U M (Da.bl _) d
  .exact d.elim
 exact Vu l
def RG(i:Nat)(as:List AD)(f:List D->List D->(D->D->Prop)->Prop):TD:=λb Q=>match b[i]? with
 |some (some c)=>match c.d,WZ c with
  | .list _,true=>MJ as b λe a=>match a[i]?,qJ a e with
   |some (some s),false=>match s.d,WZ s with
    | .list j,true=>UZ a e λk=>f j k λl r=>Q (.fz r)<|a.set i<|some<|s.put l
    |_,_=>Ln
   |_,_=>Ln
  |_,_=>Ln
 |_=>Ln
def KE(K:Fg)(r:V->List V->Hp->VK->Prop)(f:List D->List D->(D->D->Prop)->Prop):Prop :=
 ∀(F H:Hp) (a:Ee) (c:List V) (d:List D) (e:List V) (i:List D) (Q:VK) (k:D->D->Prop),Sub F H->H a=some (.lst c)->DaAll K F c d->DaAll K F e i->f d i k ->
  (∀v j l b,Own1 K F j l->Da K F v b->k l b->Q v (bJ H a j))->r (.ref a) e H Q
theorem oB{K:Fg}{f:List D->List D->(D->D->Prop)->Prop}(ok:KE K r f){σ:L2.St}{H:Hp}{Q:VK}(h:lift K (RG i as f) σ H Q):∃a d,σ[i]?=some (some<|V.ref a)/\SqL K H a d/\vZ (as.map<|mZ K) σ H λl M=>r (.ref a) l M Q:=by
 obtain⟨G,F,ρ,Qd,R,w,k⟩:=h;unfold RG at w;split at w
 .rename_i O P;split at w
  .rename_i U Y Z;obtain⟨a,o,m,g2,g3,B⟩:=R.ow i O P Z;have q:∃d,H a=some (.lst d):=by
    rw[Y]at B;cases o<;>first|exact B.elim|exact⟨_,g3⟩
   obtain⟨t,q⟩:=q;refine⟨a,t,m,SqL.of q,uJ R w λl H1 x d ρ1 s1 j o1 b=>?_⟩;split at b
   .rename_i s e en;split at b
    .rename_i C q1 I;obtain⟨ds,da,b⟩:=rJ j en o1 b;obtain⟨a',o',L,h2,h3,c⟩:=j.ow i s e I;rw[m]at L;cases L;rw[q1]at c;have hl:∃us,o'=.lst us/\DaAll K x us C:=by cases o'<;>first|exact c.elim|exact⟨_,rfl,c⟩
     obtain⟨us,rfl,c⟩:=hl;refine ok x H1 a us C l ds Q _ j.sub h3 c da b λv o2 d2 y ho hv hk=>?_;have R2:=j.change (o':=o2) (d':=d2) e I m ho;exact k v _ x (.fz y) _ s1 R2 hv hk
    .exact b.elim
   .exact b.elim
  .exact w.elim
 .exact w.elim
noncomputable def UI:List D->List D->(D->D->Prop)->Prop
 |a,[x],k=>a.length<sizeLine/\k (.list<|a++[x]) .none
 |_,_,_=>Ln
theorem qK{K:Fg}:KE K MF UI:=by
 intro F H a b d j l Q k s e c i w q;cases i with
 |nil=>exact w.elim
 |cons h t =>
  cases t with
  |nil=>exact⟨a,b,_,rfl,rfl,e,by rw[c.length];exact w.1,q _ (.lst<|b++[_]) (.list<|d++[_]) _ (c.append<|.cons h .nil) .non w.2⟩
  |cons _ _=>exact w.elim
noncomputable def VI:List D->List D->(D->D->Prop)->Prop
 |a,[.list ys],k=>a.length+ys.length<=sizeLine/\k (.list<|a++ys) .none
 |_,_,_=>Ln
theorem UG{K:Fg}:KE K ik VI:=by
 intro F H a b i m v Q k s e c j w q;cases j with
 |nil=>exact w.elim
 |cons h t =>
  rename_i d _;cases t with
  |cons _ _=>cases d<;>exact w.elim
  |nil =>
   cases d<;>first|exact w.elim|skip
   cases h with
   |lst l t=>exact⟨a,_,b,_,rfl,rfl,e,s _ _ l,by rw[c.length,t.length];exact w.1,q _ (.lst<|b++_) (.list<|i++_) _ (c.append t) .non w.2⟩
noncomputable def Qa:List D->List D->(D->D->Prop)->Prop
 |a,[],k=>∃d,a[a.length-1]?=some d/\k (.list a.dropLast) d
 |_,_,_=>Ln
theorem pB{K:Fg}:KE K XS Qa:=by
 intro F H a c i B j Q k s e b l w q;match j,l,w with
 |[],.nil,⟨d,m,t⟩=>obtain⟨v,x,y⟩:=b.get m;exact⟨a,c,v,rfl,rfl,e,by rw[b.length];exact x,q v (.lst c.dropLast) (.list i.dropLast) d b.dropLast y t⟩
noncomputable def XI:List D->List D->(D->D->Prop)->Prop
 |a,[.int i,x],k=>a.length<sizeLine/\0<=i/\i<=a.length/\k (.list (a.take i.toNat++x::a.drop i.toNat)) .none
 |_,_,_=>Ln
theorem Zv{K:Fg}:KE K yk XI:=by
 intro F H a c m v j Q k s e b l w q;rcases j with _|⟨d,_|⟨x,_|⟨y,j⟩⟩⟩<;>first|exact w.elim|(cases d<;>first|exact w.elim|skip)
 .rename_i i;cases l with|cons h t=>?_
  cases t with|cons h' t=>?_
  cases t;cases h;exact⟨a,c,i,_,rfl,rfl,e,by rw[b.length];exact w.1,w.2.1,by rw[b.length];exact w.2.2.1,q .non (.lst (c.take i.toNat++_::c.drop i.toNat)) (.list _) .none ((b.take _).append<|.cons h'<|b.drop _) .non w.2.2.2⟩
noncomputable def wj(j:Nat)(e:AD)(i:TD):IY:=λE l=>i l λr b=>match b[j]? with
 |some (some _)=>MJ [e] b λm a=>UZ a m λq=>match q,a[j]? with
  |[.int k],some (some s)=>match s.d,WZ s with
   | .list c,true=>∃n,Sz c.length k=some n/\E.nx (a.set j<|some<|s.put<|.list<|c.set n r.d)
   |_,_=>Ln
  |_,_=>Ln
 |_=>Ln
theorem YI{K:Fg}{E:Ends}(h:qZ K (wj j ai te) E σ H):eV (lift K te) (lO (IK j) (mZ K ai) gk) E σ H:=by
 obtain⟨G,F,Y,D,R,w,n,r,b,c⟩:=h;refine⟨G,F,Y,_,R,w,λv H1 F1 x Z s1 R1 r1 t=>?_⟩;obtain⟨F2,s2,R2,d2⟩:=r1.frz R1;split at t
 .rename_i s0 e0;obtain⟨u,y⟩:=R2.bound e0;refine⟨u,y,nq (P:=λi H2=>gk u i v H2 λC=>E.nx σ C)<|uJ R2 t λvs C I xs ρ3 L B o3 l=>?_⟩;obtain⟨ds,ha,l⟩:=fK B o3 l;split at l
  .rename_i k s e;obtain⟨iv,rfl,hi⟩:=ha.one;cases hi.int;split at l
   .rename_i M p1 O;obtain⟨m,w4,w5⟩:=l;obtain⟨a,o,U,g2,g3,q⟩:=B.ow j s e O;rw[y]at U;cases U;rw[p1]at q;have hl:∃us,o=.lst us/\DaAll K I us M:=by cases o<;>first|exact q.elim|exact⟨_,rfl,q⟩
    obtain⟨us,rfl,q⟩:=hl;refine⟨_,rfl,a,us,k,m,rfl,rfl,g3,by rw[q.length];exact w4,?_⟩;have R4:=B.change (o':=.lst<|us.set m v) (d':=.list<|M.set m x.d) e O y<|q.set (d2.mono L) m;exact n σ _ I _ (s1.trans<|s2.trans L) R4 w5
   .exact l.elim
  .exact l.elim
 .exact t.elim
def MT(K:Fg)(d:TE):TI:=λσ H R=>d σ H λx b=>∃a,x=.ref a/\(((∃c,SqL K b a c)/\R (ua K a) b)\/((∃c,SqT K b a c)/\R (va K a) b))
noncomputable def Fk(a:TD):vq:=λe Q=>a e λr b=>match r.d with
 | .list c=>Q c b
 | .tuple c=>Q c b
 |_=>Ln
theorem xj{K:Fg}(e:F a=some (.lst xs))(h:DaAll K F xs ds):Walks K (ua K a) F ds:=λi H k b c=>by have q:=SqL.of (K:=K)<|c _ _<|b _ _ e;refine⟨λd l=>?_,λhl=>⟨xs,q,by rw[h.length];exact P0 hl⟩⟩;obtain⟨v,j,m⟩:=h.get l;refine⟨⟨xs,v,q,j⟩,λx H' ⟨t,w⟩=>?_⟩;subst t;have:=w xs q;rw[j]at this;cases this;exact⟨k,Sub.refl _,λ_ _ z=>.inl z,c,Sub.refl _,m.mono b⟩
theorem ay{K:Fg}(e:F a=some (.tup xs))(h:DaAll K F xs ds):Walks K (va K a) F ds:=λi H k b c=>by have q:=SqT.of (K:=K)<|c _ _<|b _ _ e;refine⟨λd l=>?_,λhl=>⟨xs,q,by rw[h.length];exact P0 hl⟩⟩;obtain⟨v,j,m⟩:=h.get l;refine⟨⟨xs,v,q,j⟩,λx H' ⟨t,w⟩=>?_⟩;subst t;have:=w xs q;rw[j]at this;cases this;exact⟨k,Sub.refl _,λ_ _ z=>.inl z,c,Sub.refl _,m.mono b⟩
theorem uP{K:Fg}(h:iJ K (Fk a) σ H R):MT K (lift K a) σ H R:=by
 obtain⟨G,F,y,L,B,w,k⟩:=h;refine⟨G,F,y,_,B,w,λv j M r b l C I c=>?_⟩;obtain⟨m,x,R2,d⟩:=I.frz C;split at c
 .rename_i i e;rw[e]at d;cases d with
  |lst q t=>exact⟨_,rfl,.inl ⟨⟨_,SqL.of<|R2.sub _ _ q⟩,k _ j m i b (l.trans x) R2 (xj q t) c⟩⟩
 .rename_i i e;rw[e]at d;cases d with
  |tup q t=>exact⟨_,rfl,.inr ⟨⟨_,SqT.of<|R2.sub _ _ q⟩,k _ j m i b (l.trans x) R2 (ay q t) c⟩⟩
 .exact c.elim
noncomputable def DZ(lo:Int)(n:Nat):List D:=(G2 n).map λ(i:Nat)=>q0<|lo+i
theorem nU{K:Fg}{lo:Int}:Walks K (MS lo n) F (DZ lo n):=λi H b l c=>by
 have hl:(DZ lo n).length=n:=by simp[DZ]
 refine⟨λd a=>?_,λh=>by rw[hl]at h;exact P0 h⟩;have hi:i<n:=by have:=wJ a;rw[hl]at this;exact this
 have e:(DZ lo n)[i]?=some (.int<|lo+i):=by simp[DZ,hi]
 rw[e]at a;cases a;refine⟨hi,λx H' ⟨j,k⟩=>?_⟩;subst j k;exact⟨b,Sub.refl _,λ_ _ z=>.inl z,c,Sub.refl _,.int _⟩
noncomputable def ZF(a:AD):vq:=λc Q=>MJ [a] c λd b=>UZ b d λe=>match e with
 |[.int j]=>-(2 ^ 62)<=j/\j<2 ^ 62/\Q (DZ 0 j.toNat) b
 |_=>Ln
noncomputable def yj(a b:AD):vq:=λd Q=>MJ [a,b] d λe c=>UZ c e λk=>match k with
 |[.int i,.int j]=>(-(2 ^ 62)<=i/\i<2 ^ 62/\-(2 ^ 62)<=j/\j<2 ^ 62)/\Q (DZ i (j-i).toNat) c
 |_=>Ln
theorem vP{K:Fg}(h:iJ K (ZF a) σ H R):Yy (vZ<|[a].map (mZ K)) σ H R:=by
 obtain⟨G,F,t,x,e,w,k⟩:=h;refine uJ e w λy H' i B c l d o b=>?_;obtain⟨C,m,b⟩:=fK d o b;split at b
 .rename_i j;obtain⟨v,rfl,q⟩:=m.one;cases q.int;exact⟨j,rfl,b.1,b.2.1,k _ H' i _ c l d nU b.2.2⟩
 .exact b.elim
theorem wP{K:Fg}(h:iJ K (yj a b) σ H R):Zy (vZ<|[a,b].map (mZ K)) σ H R:=by
 obtain⟨G,F,B,C,l,w,k⟩:=h;refine uJ l w λI H' m L d q e o c=>?_;obtain⟨M,t,c⟩:=fK e o c;split at c
 .rename_i i j;obtain⟨v,u,rfl,x,y⟩:=t.two;cases x.int;cases y.int;exact⟨i,j,rfl,c.1,k _ H' m _ d q e nU c.2⟩
 .exact c.elim
def Ld(K:Fg)(F:Hp)(v:V)(c:List D):Prop:=∃k a b,v=.ref a/\(F a=some (match k with|Kd.l=>HO.lst b|Kd.t=>HO.tup b))/\DaAll K F b c
theorem HW{K:Fg}(e:H a=some (match k with|Kd.l=>HO.lst xs|Kd.t=>HO.tup xs)):Sq k K H a xs:=by
 cases k with
 |l=>exact SqL.of e
 |t=>exact SqT.of e
noncomputable def cy:D->Jn (List D)
 | .list a=>some a
 | .tuple a=>some a
 |_=>none
theorem wV{K:Fg}(h:Da K F v d)(e:cy d=some ds):∃k a b,v=.ref a/\(F a=some (match k with|Kd.l=>HO.lst b|Kd.t=>HO.tup b))/\DaAll K F b ds:=by
 cases h with
 |lst q t=>cases e;exact⟨.l,_,_,rfl,q,t⟩
 |tup q t=>cases e;exact⟨.t,_,_,rfl,q,t⟩
 |non=>cases e
 |bl=>cases e
 |int=>cases e
 |str=>cases e
 |dk _ _=>cases e
 |dt _ _=>cases e
 |scr _=>cases e
 |exc _=>cases e
 |opq _=>cases e
 |pd _ _=>cases e
 |bd _ _=>cases e
noncomputable def OW(ds a:List D):List D:=(ds.zip a).map λp=>O1 [p.1,p.2]
noncomputable def xH(a b fs:List D):List D:=(a.zip<|b.zip fs).map λp=>O1 [p.1,p.2.1,p.2.2]
noncomputable def zj(a b:AD):vq:=λe Q=>MJ [a,b] e λd c=>match qJ c d with
 |false=>UZ c d λi=>match i with
  |[x,y]=>match cy x,cy y with
   |some us,some j=>Q (OW us j) c
   |_,_=>Ln
  |_=>Ln
 |true=>Ln
theorem Aj{K:Fg}(Y:F a=some (match k1 with|Kd.l=>HO.lst xs|Kd.t=>HO.tup xs))(M:DaAll K F xs ds)
  (Z:F b=some (match k2 with|Kd.l=>HO.lst ys|Kd.t=>HO.tup ys)) (O:DaAll K F ys es):Walks K (RO K k1 k2 a b) F (OW ds es):=λi H B j k=>by
 have C:Sq k1 K H a xs:=HW<|k _ _<|j _ _ Y;have G:Sq k2 K H b ys:=HW<|k _ _<|j _ _ Z;refine⟨λd P=>?_,λhl=>⟨xs,ys,C,G,?_⟩⟩
 .simp only[OW,S1,o6]at P;obtain⟨⟨x,y⟩,I,rfl⟩:=P;rw[P4]at I;obtain⟨v,R,g2⟩:=M.get I.1;obtain⟨u,U,g4⟩:=O.get I.2;refine⟨⟨xs,v,ys,u,C,G,R,U⟩,λz H' ⟨T,x1,x2,m,ex,eH,q,w⟩=>?_⟩;subst ex eH;have q:=q xs C;have w:=w ys G;rw[R]at q;cases q;rw[U]at w;cases w;have L:B T=none:=by
   cases z:B T with
   |none=>rfl
   |some o=>rw[k _ _ z]at m;cases m
  refine⟨bJ B T<|.tup [v,u],Sub.new L,λc o e=>?_,λc o e=>?_,Sub.new m,.tup HZ<|.cons (g2.mono<|j.trans<|Sub.new L)<|.cons (g4.mono<|j.trans<|Sub.new L) .nil⟩
  .by_cases z:c=T
   .subst z;exact .inr m
   .rw[pZ z]at e;exact .inl e
  .by_cases z:c=T
   .subst z;rw[HZ]at e ⊢;exact e
   .rw[pZ z]at e ⊢;exact k _ _ e
 .simp only[OW,g0,P2]at hl;rw[M.length,O.length]
  lia
theorem xP{K:Fg}(h:iJ K (zj a b) σ H R):vk K (vZ<|[a,b].map (mZ K)) σ H R:=by
 obtain⟨G,F,ρ,Qd,q,w,k⟩:=h;refine uJ q w λvs H' v xs i B d o c=>?_;split at c
 .rename_i e;obtain⟨ds,da,c⟩:=rJ d e o c;split at c
  .rename_i x y;split at c
   .rename_i us ws C I;cases da with
    |cons L t =>
     cases t with
     |cons M t=>cases t;obtain⟨O,P,U,rfl,l,Y⟩:=wV L C;obtain⟨Z,a2,j,rfl,m,g2⟩:=wV M I;exact⟨O,P,U,Z,a2,j,rfl,HW<|d.sub _ _ l,HW<|d.sub _ _ m,k _ H' v _ i B d (Aj l Y m g2) c⟩
   .exact c.elim
  .exact c.elim
 .exact c.elim
noncomputable def Bj(a b c:AD):vq:=λi Q=>MJ [a,b,c] i λe d=>match qJ d e with
 |false=>UZ d e λj=>match j with
  |[x,y,z]=>match cy x,cy y,cy z with
   |some us,some k,some l=>Q (xH us k l) d
   |_,_,_=>Ln
  |_=>Ln
 |true=>Ln
theorem Cj{K:Fg}(e1:F a=some (match k1 with|Kd.l=>HO.lst xs|Kd.t=>HO.tup xs))(R:DaAll K F xs ds)
  (e2:F b=some (match k2 with|Kd.l=>HO.lst ys|Kd.t=>HO.tup ys)) (U:DaAll K F ys es) (e3:F c=some (match k3 with|Kd.l=>HO.lst zs|Kd.t=>HO.tup zs)) (Y:DaAll K F zs fs):Walks K (SO K k1 k2 k3 a b c) F (xH ds es fs):=λi H I k j=>by
 have L:Sq k1 K H a xs:=HW<|j _ _<|k _ _ e1;have M:Sq k2 K H b ys:=HW<|j _ _<|k _ _ e2;have O:Sq k3 K H c zs:=HW<|j _ _<|k _ _ e3;refine⟨λd Z=>?_,λhl=>⟨xs,ys,zs,L,M,O,?_⟩⟩
 .simp only[xH,S1,o6]at Z;obtain⟨⟨x,y,t⟩,m,rfl⟩:=Z;rw[P4,P4]at m;obtain⟨v,g1,g2⟩:=R.get m.1;obtain⟨u,g3,g4⟩:=U.get m.2.1;obtain⟨w,g5,g6⟩:=Y.get m.2.2;refine⟨⟨xs,v,ys,u,zs,w,L,M,O,g1,g3,g5⟩,λz H' ⟨T,x1,x2,x3,q,ex,eH,B,C,G⟩=>?_⟩;subst ex eH;have B:=B xs L;have C:=C ys M;have G:=G zs O;rw[g1]at B;cases B;rw[g3]at C;cases C;rw[g5]at G;cases G;have fT:I T=none:=by
   cases z:I T with
   |none=>rfl
   |some o=>rw[j _ _ z]at q;cases q
  have P:=k.trans<|Sub.new (o:=.tup [v,u,w]) fT;refine⟨bJ I T<|.tup [v,u,w],Sub.new fT,λc o e=>?_,λc o e=>?_,Sub.new q,.tup HZ<|.cons (g2.mono P)<|.cons (g4.mono P)<|.cons (g6.mono P) .nil⟩
  .by_cases z:c=T
   .subst z;exact .inr q
   .rw[pZ z]at e;exact .inl e
  .by_cases z:c=T
   .subst z;rw[HZ]at e ⊢;exact e
   .rw[pZ z]at e ⊢;exact j _ _ e
 .simp only[xH,g0,P2]at hl;rw[R.length,U.length,Y.length]
  lia
theorem yP{K:Fg}(h:iJ K (Bj a b c) σ H R):xk K (vZ<|[a,b,c].map (mZ K)) σ H R:=by
 obtain⟨G,F,ρ,Qd,C,w,k⟩:=h;refine uJ C w λvs H' I xs j L i o d=>?_;split at d
 .rename_i e;obtain⟨ds,da,d⟩:=rJ i e o d;split at d
  .rename_i x y z;split at d
   .rename_i us ws ts M O P;cases da with
    |cons U t =>
     cases t with
     |cons Y t =>
      cases t with
      |cons Z t=>cases t;obtain⟨k1,a1,xf,rfl,q,g1⟩:=wV U M;obtain⟨k2,a2,l,rfl,v,g2⟩:=wV Y O;obtain⟨k3,a3,m,rfl,B,g3⟩:=wV Z P;exact⟨k1,a1,xf,k2,a2,l,k3,a3,m,rfl,HW<|i.sub _ _ q,HW<|i.sub _ _ v,HW<|i.sub _ _ B,k _ H' I _ j L i (Cj q g1 v g2 B g3) d⟩
   .exact d.elim
  .exact d.elim
 .exact d.elim
noncomputable def qB(a:AD):vq:=λd Q=>MJ [a] d λc b=>match qJ b c with
 |false=>UZ b c λe=>match e with
  |[.tuple us]=>Q us.reverse b
  |_=>Ln
 |true=>Ln
theorem NT{K:Fg}(h:iJ K (qB a) σ H R):WO K (vZ<|[a].map (mZ K)) σ H R:=by
 obtain⟨G,F,ρ,Qd,L,w,k⟩:=h;refine uJ L w λvs H' M xs c O j o b=>?_;split at b
 .rename_i e;obtain⟨ds,da,b⟩:=rJ j e o b;split at b
  .rename_i us;cases da with
   |cons P t =>
    cases t;cases P with
    |tup q t =>
     rename_i U l;refine⟨U,l,rfl,SqT.of<|j.sub _ _ q,k _ H' M _ c O j (λi H Y B C=>?_) b⟩;have I:=SqT.of (K:=K)<|C _ _<|B _ _ q;refine⟨λd m=>?_,λhl=>?_⟩
     .have hi:=wJ m;rw[JX]at hi;rw[List.getElem?_reverse hi]at m;obtain⟨v,y,g2⟩:=t.get m;rw[<-t.length]at y hi;refine⟨⟨l,v,I,rfl,hi,y⟩,λx H' ⟨Z,e2⟩=>?_⟩;subst Z;have:=e2 l I;rw[y]at this;cases this;exact⟨Y,Sub.refl _,λ_ _ z=>.inl z,C,Sub.refl _,g2.mono B⟩
     .rw[JX,<-t.length]at hl;exact hl.symm
  .exact b.elim
 .exact b.elim
noncomputable def Tz:D->Jn VZ
 | .int i=>some<|.inl i
 | .str x=>some<|.inr x
 |_=>none
theorem JU(k:VZ):Tz (YV k)=some k:=by cases k<;>rfl
theorem Gk(h:Tz d=some k):d=YV k:=by cases d<;>first|(cases h;rfl)|cases h
noncomputable def dy:List D->Jn (List VZ)
 |[]=>some []
 |d::a=>match Tz d,dy a with
  |some k,some ks=>some (k::ks)
  |_,_=>none
theorem Fq:∀ks:List VZ,dy (ks.map YV)=some ks
 |[]=>rfl
 |k::ks=>by simp[dy,JU,Fq ks]
theorem Gq:∀{a:List D}{ks:List VZ},dy a=some ks->a=ks.map YV
 |[],ks,h=>by cases h;rfl
 |d::a,ks,h=>by
  unfold dy at h;split at h
  .rename_i k b c e;cases h;rw[Gk c,Gq e];rfl
  .cases h
noncomputable def eU(a:List (D×D))(k:VZ):Jn D:=(a.find? λe=>decide<|Tz e.1=some k).map (·.2)
noncomputable def Hq:D->Jn (List VZ)
 | .tuple a=>dy a
 |_=>none
noncomputable def aD(a:List (D×D))(k:List VZ):Jn D:=(a.find? λe=>decide<|Hq e.1=some k).map (·.2)
noncomputable def VG(a:List (D×D))(k:VZ)(d:D):List (D×D):=if (a.any λe=>decide<|Tz e.1=some k)=true then a.map (λe=>if Tz e.1=some k then (e.1,d) else e) else a++[(YV k,d)]
section
variable {K:Fg}{F:Hp}
theorem DaKV.val(k:VZ){a:List (VZ×V)}{b:List (D×D)}(h:DaKV K F a b):match eU b k,qY a k with|some d,some v=>Da K F v d|none,none=>True|_,_=>Ln:=by
 induction a generalizing b with
 |nil=>cases h;trivial
 |cons l a c =>
  cases h with
  |@cons i v d a b h t =>
   have c:=c t;unfold eU qY at c ⊢;simp only[V5,JU,Option.some.injEq];by_cases e:i=k
   .subst e;simp;exact h
   .have j:decide (i=k)=false:=Ve e;simp only[j];exact c
theorem DaKT.val(k:List VZ){a:List (List VZ×V)}{b:List (D×D)}(h:DaKT K F a b):match aD b k,qY a k with|some d,some v=>Da K F v d|none,none=>True|_,_=>Ln:=by
 induction a generalizing b with
 |nil=>cases h;trivial
 |cons l a c =>
  cases h with
  |@cons i v d a b h t =>
   have c:=c t;unfold aD qY at c ⊢;simp only[V5,Hq,Fq,Option.some.injEq];by_cases e:i=k
   .subst e;simp;exact h
   .have j:decide (i=k)=false:=Ve e;simp only[j];exact c
theorem DaKV.repl(l:Da K F v d){a:List (VZ×V)}{c:List (D×D)}(i:DaKV K F a c):DaKV K F (a.map λb=>if b.1=k then (b.1,v) else b) (c.map λe=>if Tz e.1=some k then (e.1,d) else e):=by
 induction a generalizing c with
 |nil=>cases i;exact .nil
 |cons b a j =>
  cases i with
  |@cons m _ _ _ _ h t =>
   simp only[Y0,JU,Option.some.injEq];by_cases e:m=k
   .rw[De e,De e];exact .cons l<|j t
   .rw[Ce e,Ce e];exact .cons h<|j t
theorem DaKV.snoc(e:Da K F v d){a:List (VZ×V)}{b:List (D×D)}(c:DaKV K F a b):DaKV K F (a++[(k,v)]) (b++[(YV k,d)]):=by
 induction a generalizing b with
 |nil=>cases c;exact .cons e .nil
 |cons j a i=>cases c with|cons h t=>exact .cons h<|i t
theorem DaKV.any(k:VZ):∀{a:List (VZ×V)}{b:List (D×D)},DaKV K F a b->(a.any λc=>decide<|c.1=k)=b.any λe=>decide<|Tz e.1=some k
 |_,_,.nil=>rfl
 |_,_,.cons (k:=d) h t=>by simp only[BQ,JU,Option.some.injEq];rw[DaKV.any k t]
theorem DaKV.put(h:DaKV K F fe es)(a:Da K F v d):DaKV K F (aY fe k v) (VG es k d):=by
 unfold aY VG;rw[h.any k];split
 .exact h.repl a
 .exact h.snoc a
theorem DaKV.length:∀{a:List (VZ×V)}{b:List (D×D)},DaKV K F a b->a.length=b.length
 |_,_,.nil=>rfl
 |_,_,.cons _ t=>by simp[DaKV.length t]
theorem At.dict{c:List (D×D)}(s:Sub F H)(h:At K F H v (.dict c)):∃a,v=.ref a/\((∃b,Rd H a (.dK b)/\DaKV K F b c)\/(∃b,Rd H a (.dT b)/\DaKT K F b c)\/∃d j,c=[(d,j)]/\Tz d=Option.none/\Hq d=Option.none):=by
 rcases h with h|⟨a,o,rfl,_,e,h⟩
 .cases h with
  |dk q t=>exact⟨_,rfl,.inl ⟨_,s.rd q,t⟩⟩
  |dt q t=>exact⟨_,rfl,.inr<|.inl ⟨_,s.rd q,t⟩⟩
  |scr q=>exact⟨_,rfl,.inr<|.inr ⟨_,_,rfl,rfl,rfl⟩⟩
  |exc q=>exact⟨_,rfl,.inr<|.inr ⟨_,_,rfl,rfl,rfl⟩⟩
  |opq q=>exact⟨_,rfl,.inr<|.inr ⟨_,_,rfl,rfl,rfl⟩⟩
  |pd q t=>exact⟨_,rfl,.inr<|.inr ⟨_,_,rfl,rfl,rfl⟩⟩
  |bd q t=>exact⟨_,rfl,.inr<|.inr ⟨_,_,rfl,rfl,rfl⟩⟩
 .cases o with
  |ext k=>obtain⟨l,m,w,x,z,i,t⟩:=h.ext;injection i with i;exact⟨_,rfl,.inr<|.inr ⟨_,_,i,rfl,rfl⟩⟩
  |_=>first|exact h.elim|exact⟨_,rfl,.inl ⟨_,.inl e,h⟩⟩|exact⟨_,rfl,.inr<|.inl ⟨_,.inl e,h⟩⟩
theorem DaAll.keys{ks:List VZ}(h:DaAll K F xs (ks.map YV)):xs=ks.map kV:=by
 induction ks generalizing xs with
 |nil=>cases h;rfl
 |cons k bs a=>cases h with|cons h t=>rw[a t];cases k<;>(cases h;rfl)
theorem At.key(h:At K F H v d)(e:Tz d=some k):v=kV k:=by
 have:=Gk e;subst this;cases k with
 |inl i=>exact h.int
 |inr x=>exact h.str
theorem At.keyTup(s:Sub F H)(h:At K F H v d)(e:Hq d=some k):∃b,v=.ref b/\H b=some (.tup<|k.map kV):=by
 cases d<;>first|cases e|skip
 rename_i j;have:=Gq e;subst this;obtain⟨a,l,rfl,_,c,i⟩:=h.tuple s;have:=i.keys;subst this;exact⟨a,rfl,c⟩
theorem ZI(e:∃a,es=[(k0,a)]/\Tz k0=none/\Hq k0=none)(k:VZ):eU es k=none:=by obtain⟨a,rfl,e,_⟩:=e;simp[eU,e]
theorem aL(e:∃a,es=[(k0,a)]/\Tz k0=none/\Hq k0=none)(k:List VZ):aD es k=none:=by obtain⟨a,rfl,_,e⟩:=e;simp[aD,e]
theorem fy(e:D×D)(a:List (D×D))(k:VZ)(h:Tz e.1=none):eU (e::a) k=eU a k:=by simp[eU,V5,h]
theorem gy(e:D×D)(a:List (D×D))(k:List VZ)(h:Hq e.1=none):aD (e::a) k=aD a k:=by simp[aD,V5,h]
theorem Dj(k:VZ):∀{b:List (List VZ×V)}{a:List (D×D)},DaKT K F b a->eU a k=none
 |_,_,.nil=>rfl
 |_,_,.cons h t=>by rw[fy _ _ _ rfl];exact Dj k t
theorem rB(k:List VZ):∀{b:List (VZ×V)}{a:List (D×D)},DaKV K F b a->aD a k=none
 |_,_,.nil=>rfl
 |_,_,.cons (k:=c) h t=>by rw[gy _ _ _<|by cases c<;>rfl];exact rB k t
end
noncomputable def iy(a:List (D×D))(k:D):Jn D:=match Tz k with
 |some k=>eU a k
 |none=>match Hq k with
  |some ks=>aD a ks
  |none=>none
noncomputable def dN:D->D->(Sl->Prop)->Prop
 | .dict a,k,Q=>∃d,iy a k=some d/\Q (.fz d)
 |_,_,_=>Ln
theorem jy{K:Fg}{m:List (D×D)}(s:Sub F H)(B:At K F H x (.dict m))(w:At K F H y k)(e:iy m k=some d):∃a v,x=.ref a/\zu H a y (some v)/\Da K F v d:=by
 obtain⟨a,rfl,h⟩:=B.dict s;unfold iy at e;split at e
 .rename_i j l;have hy:=w.key l;subst hy;rcases h with⟨c,q,t⟩|⟨c,q,t⟩|⟨ns,q⟩
  .have:=t.val j;rw[e]at this;cases i:qY c j with
   |none=>rw[i]at this;exact this.elim
   |some v=>rw[i]at this;exact⟨a,v,rfl,.inl ⟨c,j,q,rfl,i.symm⟩,this⟩
  .rw[Dj _ t]at e;cases e
  .rw[ZI q]at e;cases e
 .split at e
  .rename_i ks l;obtain⟨b,rfl,C⟩:=w.keyTup s l;rcases h with⟨c,q,t⟩|⟨c,q,t⟩|⟨ns,q⟩
   .rw[rB _ t]at e;cases e
   .have:=t.val ks;rw[e]at this;cases i:qY c ks with
    |none=>rw[i]at this;exact this.elim
    |some v=>rw[i]at this;exact⟨a,v,rfl,.inr ⟨c,ks,b,q,rfl,C,i.symm⟩,this⟩
   .rw[aL q]at e;cases e
  .cases e
def OT:R2:=λx y H Q=>∃a v,x=.ref a/\zu H a y (some v)/\Q v H
theorem bL{K:Fg}:RZ K (dU OT) (o2 dN):=Yv λG F σ H m x y d e Q q R b c w k=>by
 cases d<;>first|exact w.elim|skip
 rename_i t;obtain⟨B,i,j⟩:=w;obtain⟨a,v,rfl,g,l⟩:=jy R.sub b c i;exact⟨a,v,rfl,g,k _ H F (.fz _) (Sub.refl _) R l j⟩
noncomputable def bD(j:Nat)(e:AD)(i:TD):IY:=λE l=>i l λr b=>match b[j]? with
 |some (some _)=>MJ [e] b λm a=>UZ a m λq=>match q,a[j]? with
  |[t],some (some s)=>match s.d,WZ s,Tz t with
   | .dict c,true,some k=>c.length<sizeLine/\(eU c k).isSome=true/\E.nx (a.set j<|some<|s.put<|.dict<|VG c k r.d)
   |_,_,_=>Ln
  |_,_=>Ln
 |_=>Ln
theorem sB{K:Fg}{E:Ends}(h:qZ K (bD j ak te) E σ H):Cu (IK j) (mZ K ak) (lift K te) E σ H:=by
 obtain⟨G,F,ρ,D,R,w,n,r,b,c⟩:=h;refine⟨G,F,ρ,_,R,w,λv H1 F1 x ρ1 s1 R1 r1 q=>?_⟩;obtain⟨F2,s2,R2,d2⟩:=r1.frz R1;split at q
 .rename_i s0 e0;obtain⟨u,B⟩:=R2.bound e0;refine⟨u,B,nq (P:=λy O=>∃a U,u=.ref a/\GO O a y v U/\E.nx σ U)<|uJ R2 q λvs O C xs ρ3 Y I o3 i=>?_⟩;obtain⟨ds,ha,i⟩:=fK I o3 i;split at i
  .rename_i kd s e;obtain⟨kv,rfl,hk⟩:=ha.one;split at i
   .rename_i L k p1 Z p3;obtain⟨a,o,g1,g2,g3,l⟩:=I.ow j s e Z;rw[B]at g1;cases g1;rw[p1]at l;have:=hk.key p3;subst this;refine⟨_,rfl,a,?_⟩;cases o with
    |dK m=>have l:DaKV K C m L:=l;refine⟨_,rfl,.inl ⟨m,k,g3,rfl,by rw[l.length];exact i.1,rfl⟩,?_⟩;have R4:=I.change (o':=.dK<|aY m k v) (d':=.dict<|VG L k x.d) e Z B<|l.put<|d2.mono Y;exact n σ _ C _ (s1.trans<|s2.trans Y) R4 i.2.2
    |dT m=>have l:DaKT K C m L:=l;rw[Dj _ l]at i;exact absurd i.2.1 (by simp)
    |ext φ=>obtain⟨a',ep,xs,ps,z,M,t⟩:=l.ext;injection M with M;rw[M]at i;exact absurd i.2.1 (by simp[eU,Tz])
    |_=>exact l.elim
   .exact i.elim
  .exact i.elim
 .exact q.elim
open L2
noncomputable def xZ:We->Bool
 | .Starred _ _=>false
 |_=>true
theorem nZ(h:xZ e=true):Re (e::es) env=(false,Rf e env)::Re es env:=by cases e<;>first|rfl|cases h
theorem xJ:∀{a:List We},a.all xZ=true->(Wf pos<|Re a env).any (·.1)=false:=by
 intro a;induction a with
 |nil=>intro _;rfl
 |cons e a b=>intro h;simp only[List.all_cons,A4]at h;rw[nZ h.1];have:=b h.2;simp[Wf]at this ⊢;exact this
noncomputable def VY:We->Bool
 | .Set _ _ _=>false
 |_=>true
theorem fU(h:VY e=true)(x:Be):Ig e env x=pure x:=by cases e<;>first|rfl|cases h
noncomputable def wY:We->Bool
 | .ListComp _ _ _ _=>false
 | .SetComp _ _ _ _=>false
 | .DictComp _ _ _ _ _=>false
 |_=>true
theorem WY(h:wY e=true):Nh e t n env=pure false:=by cases e<;>first|rfl|cases h
section
variable {K:Fg}
theorem nG{t':TE}(h:PE X e t)(m:∀{σ H Q},t' σ H Q->t σ H Q):PE X e t':=λde s σ H Q I w=>h de s σ H Q I<|m w
theorem Ra{t':TT}(h:PT X e t)(m:∀{σ H Q},t' σ H Q->t σ H Q):PT X e t':=λde s σ H Q I w=>h de s σ H Q I<|m w
theorem Ac{t':TT}(h:PW X e t)(m:∀{σ H Q},t' σ H Q->t σ H Q):PW X e t':=λa de s σ H Q I w=>h a de s σ H Q I<|m w
theorem ly{t':TS}(h:PS X e t)(m:∀{D σ H},t' D σ H->t D σ H):PS X e t':=λde s σ H D I w=>h de s σ H D I<|m w
theorem zP{t':TS}(h:PSs X e t)(m:∀{D σ H},t' D σ H->t D σ H):PSs X e t':=λde s σ H D I w=>h de s σ H D I<|m w
theorem Sa{t':TG}(h:PG X e t)(m:∀{v σ H Q},t' v σ H Q->t v σ H Q):PG X e t':=by
 unfold PG at h ⊢
 intros
 exact h _ _ _ _ _ _ _ (by assumption) (by assumption) (m<|by assumption)
theorem zS{g:We}{t':TI}(h:PI X g e t)(m:∀{σ H R},t' σ H R->t σ H R):PI X g e t':=λde s σ H R I w=>h de s σ H R I<|m w
theorem Ta{t':TT}(h:Hu X es t)(m:∀{σ H Q},t' σ H Q->t σ H Q):Hu X es t':=λde s σ H Q I w=>h de s σ H Q I<|m w
theorem cL{e:We}{b:List We}{a:AD}{as:List AD}(c:PE X e (mZ K a))(d:PA X b (vZ<|as.map<|mZ K))(i:Re (e::b) X.env=(false,Rf e X.env)::Re b X.env:=by exact nZ rfl):PA X (e::b) (vZ<|(a::as).map<|mZ K):=cK c d i
variable {e:We}{a b c:AD}{as:List AD}{td te:TD}{tc td':MW}
theorem BP(h:PE X e (IK i)):PE X e (lift K<|Pv i):=nG h pT
theorem eL(i:∀F,Da K F v d)(h:PE X e (tC v)):PE X e (lift K<|dC d):=nG h<|Jd i
theorem QT{r:R2}{f:D->D->(Sl->Prop)->Prop}(ok:RZ K (dU r) (o2 f))(h:PE X e (dI r (mZ K a)<|mZ K b)):PE X e (lift K<|zW [a,b]<|o2 f):=nG h λq=>Vu<|UF ok q
theorem Md{r:V->Hp->VK->Prop}{f:D->(Sl->Prop)->Prop}(ok:RZ K (yc r) (o1 f))(h:PE X e (vc r<|mZ K a)):PE X e (lift K<|zW [a]<|o1 f):=nG h λq=>nq<|UF ok q
theorem Bc{r:List V->Hp->VK->Prop}{f:List D->(Sl->Prop)->Prop}(ok:RZ K r f)(h:PE X e (wS r<|vZ<|as.map<|mZ K)):PE X e (lift K<|zW as f):=nG h λq=>UF ok q
theorem CP(T:Ki)(h:PE X e (wS (Hv K)<|DW (mZ K a)<|DW (tC<|.ty T.nm) sv)):PE X e (lift K<|zW [a]<|o1<|qP T):=nG h λq=>nq (P:=λx d=>Hv K [x,.ty T.nm] d _)<|UF rP q
theorem DP(hl:as.length<=1000)(h:PE X e (uO<|vZ<|as.map<|mZ K)):PE X e (lift K<|Dq as Dk):=nG h<|IT hl
theorem FP(hl:as.length<=1000)(h:PE X e (vO<|vZ<|as.map<|mZ K)):PE X e (lift K<|Dq as Ek):=nG h<|JT hl
theorem uB{p:Int->Int->Bool}(h:PE X e (cj (AU λi j=>.bl<|p i j) (AU λi j=>.bl<|q i j) (mZ K a) (mZ K b)<|mZ K c)):PE X e (lift K<|vj p q a b c):=nG h SI
theorem GP(h:PE X e (Ry (lift K td)<|lift K te)):PE X e (lift K<|Wu td te):=nG h aP
theorem HP(h:PE X e (Uy<|lift K td)):PE X e (lift K<|Xu td):=nG h bP
theorem UT{E:XK}(h:PE X e (VU (iZ K con) [] E<|vZ<|as.map<|mZ K)):PE X e (lift K<|eB con as):=nG h lP
theorem IP{E:XK}(h:PE X e (VU (iZ K con) [] E<|vZ<|(Sum.inl i::as).map<|mZ K)):PE X e (lift K<|WF con i as):=nG h QI
theorem Ua{f:List D->List D->(D->D->Prop)->Prop}(ok:KE K r f)(h:PE X e (Ba K "list" r (IK i)<|vZ<|as.map<|mZ K)):PE X e (lift K<|RG i as f):=nG h λq=>by obtain⟨a,d,j,sq,w⟩:=oB ok q;exact⟨_,j,.inl ⟨rfl,d,sq⟩,w⟩
theorem VT{f:List D->List D->(D->D->Prop)->Prop}(ok:KE K r f)(h:PE X e (BO K "list" r<|IK i)):PE X e (lift K<|RG i [] f):=nG h λq=>by obtain⟨a,d,j,sq,w⟩:=oB ok q;exact⟨_,j,.inl ⟨rfl,d,sq⟩,w⟩
theorem Cc{r:R2}{f:D->D->(Sl->Prop)->Prop}(ok:RZ K (dU r) (o2 f))(h:PT X e (du<|dI r (mZ K a)<|mZ K b)):PT X e (yZ K<|oq<|zW [a,b]<|o2 f):=Ra h λq=>bN (λz=>Vu<|UF ok z) q
theorem JP(h:PT X e (tB<|lift K td)):PT X e (yZ K<|oq td):=Ra h λq=>bN (λz=>z) q
theorem KP(h:PT X e (aO<|yZ K tc)):PT X e (yZ K<|YO tc):=Ra h qT
theorem LP(h:PW X e (ZN (yZ K tc)<|yZ K td')):PW X e (yZ K<|ZO tc td'):=Ac h rT
theorem XT(h:PW X e (ma (yZ K tc)<|yZ K td')):PW X e (yZ K<|Ia tc td'):=Ac h Ja
variable {st:Ah}{sts:List Ah}{t u:IY}
theorem fL(h:PSs X sts Ux):PSs X sts (qZ K Yu):=zP h dP
theorem MP(h:PSs X sts (cv (qZ K t)<|qZ K u)):PSs X sts (qZ K<|Rv t u):=zP h uT
theorem NP(h:PS X st (fv<|lift K td)):PS X st (qZ K<|JI td):=ly h vT
theorem gL(h:PS X st (fv<|IK i)):PS X st (qZ K<|tq i):=ly h fP
theorem iL(h:PS X st (eV (IK j)<|FY i)):PS X st (qZ K<|uq i j):=ly h gP
theorem jL(h:PS X st (XD<|lift K td)):PS X st (qZ K<|Zu td):=ly h eP
theorem YT(h:PS X st (YE (yZ K tc) (qZ K t)<|qZ K u)):PS X st (qZ K<|cP tc t u):=ly h wT
theorem OP(h:PS X st (eV (lift K td)<|FY i)):PS X st (qZ K<|rq i td):=ly h cN
theorem ZT(h:PS X st (eV (lift K td)<|lO (IK j) (mZ K a) gk)):PS X st (qZ K<|wj j a td):=ly h YI
theorem PP(h:PS X st (Cu (IK j) (mZ K a)<|lift K td)):PS X st (qZ K<|bD j a td):=ly h sB
theorem vB(h:PS X st (Zz (yZ K tc)<|qZ K t)):PS X st (qZ K<|rj tc t):=ly h KI
noncomputable def wB(g:uY)(a:TD):IY:=λE j=>a j λr i=>g r.d i E.nx
theorem QP{g:uY}{E:Ends}(h:qZ K (wB g td) E σ H):eV (lift K td) (QZ K g) E σ H:=by obtain⟨G,F,m,D,R,w,n,r,b,c⟩:=h;refine⟨G,F,m,_,R,w,λv H' O x i s y B q=>?_⟩;obtain⟨l,C,R2,I⟩:=B.frz y;exact⟨G,l,i,x.d,_,R2,I,q,λj k L M=>n j H' l k (s.trans C) L M⟩
theorem kL{g:uY}(h:PS X st (eV (lift K td)<|QZ K g)):PS X st (qZ K<|wB g td):=ly h QP
theorem mL(h:PG X e (FY i)):PG X e (QZ K<|aB i):=Sa h Ka
theorem RP{d:List uY}(h:PG X e (cI K n<|CU<|d.map<|QZ K))(i:d.length=n:=by rfl):PG X e (QZ K<|G_ d):=Sa h<|La i
theorem xB{d:List We}{g:uY}{i:List uY}(j:PG X e (QZ K g))(k:ZE X d (CU<|i.map<|QZ K))(l:(Bf (e::d) X.env).map (·.2)=Bi e X.env::(Bf d X.env).map (·.2):=by rfl):ZE X (e::d) (CU<|(g::i).map<|QZ K):=Vy j k l
theorem pL:Hu X [] (yZ K VF):=Ta NO tT
theorem qL(y:X.K=K)(hl:PE X l tl):PI X tg l (MT K tl):=by
 subst y;intro de s σ H R I h;refine vJ (hl de s σ H _ I h) λv d ⟨x,w,i,B,j⟩=>?_;obtain⟨a,e,j⟩:=j;subst e;cases B;rcases j with⟨⟨C,k⟩,q⟩|⟨⟨C,k⟩,q⟩
 .obtain⟨its,F,p,G⟩:=i.list k;refine Wg p.isList ?_;refine⟨d.heap.objs.size,[d.heap.objs.size],_,_,w,rfl,i.kept (t':=d.toks) λb o e=>i0 _ e,jv a _,⟨_,U0 _ rfl,rfl,rfl⟩,λb m=>?_,q⟩;have e:b=d.heap.objs.size:=by simpa using m
  subst e;exact i.fpOk (V0 _)<|i.hok.fresh<|V0 _
 .obtain⟨its,F,p,G⟩:=i.tuple k;refine Eh (show d.heap.IsTuple a its.toArray from p) ?_;refine⟨d.heap.objs.size,[d.heap.objs.size],_,_,w,rfl,i.kept (t':=d.toks) λb o e=>i0 _ e,aj a _,⟨_,U0 _ rfl,rfl,rfl⟩,λb m=>?_,q⟩;have e:b=d.heap.objs.size:=by simpa using m
  subst e;exact i.fpOk (V0 _)<|i.hok.fresh<|V0 _
theorem UP(d:X.K=K)(hl:PE X l (lift K td)):PI X tg l (iJ K<|Fk td):=zS (qL d hl) uP
theorem rL(h:PI X tg l (Yy<|vZ<|[a].map (mZ K))):PI X tg l (iJ K<|ZF a):=zS h vP
theorem tL(h:PI X tg l (Zy<|vZ<|[a,b].map (mZ K))):PI X tg l (iJ K<|yj a b):=zS h wP
theorem uL(h:PI X tg l (vk K<|vZ<|[a,b].map (mZ K))):PI X tg l (iJ K<|zj a b):=zS h xP
theorem vL(h:PI X tg l (xk K<|vZ<|[a,b,c].map (mZ K))):PI X tg l (iJ K<|Bj a b c):=zS h yP
theorem VP(h:PI X tg l (WO K<|vZ<|[a].map (mZ K))):PI X tg l (iJ K<|qB a):=zS h NT
def aA(_ j:Int):Prop:=0<j
theorem op_catB:OpR X (Xf .Add) jB:=by
 intro de s σ H x y v u Q I k l h;obtain⟨a,b,j,ys,rfl,rfl,m,q,w,B,C,F⟩:=h;have d:SqT X.K H a j:=SqT.of m;have i:SqT X.K H b ys:=SqT.of q;by_cases hx:j=[]
 .subst hx;cases k;cases l;obtain⟨its,G,L,_⟩:=I.tuple d;obtain⟨P,R,M,_⟩:=I.tuple i;cases G;exact Qu L M ⟨.ref b,H,I,rfl,B rfl⟩
 .exact lI de s σ H (.ref a) (.ref b) v u Q I k l ⟨a,b,j,ys,rfl,rfl,d,i,hx,w,λe=>C hx e,λe p O=>F hx e p O⟩
theorem wL:OpR X (Xf .Add) (uV (AU λi j=>.int<|i+j)<|uV jB CO):=op_add.or<|op_catB.or DO
theorem xL:OpR X (Xf .Mult) (uV (rI CMul λi j=>.int<|i*j) EO):=op_mul.or FO
theorem WP:RZ K (dU<|AU λi j=>.int<|i-j) (o2<|JE λi j=>.int<|i-j):=Cq λ_ _ _=>.int _
theorem tW:RZ K (dU<|rI qO λi j=>.int<|i / j) (o2<|fI qO λi j=>.int<|i / j):=mP λ_ _ _=>.int _
theorem xY:RZ K (dU<|rI (λ_ j=>0<j) λi j=>.int<|i % j) (o2<|fI aA λi j=>.int<|i % j):=mP (C:=aA) λ_ _ _=>.int _
theorem yB:RZ K (dU<|rI rO λi j=>.int<|i ^ j.toNat) (o2<|fI rO λi j=>.int<|i ^ j.toNat):=mP λ_ _ _=>.int _
theorem oU:RZ K (dU<|AU λi j=>.bl<|decide<|i<j) (o2<|JE λi j=>.bool<|decide<|i<j):=Cq λ_ _ _=>.bl _
theorem XG:RZ K (dU<|AU λi j=>.bl<|decide<|i<=j) (o2<|JE λi j=>.bool<|decide<|i<=j):=Cq λ_ _ _=>.bl _
theorem Iq:RZ K (dU<|AU λi j=>.bl<|decide<|j<i) (o2<|JE λi j=>.bool<|decide<|j<i):=Cq λ_ _ _=>.bl _
theorem eN:RZ K (dU<|AU λi j=>.bl<|decide<|j<=i) (o2<|JE λi j=>.bool<|decide<|j<=i):=Cq λ_ _ _=>.bl _
theorem yL(d:X.K=K):IxR X (uV (mI K)<|vv K):=(Nu d).or<|DI d
end
mutual
noncomputable def mJ:D->Bool
 | .none=>true
 | .bool _=>true
 | .int _=>true
 | .str _=>true
 | .list xs=>plainAll xs
 | .tuple xs=>plainAll xs
 | .dict _=>false
noncomputable def plainAll:List D->Bool
 |[]=>true
 |x::a=>mJ x&&plainAll a
end
section
variable {K:Fg}{F:Hp}
theorem Da.is(s:Sub F H){v:V}{d:D}(q:Da K F v d):mJ d=true->Is K H v d:=by refine Da.rec (motive_1:=λv d _=>mJ d=true->Is K H v d) (motive_2:=λv d _=>plainAll d=true->IsAll K H v d) (motive_3:=λ_ _ _=>True) (motive_4:=λ_ _ _=>True) (motive_5:=λ_ _ _=>True) (motive_6:=λ_ _ _=>True) (λ_=>.non) (λb _=>.bl b) (λi _=>.int i) (λx _=>.str x) (λe _ t z=>.lst (SqL.of<|s _ _ e)<|t z) (λe _ t z=>.tup (SqT.of<|s _ _ e)<|t z) (λ_ _ _ z=>nomatch z) (λ_ _ _ z=>nomatch z) (λ_ z=>nomatch z) (λ_ z=>nomatch z) (λ_ z=>nomatch z) (λ_ _ _ z=>nomatch z) (λ_ _ _ z=>nomatch z) (λ_=>.nil) (λ_ _ a t z=>.cons (a (P6.mp z).1)<|t (P6.mp z).2) ?_ ?_ ?_ ?_ ?_ ?_ ?_ ?_ q<;>intros<;>trivial
theorem DaAll.is(s:Sub F H){c:List V}{b:List D}(q:DaAll K F c b):plainAll b=true->IsAll K H c b:=by refine DaAll.rec (motive_1:=λ_ _ _=>True) (motive_2:=λv d _=>plainAll d=true->IsAll K H v d) (motive_3:=λ_ _ _=>True) (motive_4:=λ_ _ _=>True) (motive_5:=λ_ _ _=>True) (motive_6:=λ_ _ _=>True) ?_ ?_ ?_ ?_ ?_ ?_ ?_ ?_ ?_ ?_ ?_ ?_ ?_ (λ_=>.nil) (λa _ _ t z=>.cons (a.is s (P6.mp z).1)<|t (P6.mp z).2) ?_ ?_ ?_ ?_ ?_ ?_ ?_ ?_ q<;>intros<;>trivial
theorem At.is(s:Sub F H)(h:At K F H v d)(p:mJ d=true):Is K H v d:=by
 rcases h with h|⟨a,o,rfl,_,e,h⟩
 .exact h.is s p
 .cases o<;>cases d<;>first|exact h.elim|(simp[mJ]at p)|skip
  .rename_i b c;exact .lst (SqL.of e) (DaAll.is s h<|by simpa [mJ]using p)
end
def zL(x y:D)(Q:Sl->Prop):Prop:=mJ x=true/\mJ y=true/\SeqAt.shaped x=true/\SeqAt.shaped y=true/\SeqAt.noMix x y=true/\Q (.fz<|.bool<|same x y)
def AL(x y:D)(Q:Sl->Prop):Prop:=mJ x=true/\mJ y=true/\SeqAt.shaped x=true/\SeqAt.shaped y=true/\SeqAt.noMix x y=true/\Q (.fz<|.bool<|!same x y)
noncomputable def Va:D->D->(Sl->Prop)->Prop
 | .int i,.int j,Q=>Q<|.fz<|.bool<|decide<|i=j
 | .list a,y,Q=>zL (.list a) y Q
 | .tuple a,y,Q=>zL (.tuple a) y Q
 | .str x,.str y,Q=>Q<|.fz<|.bool<|decide<|x=y
 |x,y,Q=>zL x y Q
noncomputable def Wa:D->D->(Sl->Prop)->Prop
 | .int i,.int j,Q=>Q<|.fz<|.bool<|!decide (i=j)
 | .list a,y,Q=>AL (.list a) y Q
 | .tuple a,y,Q=>AL (.tuple a) y Q
 | .str x,.str y,Q=>Q<|.fz<|.bool<|!decide (x=y)
 |x,y,Q=>AL x y Q
theorem fN{K:Fg}:RZ K (dU<|uV B_<|uG K false) (o2 Va):=Yv λG F σ H C x y d e Q l R b c w k=>by
 have a:zL d e l->uV B_ (uG K false) x y H Q:=λ⟨m,q,t,v,B,w⟩=>.inr ⟨d,e,b.is R.sub m,c.is R.sub q,t,v,B,k _ H F (.fz _) (Sub.refl _) R (Da.bl _) w⟩;unfold Va at w;split at w
 .rename_i i j;cases b.int;cases c.int;refine .inl ⟨rfl,k _ H F (.fz _) (Sub.refl _) R (Da.bl _) ?_⟩;have e:decide (V.int i=V.int j)=decide (i=j):=by rw[FU,l8]
  rw[e];exact w
 .exact a w
 .exact a w
 .rename_i i j;cases b.str;cases c.str;refine .inl ⟨rfl,k _ H F (.fz _) (Sub.refl _) R (Da.bl _) ?_⟩;have e:decide (V.str i=V.str j)=decide (i=j):=by rw[GU,l8]
  rw[e];exact w
 .exact a w
theorem bA{K:Fg}:RZ K (dU<|uV C_<|uG K true) (o2 Wa):=Yv λG F σ H C x y d e Q l R b c w k=>by
 have a:AL d e l->uV C_ (uG K true) x y H Q:=λ⟨m,q,t,v,B,w⟩=>.inr ⟨d,e,b.is R.sub m,c.is R.sub q,t,v,B,k _ H F (.fz _) (Sub.refl _) R (Da.bl _) w⟩;unfold Wa at w;split at w
 .rename_i i j;cases b.int;cases c.int;refine .inl ⟨rfl,k _ H F (.fz _) (Sub.refl _) R (Da.bl _) ?_⟩;have e:decide (V.int i=V.int j)=decide (i=j):=by rw[FU,l8]
  rw[e];exact w
 .exact a w
 .exact a w
 .rename_i i j;cases b.str;cases c.str;refine .inl ⟨rfl,k _ H F (.fz _) (Sub.refl _) R (Da.bl _) ?_⟩;have e:decide (V.str i=V.str j)=decide (i=j):=by rw[GU,l8]
  rw[e];exact w
 .exact a w
theorem zB{K:Fg}(a:X.K=K)(b:X.A.units+64<Mf):OpR X (Ef .Eq) (uV B_<|uG K false):=op_eq.or<|EI a b
theorem ZP{K:Fg}(a:X.K=K)(b:X.A.units+64<Mf):OpR X (Ef .NotEq) (uV C_<|uG K true):=op_ne.or<|FI a b
section
variable {P:Cf}{w:Xe}{K:Fg}{mg:Str->Jn Be}{base:Gf}
theorem Nd{st:Ah}(F:Fun K x qual st f fd)(S:FnScope N ps (kZ st))(i:∀(c:Be) (A:Dh) (outer:List Env) (s:Ge) (H:Hp) (E:XK),Room k (A.deeper<|Ai qual (kZ st) s.heap.objs.size f c)->PSs (HF VJ P w K mg base N qual (kZ st) f c A outer s H E).nox (eK st) (qZ K ts))(hl:∀a b,con a b->a.length=ps.length) (j:∀a b,con a b->(∀s∈a,∀d,s≠.ow d)/\ts (YF a b) (cU N.length a)):FnOk P w K mg base VJ (k+1) f fd ps (iZ K con):=by
 refine F.ok S (λl H Q E h=>?_)<|λc A outer s H l Q E m h=>⟨_,i c A outer s H E m,xT j h⟩;obtain⟨G,v,a,b,R,q,_⟩:=h;have t:=hl a b q;have e:=R.len;rw[g0,g0]at e;rw[e,t]
end
noncomputable def cA:List Sl->Bool
 |[]=>true
 | .ow _::_=>false
 |_::as=>cA as
theorem uW:∀{as:List Sl},cA as=true->∀s∈as,∀d,s≠.ow d
 | .fz _::as,h,s,a,d,z=>by
  rcases E1.mp a with e|e
  .subst e;cases z
  .exact uW (as:=as) h s e d z
 | .io _::as,h,s,a,d,z=>by
  rcases E1.mp a with e|e
  .subst e;cases z
  .exact uW (as:=as) h s e d z
def dA(K:Fg):List V->Hp->VK->Prop:=λb H Q=>∃(a:Ee) (ns:Qn),b=[.ref a]/\(SqL K H a (ns.map V.int)\/SqT K H a (ns.map V.int))/\Q (.int ns.sum) H
theorem XJ{K:Fg}(m:X.K=K)(t:X.calm=true):YZ X (.builtin "sum") (dA K):=by
 subst m;intro de s σ H y us Q I r h;obtain⟨a,ns,rfl,c,q⟩:=h;obtain⟨u,rfl,v⟩:=wK r;cases v;have l:=I.ok.hd t;rcases c with c|c
 .obtain⟨its,d,p,w⟩:=I.list c;have hi:Ag its ns:=JZ d;obtain⟨b,hx⟩:=hi.allInts.items;have e:s.heap.IsList a (Sf b):=hx ▸ p.isList;refine sum_intListG l e λh' x t' i=>?_;have j:ns=b.toList.map (·.1):=by
   rw[<-Ti,<-hx];exact(show numsOf its.toArray.toList=ns from hi.numsOf).symm
  have k:preSum (Vi b) b.size=ns.sum:=by rw[preSum_eq,V4<|by simp,j]
  rw[k];exact⟨.int ns.sum,H,I.kept i,⟨t',rfl⟩,q⟩
 .obtain⟨its,d,p,w⟩:=I.tuple c;have hi:Ag its ns:=JZ d;obtain⟨b,hx⟩:=hi.allInts.items;have e:s.heap.IsTuple a (Sf b):=hx ▸ p;refine PySem.W.ktm_sumG l e λh' x t' i=>?_;have j:ns=b.toList.map (·.1):=by
   rw[<-Ti,<-hx];exact(show numsOf its.toArray.toList=ns from hi.numsOf).symm
  have k:preSum (Vi b) b.size=ns.sum:=by rw[preSum_eq,V4<|by simp,j]
  rw[k];exact⟨.int ns.sum,H,I.kept i,⟨t',rfl⟩,q⟩
noncomputable def Xa:D->(Sl->Prop)->Prop
 | .list a,Q=>∃ns:Qn,a=ns.map q0/\Q (.fz<|.int ns.sum)
 | .tuple a,Q=>∃ns:Qn,a=ns.map q0/\Q (.fz<|.int ns.sum)
 |_,_=>Ln
theorem DaAll.intsV{K:Fg}{ns:Qn}(h:DaAll K F xs (ns.map q0)):xs=ns.map V.int:=by
 induction ns generalizing xs with
 |nil=>cases h;rfl
 |cons b bs a=>cases h with|cons h t=>cases h;rw[a t];rfl
theorem XY{K:Fg}:RZ K (dA K) (o1 Xa):=Bq λG F σ H l x d Q m R i w k=>by
 cases d<;>first|exact w.elim|skip
 case list j=>obtain⟨ns,e,w⟩:=w;subst e;obtain⟨a,us,rfl,b,c⟩:=i.list R.sub;have:=c.intsV;subst this;exact⟨a,ns,rfl,.inl<|SqL.of b,k _ H F (.fz _) (Sub.refl _) R (Da.int _) w⟩
 case tuple j=>obtain⟨ns,e,w⟩:=w;subst e;obtain⟨a,us,rfl,_,b,c⟩:=i.tuple R.sub;have:=c.intsV;subst this;exact⟨a,ns,rfl,.inr<|SqT.of b,k _ H F (.fz _) (Sub.refl _) R (Da.int _) w⟩
def fA(i j:Int):Prop:=-(2 ^ 62)<=i/\i<2 ^ 62/\-(2 ^ 62)<=j/\j<2 ^ 62
def aR:List V->Hp->VK->Prop:=λa H Q=>∃i j:Int,(a=[.int i,.int j]\/(a=[.int j]/\i=0))/\∀p,H p=none->Q (.ref p) (bJ H p<|.rng i j)
theorem AB:YZ X (.type "range") aR:=by
 intro de s σ H l us Q I r h;obtain⟨i,j,hx,q⟩:=h;have a:∀(t u v:Tok) (c:Nat),EP X de σ Q (.ref s.heap.objs.size) {s with heap:=s.heap.push {cls:=.type "range",data:=.fields #[.int i t,.int j u,.int 1 v]},toks:=c}:=λt u v c=>⟨.ref s.heap.objs.size,_,I.laid (t':=c) (o:=.rng i j) (λb o e=>i0 _ e) (V0 _) ⟨t,u,v,U0 _ rfl⟩,rfl,q _<|I.hok.fresh<|V0 _⟩;rcases hx with rfl|⟨rfl,rfl⟩
 .obtain⟨u,w,rfl,d,k⟩:=eY r;obtain⟨t,rfl⟩:=d;obtain⟨t',rfl⟩:=k;exact call_range_2<|a _ _ _ _
 .obtain⟨u,rfl,d⟩:=wK r;obtain⟨t,rfl⟩:=d;exact call_range_1<|a _ _ _ _
def cD:List V->Hp->VK->Prop:=λa H Q=>∃(p:Ee) (i j:Int),a=[.ref p]/\H p=some (.rng i j)/\fA i j/\(j-i).toNat<=2 ^ 24/\∀l,H l=none->Q (.ref l) (bJ H l<|.lst<|(G2 (j-i).toNat).map λ(n:Nat)=>V.int<|i+n)
theorem Jq(m:X.calm=true):YZ X (.type "list") cD:=by
 intro de s σ H U us Q I r h;obtain⟨p,i,j,rfl,w,⟨x,b2,B,C⟩,c,q⟩:=h;obtain⟨u,rfl,F⟩:=wK r;cases F;obtain⟨t,u,v,e⟩:=I.hok p _ w;have G:PQ i j 1=((j-i).toNat:Int):=by rw[rangeSize_one];split<;>lia
 refine call_list_range (I.ok.hd m) e (small_one x b2 B C) G c λh' L a M O P ff=>?_;refine⟨.ref s.heap.objs.size,_,I.laid (t':=L) (o:=.lst<|(G2 (j-i).toNat).map λ(n:Nat)=>V.int<|i+n) O (V0 _) ?_,rfl,q _<|I.hok.fresh<|V0 _⟩;refine⟨by rw[g0,N7];exact c,a.toList,M,?_,by simpa using P⟩;have b:∀(n:Nat) (ys:List Be),ys.length=n->(∀(k:Nat) (y:Be),ys[k]?=some y->∃t,y=.int (i+k*1) t)->Vals ((G2 n).map λ(n:Nat)=>V.int<|i+n) ys:=by
  intro n;induction n with
  |zero=>intro ys hl _;cases ys with|nil=>exact .nil|cons=>simp at hl
  |succ n R =>
   intro ys hl hy;rcases G9 ys with rfl|⟨d,z,rfl⟩
   .simp at hl
   .rw[List.concat_eq_append]at hl hy ⊢;have l:d.length=n:=by simpa using hl
    rw[j8,U2];refine Vals.append (R d l λk y e=>hy k y<|by rw[A3<|wJ e];exact e) ?_;obtain⟨t,rfl⟩:=hy n z (by rw[<-l];simp);exact .cons ⟨t,by simp⟩ .nil
 refine b _ _ (by rw[Z0];exact ff.1) λk y e=>?_;exact ff.2 k y (by simpa using e)
noncomputable def gA:D->D->(Sl->Prop)->Prop
 | .int i,.int j,Q=>fA i j/\(j-i).toNat<=2 ^ 24/\Q (.ow<|.list<|DZ i (j-i).toNat)
 |_,_,_=>Ln
theorem iA{K:Fg}:RZ K (λb H Q=>aR b H λv c=>cD [v] c Q) (o2 gA):=by
 intro G F σ H m b q Q t R a w k;match q,a,w with
 |[d,e],a,w =>
  obtain⟨v,u,rfl,x,y⟩:=a.two;have w:gA d e t:=w;unfold gA at w;split at w
  rotate_left
  .exact w.elim
  rename_i i j w;cases x.int;cases y.int;refine⟨i,j,.inl rfl,λp B=>⟨p,i,j,rfl,HZ,w.1,w.2.1,λl hl=>?_⟩⟩;have C:Rel K G F σ (bJ H p<|.rng i j) m:=R.laid B;have da:DaAll K F ((G2 (j-i).toNat).map λ(n:Nat)=>V.int<|i+n) (DZ i (j-i).toNat):=by have:=DaAll.ints (K:=K) (F:=F)<|(G2 (j-i).toNat).map λ(n:Nat)=>i+(n:Int);simpa [DZ,O0,Function.comp_def]using this
  obtain⟨I,L⟩:=C.newOw (o:=.lst _) (d:=.list<|DZ i (j-i).toNat) hl da;exact k _ _ F _ (Sub.refl _) I L w.2.2
section
variable {K:Fg}{e:We}{a b:AD}
theorem jA(h:PE X e (wS cD<|DW (wS aR<|vZ<|[a,b].map (mZ K)) sv)):PE X e (lift K<|zW [a,b]<|o2 gA):=nG h λq=>UF iA q
end
noncomputable def yH(a:Ev):List (VZ×Sum Nat D)->(List (D×D)->Prop)->Prop
 |[],k=>k []
 |(c,.inr d)::r,k=>yH a r λb=>k ((YV c,d)::b)
 |(c,.inl i)::r,k=>match a[i]? with
  |some (some<|.fz d)=>yH a r λb=>k ((YV c,d)::b)
  |_=>Ln
def gN(its:List (VZ×Sum Nat D)):TD:=λa Q=>yH a its λb=>Q (.ow<|.dict b) a
noncomputable def Ya:Sum Nat D->TE
 | .inl i=>IK i
 | .inr (.int n)=>tC<|.int n
 | .inr _=>λ_ _ _=>Ln
theorem dD{K:Fg}{G:Gh}{F t:Hp}{σ:L2.St}{x:Ev}(R:Rel K G F σ H x):∀{its:List (VZ×Sum Nat D)}{kk:List (D×D)->Prop}{b:List (V×V)->Hp->Prop},(∀p∈its,∀d,p.2=.inr d->∃n,d=.int n)->yH x its kk -> (∀a j,DaKV K F a j->a.map (·.1)=its.map (·.1)->kk j->b (a.map λy=>(kV y.1,y.2)) t)->NF (its.map λp=>(tC<|kV p.1,Ya p.2)) σ t b
 |[],kk,b,_,w,k=>k [] [] .nil rfl w
 |(c,.inr d)::r,kk,b,l,w,k=>by obtain⟨n,rfl⟩:=l (c,.inr d) L0 d rfl;refine dD R (its:=r) (λp m=>l p<|G0 _ m) w λa j da e q=>?_;exact k ((c,.int n)::a) _ (.cons (.int n) da) (by simp[e]) q
 |(c,.inl i)::r,kk,b,l,w,k=>by
  unfold yH at w;split at w
  .rename_i d B;obtain⟨v,C,I⟩:=R.fz i d B;refine⟨v,C,dD R (its:=r) (λp m=>l p<|G0 _ m) w λa j da e q=>?_⟩;exact k ((c,v)::a) _ (.cons I da) (by simp[e]) q
  .exact w.elim
theorem xV:∀(b a:List (VZ×V)),((a++b).map (·.1)).Nodup->MY a b=a++b
 |[],a,_=>by simp[MY]
 |(c,v)::r,a,h=>by
  have d:qY a c=none:=by unfold qY;rw[List.find?_eq_none.mpr ?_];rfl;intro x hx;simp only[decide_eq_true_eq];intro z;simp only[U2,Y0,m9]at h;exact h.2.2 x.1 (U7 hx) c L0 z
  have e:aY a c v=a++[(c,v)]:=yu v d;show MY (aY a c v) r=_;rw[e,xV r (a++[(c,v)])<|by simpa using h];simp
theorem BL{K:Fg}(its:List (VZ×Sum Nat D))(c:(its.map (·.1)).Nodup)(hl:its.length<=15)(i:∀p∈its,∀d,p.2=.inr d->∃n,d=.int n)(h:PE X e (Eu<|its.map λp=>(tC<|kV p.1,Ya p.2))):PE X e (lift K<|gN its):=nG h λ{σ H Q} q=>by
 obtain⟨G,F,j,x,R,w,k⟩:=q;intro p l;refine dD R i w λa m da b q=>⟨HZ,a,rfl,?_,?_⟩
 .have:=Te E5 b;simp at this;exact le_of_eq_of_le this hl
 .rw[xV a [] (by simpa [b]using c),QE];obtain⟨t,v⟩:=R.newOw (o:=.dK<|[]++a) (d:=.dict m) l (by rw[aQ];exact da);exact k _ _ F _ j (Sub.refl _) t v q
noncomputable def clean1(a:Ev)(i:Nat):Ev:=match a[i]? with
 |some (some<|.io _)=>a
 |some _=>a.set i none
 |none=>a
noncomputable def clean(ks:List Nat)(a:Ev):Ev:=match ks with
 |[]=>a
 |i::r=>clean r<|clean1 a i
section
variable {K:Fg}{G:Gh}{F:Hp}{σ:L2.St}{ρ:Ev}
theorem Rel.drop(R:Rel K G F σ H ρ){i:Nat}(m:∀d,ρ[i]?≠some (some<|Sl.io d)):Rel K G F σ H (ρ.set i none):=by
 refine⟨by rw[A6];exact R.len,R.sub,R.sub0,R.fn,R.keep,λj d e=>?_,λj t e q=>?_,λj d b e v=>?_,λj b e=>?_,λj d e=>?_,λj k t u b a w c x y B=>?_⟩
 .rcases sZ e with⟨rfl,z⟩|⟨n,z⟩
  .cases z
  .exact R.fz j d z
 .rcases sZ e with⟨rfl,z⟩|⟨n,z⟩
  .cases z
  .exact R.ow j t z q
 .rcases sZ e with⟨rfl,z⟩|⟨n,z⟩
  .cases z
  .exact R.new j d b z v
 .obtain⟨C,a,c⟩:=R.io j b e;have n:i≠j:=λz=>by subst z;exact m _ a
  exact⟨C,by rw[P1 n];exact a,c⟩
 .rcases sZ e with⟨rfl,z⟩|⟨n,z⟩
  .cases z
  .exact R.ioi j d z
 .rcases sZ a with⟨rfl,z⟩|⟨n,z⟩
  .cases z
  .rcases sZ c with⟨rfl,l⟩|⟨I,l⟩
   .cases l
   .exact R.ap j k t u b z w l x y B
theorem Rel.clean1(R:Rel K G F σ H ρ)(i:Nat):Rel K G F σ H (clean1 ρ i):=by
 unfold L3.clean1;split
 .exact R
 .rename_i a b;exact R.drop λd z=>by rw[b]at z;cases z;exact a _ rfl
 .exact R
theorem Rel.clean(ks:List Nat):∀{ρ:Ev},Rel K G F σ H ρ->Rel K G F σ H (clean ks ρ):=by
 induction ks with
 |nil=>intro ρ R;exact R
 |cons i r a=>intro ρ R;exact a<|R.clean1 i
end
noncomputable def YY(ks:List Nat)(g:uY)(b:IY)(E:DE):List D->Ev->Prop
 |[],c=>E.nx c
 |d::i,c=>g d c λe=>b {nx:=λa=>YY ks g b E i (clean ks a),rt:=E.rt,bk:=λa=>E.nx (clean ks a),ct:=λa=>YY ks g b E i<|clean ks a} e
noncomputable def Kq(ks:List Nat)(b:vq)(g:uY)(c:IY):IY:=λE d=>b d λe a=>YY ks g c E e<|clean ks a
theorem bR{K:Fg}{g:uY}{E:Ends}(h:qZ K (Kq ks ti g tb) E σ H):nO (iJ K ti) (QZ K g) (qZ K tb) E σ H:=by
 obtain⟨G,F,ρ,D,R,w,n,r,b,c⟩:=h;refine⟨G,F,ρ,_,R,w,λJ H1 F1 t ρ1 s1 R1 wk w1=>?_⟩;refine⟨λi m σ H=>m=t.length-i/\i<=t.length/\∃M a,Sub F1 M/\Rel K G M σ H a/\YY ks g tb D (t.drop i) a,⟨t.length,rfl,j4 _,F1,_,Sub.refl _,R1.clean ks,w1⟩,?_⟩;rintro i m σ H ⟨rfl,hi,M,a,s',R',Y⟩;obtain⟨hgo,ag⟩:=wk i H M s' R'.sub;cases e:t[i]? with
 |none=>have hl:t.length<=i:=L4.mp e;refine .inl ⟨ag<|N3 hl hi,?_⟩;rw[t6 hl]at Y;exact n σ H M a (s1.trans s') R' Y
 |some d =>
  obtain⟨go,yl⟩:=hgo d e;have hl:=wJ e;rw[wq e]at Y;refine .inr ⟨go,λO Z=>∃B k,Sub F1 B/\Rel K G B O Z k/\YY ks g tb D (t.drop<|i+1) k,λO Z ⟨B,k,z1,z2,z3⟩=>⟨t.length-(i+1),w8 _ _ hl,rfl,hl,B,k,z1,z2,z3⟩,λx Z y=>?_⟩;obtain⟨B,P,t2,t3,t4,t5⟩:=yl x Z y;have R2:=R'.turn P t2 t3 t4;refine⟨G,B,a,d,_,R2,t5,Y,λσ3 ρ3 R3 w3=>?_⟩;refine⟨G,B,ρ3,_,R3,w3,λj U C l I L q=>?_,λv j U C x4 l I L r4 q=>?_,λj U C l I L q=>?_,λj U C l I L q=>?_⟩
  .exact⟨C,_,s'.trans<|P.trans I,L.clean ks,q⟩
  .exact r v j U C x4 l (s1.trans<|s'.trans<|P.trans I) L r4 q
  .exact n j U C _ (s1.trans<|s'.trans<|P.trans I) (L.clean ks) q
  .exact⟨C,_,s'.trans<|P.trans I,L.clean ks,q⟩
theorem CL{K:Fg}{st:Ah}(ks:List Nat){a:vq}{g:uY}(h:PS X st (nO (iJ K a) (QZ K g)<|qZ K t)):PS X st (qZ K<|Kq ks a g t):=ly h bR
theorem nK{ks:List Nat}{g:uY}{i:IY}{E:DE}(J:List D->Ev->Prop)(j:∀d c b,J (d::c) b->∀N:Ev->Prop,(∀a,J c a->N a)->g d b λe=>i {nx:=λa=>N (clean ks a),rt:=E.rt,bk:=λa=>E.nx (clean ks a),ct:=λa=>N<|clean ks a} e)(hd:∀b,J [] b->E.nx b):∀{c:List D}{b:Ev},J c b->YY ks g i E c b
 |[],b,h=>hd b h
 |d::c,b,h=>j d c b h _ λa k=>nK J j hd k
noncomputable def DK(n:Nat)(g:uY)(e:MW)(i:TD):List D->List D->Ev->(List D->Ev->Prop)->Prop
 |[],a,j,Q=>Q a j
 |d::m,a,j,Q=>g d j λk=>e k λb c=>if b=true then i c λr l=>DK n g e i m (a++[r.d]) (clean (G2 n) l) Q else DK n g e i m a (clean (G2 n) c) Q
def yY(c:vq)(own:List Str)(fr:List Nat)(g:uY)(d:MW)(e:TD):TD:=λi Q=>c i λb a=>b.length<=sizeLine/\DK own.length g d e b [] (sH own fr a) λys j=>Q (.ow<|.list ys)<|bU fr (j.drop own.length) 0 a
theorem Hk{K:Fg}{g:uY}(nd:fr.Nodup){σ:L2.St}{H:Hp}{Q:VK}(h:lift K (yY ti own fr g tc te) σ H Q):pH (iJ K ti) own fr (QZ K g) (yZ K tc) (lift K te) σ H Q:=by
 obtain⟨G,F,ρ,Qd,R,w,k⟩:=h;refine⟨G,F,ρ,_,R,w,λJ H1 U q c s1 R1 wk ⟨hz,w1⟩=>?_⟩;have Ri:=R1.inner (own:=own) nd;refine⟨λi m ys B H=>m=q.length-i/\i<=q.length/\∃C j a,Rel K (IE own fr U H1 σ c) C B H j/\DaAll K C ys a/\a.length<=i/\DK own.length g tc te (q.drop i) a j (λys B=>Qd (.ow<|.list ys)<|bU fr (B.drop own.length) 0 c),
   ⟨q.length,rfl,j4 _,U,_,[],Ri,.nil,j4 _,w1⟩,?_⟩;rintro i m ys B H' ⟨rfl,hi,C,j,a,I,da,hl,O⟩;obtain⟨Y,ag⟩:=wk i H' C I.sub0 I.sub;cases e:q[i]? with
 |none=>have rh:q.length<=i:=L4.mp e;refine .inl ⟨ag<|N3 rh hi,λDd hD=>?_⟩;rw[t6 rh]at O;have Ro:=R1.outer I nd;obtain⟨Rn,rn⟩:=Ro.newOw (o:=.lst ys) (d:=.list a) hD da;exact k _ _ C _ _ (s1.trans I.sub0) Rn rn O
 |some d =>
  obtain⟨go,yl⟩:=Y d e;have Z:=wJ e;rw[wq e]at O;refine .inr ⟨go,by rw[da.length];exact W0 hl<|B0 Z hz,λdf L P=>∃t l M,Rel K (IE own fr U H1 σ c) t L P l/\DaAll K t df M/\M.length<=i+1/\DK own.length g tc te (q.drop<|i+1) M l (λys B=>Qd (.ow<|.list ys)<|bU fr (B.drop own.length) 0 c),
    λdf L P ⟨t,l,M,z1,z2,z3,z4⟩=>⟨q.length-(i+1),w8 _ _ Z,rfl,Z,t,l,M,z1,z2,z3,z4⟩,λx P y=>?_⟩;obtain⟨t,t1,t2,t3,t4,t5⟩:=yl x P y;have R2:=I.turn t1 t2 t3 t4;refine⟨_,t,j,d,_,R2,t5,O,λτ3 ρ3 R3 w3=>?_⟩;refine⟨_,t,ρ3,_,R3,w3,λb H4 F4 ρ4 s4 R4 w4=>?_⟩;cases b with
  |false=>exact⟨F4,_,a,R4.clean _,da.mono<|t1.trans s4,K5 hl,w4⟩
  |true=>refine⟨_,F4,ρ4,_,R4,w4,λv H5 F5 r ρ5 s5 R5 r5 w5=>?_⟩;obtain⟨F6,s6,R6,d6⟩:=r5.frz R5;exact⟨F6,_,a++[r.d],R6.clean _,(da.mono<|t1.trans<|s4.trans<|s5.trans s6).append<|.cons d6 .nil,by simp;omega,w5⟩
section
variable {K:Fg}{e:We}{st:Ah}{ti:vq}{own:List Str}{g:uY}{tc:MW}{te:TD}
theorem BB(a:fr.Nodup)(h:PE X e (pH (iJ K ti) own fr (QZ K g) (yZ K tc)<|lift K te)):PE X e (lift K<|yY ti own fr g tc te):=nG h<|Hk a
theorem CB(a:fr.Nodup)(h:PS X st (eV (pH (iJ K ti) own fr (QZ K g) (yZ K tc)<|lift K te)<|FY i)):PS X st (qZ K<|rq i<|yY ti own fr g tc te):=ly h λq=>Hk a<|cN q
end
theorem DB{g:uY}{m:MW}{q:TD}{Q:List D->Ev->Prop}(J:List D->List D->Ev->Prop)(t:∀d i a e,J (d::i) a e->∀N:List D->Ev->Prop,(∀j c,J i j c->N j c)->g d e λk=>m k λb c=>if b=true then q c λr l=>N (a++[r.d]) (clean (G2 n) l) else N a (clean (G2 n) c))(hd:∀a e,J [] a e->Q a e):∀{i a:List D}{e:Ev},J i a e->DK n g m q i a e Q
 |[],a,e,h=>hd a e h
 |d::i,a,e,h=>t d i a e h _ λj c v=>DB J t hd v
theorem Ik{g:uY}{Q:List D->Ev->Prop}(J:List D->List D->Ev->Prop)(v:∀d l a k,J (d::l) a k->∀N:List D->Ev->Prop,(∀t j,J l t j->N t j)->g d k λc=>m c λr i=>N (a++[r.d])<|clean (G2 n) i)(hd:∀a k,J [] a k->Q a k) {l a:List D}{k:Ev} (h:J l a k):DK n g VF m l a k Q:=
 DB J (λd l a k h N hN=>by
   have q:=v d l a k h N hN;have e:(λc=>m c λr i=>N (a++[r.d])<|clean (G2 n) i)=λc=>VF c λb j=>if b=true then m j (λr i=>N (a++[r.d])<|clean (G2 n) i) else N a (clean (G2 n) j):=by funext c;show _=(if true=true then m c (λr i=>N (a++[r.d])<|clean (G2 n) i) else N a (clean (G2 n) c));rw[De rfl]
   rw[<-e];exact q) hd h
theorem iK{g:uY}{Q:List D->Ev->Prop}(f:D->D){i:Ev}{j:List D}(l:∀d∈j,∀N:D->Ev->Prop,N (f d) i->g d i λk=>te k λr a=>N r.d<|clean (G2 n) a)(hd:Q (j.map f) i):DK n g VF te j [] i Q:=by
 refine Ik (λrest b c=>c=i/\∃pre,j=pre++rest/\b=pre.map f) ?_ ?_ ⟨rfl,[],rfl,rfl⟩
 .rintro d m b c ⟨rfl,pre,e,rfl⟩ N hN;exact l d (by rw[e];simp) (λx a=>N (pre.map f++[x]) a)<|hN _ _ ⟨rfl,pre++[d],by rw[e];simp,by simp⟩
 .rintro b c ⟨rfl,pre,e,rfl⟩;rw[Z2]at e;subst e;exact hd
theorem lA{g:uY}{Q:List D->Ev->Prop}(p:D->Bool)(f:D->D){j:Ev}{l:List D}(t:∀d∈l,∀(N:D->Ev->Prop) (M:Ev->Prop),(p d=true->N (f d) j)->(p d=false->M j)->g d j λm=>tc m λb k=>if b=true then te k λr a=>N r.d (clean (G2 n) a) else M (clean (G2 n) k))(hd:Q ((l.filter p).map f) j):DK n g tc te l [] j Q:=by
 refine DB (λrest c i=>i=j/\∃pre,l=pre++rest/\c=(pre.filter p).map f) ?_ ?_ ⟨rfl,[],rfl,rfl⟩
 .rintro d v c i ⟨rfl,pre,e,rfl⟩ N hN;exact t d (by rw[e];simp) (λx a=>N ((pre.filter p).map f++[x]) a) (λa=>N ((pre.filter p).map f) a) (λq=>hN _ _ ⟨rfl,pre++[d],by rw[e];simp,by simp[q]⟩)
   (λq=>hN _ _ ⟨rfl,pre++[d],by rw[e];simp,by simp[q]⟩)
 .rintro c i ⟨rfl,pre,e,rfl⟩;rw[Z2]at e;subst e;exact hd
def iN(K:Fg):List V->Hp->VK->Prop:=λa H Q=>∃(x:V) (d:Oe),a=[x]/\Is K H x d/\d.showable=true/\d.hasDict=false/\d.depth+1<=64/\d.shown.length<=sizeLine/\Q (.str d.shown) H
theorem zY{K:Fg}(B:X.K=K)(c:Room k X.A):YZ X (.builtin "repr") (iN K):=by
 subst B;intro de s σ H F us Q I r h;obtain⟨x,d,rfl,hd,j,m,v,hl,q⟩:=h;obtain⟨u,rfl,a⟩:=wK r;obtain⟨as,w⟩:=hd.reads I a;have y:=c.units;cases hd with
 |non=>cases a;exact PySem.P.repr_of_none ⟨.str _,H,I.tok _,⟨_,rfl⟩,q⟩
 |bl b=>cases a;exact PySem.P.repr_of_bool ⟨.str _,H,I.tok _,⟨_,rfl⟩,by cases b<;>exact q⟩
 |int i=>obtain⟨t,rfl⟩:=a;exact PySem.P.repr_of_int (by simpa [PyData.showable]using j) ⟨.str _,H,I.tok _,⟨_,rfl⟩,q⟩
 |str x=>obtain⟨t,rfl⟩:=a;exact PySem.P.repr_of_str ⟨.str _,H,I.tok _,⟨_,rfl⟩,q⟩ hl
 |lst _ _=>cases a;exact repr_of_reads' w j (λz=>by rw[m]at z;cases z) c.gd (W0 (T0 v _) y) (λ_ _ e=>e) (λh' u C l=>⟨.str _,H,I.kept l,⟨u,rfl⟩,q⟩) hl
 |tup _ _=>cases a;exact repr_of_reads' w j (λz=>by rw[m]at z;cases z) c.gd (W0 (T0 v _) y) (λ_ _ e=>e) (λh' u C l=>⟨.str _,H,I.kept l,⟨u,rfl⟩,q⟩) hl
def nA(d:D)(Q:Sl->Prop):Prop:=mJ d=true/\d.showable=true/\d.depth+1<=64/\d.shown.length<=sizeLine/\Q (.fz<|.str d.shown)
mutual
theorem yV:∀{d:D},mJ d=true->d.hasDict=false
 | .none,_=>rfl
 | .bool _,_=>rfl
 | .int _,_=>rfl
 | .str _,_=>rfl
 | .list xs,h=>by have:=plainAll_noDict (xs:=xs) (by simpa [mJ]using h);simpa [PyData.hasDict]using this
 | .tuple xs,h=>by have:=plainAll_noDict (xs:=xs) (by simpa [mJ]using h);simpa [PyData.hasDict]using this
 | .dict _,h=>by simp[mJ]at h
theorem plainAll_noDict:∀{xs:List D},plainAll xs=true->ZX xs=false
 |[],_=>rfl
 |x::xs,h=>by simp[plainAll]at h;simp[ZX,yV h.1,plainAll_noDict h.2]
end
theorem KU{K:Fg}:RZ K (iN K) (o1 nA):=Bq λG F σ H j x d Q l R b w k=>by obtain⟨a,c,e,i,w⟩:=w;exact⟨x,d,rfl,b.is R.sub a,c,yV a,e,i,k _ H F (.fz _) (Sub.refl _) R (Da.str _) w⟩
structure WE(X:Cx)(e:We)(t:TE):Prop where
 h:PE X e t
structure WA(X:Cx)(es:List We)(t:TA):Prop where
 h:PA X es t
structure WT(X:Cx)(e:We)(t:TT):Prop where
 h:PT X e t
structure WW(X:Cx)(e:We)(t:TT):Prop where
 h:PW X e t
structure WS(X:Cx)(s:Ah)(t:TS):Prop where
 h:PS X s t
structure WSs(X:Cx)(s:List Ah)(t:TS):Prop where
 h:PSs X s t
structure WG(X:Cx)(e:We)(t:TG):Prop where
 h:PG X e t
structure WGs(X:Cx)(es:List We)(t:Oy):Prop where
 h:ZE X es t
structure WI(X:Cx)(g e:We)(t:TI):Prop where
 h:PI X g e t
structure WIf(X:Cx)(es:List We)(t:TT):Prop where
 h:Hu X es t
section
variable {K:Fg}{e e1 e2 e3:We}{es:List We}{a b c:AD}{as:List AD}{td te tf:TD}{tc tc':MW}{st:Ah}{sts:List Ah}{t u:IY}{p pos ze p2 wf bf kg:Pos}{x:Str}
theorem wn(i:Nat)(hN:X.N[i]?=some x:=by rfl)(d:UE X.env.scope x:=by first|exact Or.inl rfl|exact Or.inr (Or.inl rfl)|exact Or.inr<|Or.inr rfl)(hd:(x==("__debug__":Str))=false:=by decide)
  (j:(x==("__classdict__":Str))=false:=by decide):WE X (.Name x pos) (mZ K<|.inl i):=⟨Wz hN d hd j⟩
theorem wv(i:Nat)(hN:X.N[i]?=some x:=by rfl)(d:UE X.env.scope x:=by first|exact Or.inl rfl|exact Or.inr (Or.inl rfl)|exact Or.inr<|Or.inr rfl)(hd:(x==("__debug__":Str))=false:=by decide)
  (j:(x==("__classdict__":Str))=false:=by decide):WE X (.Name x pos) (lift K<|Pv i):=⟨BP<|Wz hN d hd j⟩
theorem wx(h:WE X e (lift K td)):WE X e (mZ K<|.inr td):=⟨h.h⟩
theorem jK:WA X [] (vZ<|([]:List AD).map<|mZ K):=⟨TV⟩
theorem LU(d:WE X e (mZ K a))(i:WA X es (vZ<|as.map<|mZ K))(j:xZ e=true:=by rfl):WA X (e::es) (vZ<|(a::as).map<|mZ K):=⟨cL d.h i.h<|nZ j⟩
theorem OZ:WE X (.Constant (.int i) k pos) (lift K<|dC<|.int i):=⟨eL (λ_=>.int _) RV⟩
theorem zH{b:Bool}:WE X (.Constant (.bool b) k pos) (lift K<|dC<|.bool b):=⟨eL (λ_=>.bl _) SM⟩
theorem pU{z:Str}:WE X (.Constant (.str z) k pos) (lift K<|dC<|.str z):=⟨eL (λ_=>.str _) DF⟩
theorem w_bin{r:R2}{f:D->D->(Sl->Prop)->Prop}(ok:RZ K (dU r) (o2 f))(d:OpR X (Xf op) r)(i:WE X e1 (mZ K a))(j:WE X e2 (mZ K b)):WE X (.BinOp e1 op e2 pos) (lift K<|zW [a,b]<|o2 f):=⟨QT ok<|NS d i.h j.h⟩
theorem AH(d:WE X e1 (mZ K a)):WE X (.UnaryOp .USub e1 pos) (lift K<|zW [a]<|o1 FT):=⟨Md tP<|OS tO d.h⟩
theorem Jk{d:CmpOp}{r:R2}{f:D->D->(Sl->Prop)->Prop}(ok:RZ K (dU r) (o2 f))(i:OpR X (Ef d) r)(j:WE X e1 (mZ K a))(k:WE X e2 (mZ K b))(l:d≠.In:=by decide)(m:d≠.NotIn:=by decide):WE X (.Compare e1 [d] [e2] pos) (lift K<|zW [a,b]<|o2 f):=⟨QT ok<|gI i j.h k.h<|cu _ l m⟩
theorem Kk{k d:CmpOp}{p q:Int->Int->Bool}(l:OpR X (Ef k) (AU λi j=>.bl<|p i j))(m:OpR X (Ef d) (AU λi j=>.bl<|q i j))(v:WE X e1 (mZ K a))(w:WE X e2 (mZ K b))(y:WE X e3 (mZ K c))
  (B:lastMarks [k,d] [e2,e3]=false:=by with_unfolding_all rfl):WE X (.Compare e1 [k,d] [e2,e3] pos) (lift K<|vj p q a b c):=⟨uB<|fu l m v.h w.h y.h B⟩
theorem EB(h:WE X e tr):WE X (.BoolOp op [e] pos) tr:=⟨eO h.h⟩
theorem FB{rest:List We}(d:WE X e1 (lift K td))(i:WE X (.BoolOp .And (e2::rest) pos) (lift K te)):WE X (.BoolOp .And (e1::e2::rest) pos) (lift K<|Wu td te):=⟨GP<|fO d.h i.h⟩
theorem w_not(d:WE X e1 (lift K td)):WE X (.UnaryOp .Not e1 pos) (lift K<|Xu td):=⟨HP<|iO d.h⟩
theorem KZ{k:Nat}{i:List Str}{d:Con}(C:Cal X.prog X.w X.K X.mg X.base k x i (iZ K d))(j:Room k X.A)(l:WA X (e::es) (vZ<|as.map<|mZ K))(m:Gl X x:=by rfl)(q:(x==("__debug__":Str))=false:=by decide)
  (v:xZ e=true:=by rfl) (y:es.all xZ=true:=by rfl):WE X (.Call (.Name x p) (e::es) [] pos) (lift K<|eB d as):=⟨UT<|Lu C j l.h m q (nZ v)<|xJ y⟩
theorem jJ{k i:Nat}{j:List Str}{d:Con}(C:Cal X.prog X.w X.K X.mg X.base k x j (iZ K d))(l:Room k X.A)(m:WA X (e::es) (vZ<|(Sum.inl i::as).map<|mZ K))(q:Gl X x:=by rfl)(v:(x==("__debug__":Str))=false:=by decide)
  (y:xZ e=true:=by rfl) (B:es.all xZ=true:=by rfl):WE X (.Call (.Name x p) (e::es) [] pos) (lift K<|WF d i as):=⟨IP<|Lu C l m.h q v (nZ y)<|xJ B⟩
theorem BZ{id:String}{r:List V->Hp->VK->Prop}{f:List D->(Sl->Prop)->Prop}(ok:RZ K r f)(d:YZ X (.builtin id) r)(i:X.mg x=none)(j:Qf x=some (.builtin id))(k:WA X (e::es) (vZ<|as.map<|mZ K))(l:Gl X x:=by rfl)(m:x ≠ "__name__":=by decide)(q:(x==("__debug__":Str))=false:=by decide)
  (v:xZ e=true:=by rfl) (w:es.all xZ=true:=by rfl):WE X (.Call (.Name x p) (e::es) [] pos) (lift K<|zW as f):=⟨Bc ok<|WU d l i j k.h m q (nZ v)<|xJ w⟩
theorem WK{T:String}{r:List V->Hp->VK->Prop}{f:List D->(Sl->Prop)->Prop}(ok:RZ K r f)(d:YZ X (.type T) r)(i:X.mg x=none)(j:Qf x=some (.type T))(k:WA X (e::es) (vZ<|as.map<|mZ K))(l:Gl X x:=by rfl)(m:x ≠ "__name__":=by decide)(q:(x==("__debug__":Str))=false:=by decide)
  (v:xZ e=true:=by rfl) (w:es.all xZ=true:=by rfl):WE X (.Call (.Name x p) (e::es) [] pos) (lift K<|zW as f):=⟨Bc ok<|UV d l i j k.h m q (nZ v)<|xJ w⟩
theorem GB(T:Ki)(k:X.K=K)(l:X.mg "isinstance"=none){y:Str}(m:X.mg y=none)(d:Qf y=some (.type T.nm))(q:WE X e1 (mZ K a))(w:Gl X "isinstance":=by rfl)(B:Gl X y:=by rfl)(hy:y ≠ "__name__":=by decide)(i:(y==("__debug__":Str))=false:=by decide)(j:xZ e1=true:=by rfl) :
  WE X (.Call (.Name "isinstance" p) [e1,.Name y p2] [] pos) (lift K<|zW [a]<|o1<|qP T):=⟨CP T<|WU (Mv k) w l boot_isinstance (cK q.h (cK (Rx B m d (v:=.ty T.nm) rfl hy i) TV<|nZ rfl)<|nZ j) (by decide) (by decide) (nZ j)<|xJ rfl⟩
theorem Za(i:X.calm=true)(j:X.mg "list"=none)(k:X.mg "range"=none)(l:WA X [e1,e2] (vZ<|[a,b].map (mZ K)))(m:Gl X "list":=by rfl)(q:Gl X "range":=by rfl)(v:xZ e1=true:=by rfl)(d:xZ e2=true:=by rfl) :
  WE X (.Call (.Name "list" p) [.Call (.Name "range" p2) [e1,e2] [] ze] [] pos) (lift K<|zW [a,b]<|o2 gA) :=
 ⟨jA<|UV (Jq i) m j Zh (cK (UV AB q k boot_range l.h (by decide) (by decide) (nZ v)<|xJ<|by simp[d]) TV<|nZ rfl) (by decide) (by decide) (nZ rfl)<|xJ rfl⟩
theorem bb(d:X.K=K)(i:WE X e1 (mZ K a))(j:WE X e2 (mZ K b))(k:JF e2:=by exact λ_ _=>rfl):WE X (.Subscript e1 e2 pos) (lift K<|zW [a,b]<|o2 Ma):=⟨QT CT<|ou (yL d) i.h j.h k⟩
theorem BH(d:X.A.units+1<Mf)(i:WE X e1 (mZ K a))(j:WE X e2 (mZ K b))(k:Bu e2:=by exact λ_ _=>rfl):WE X (.Subscript e1 e2 pos) (lift K<|zW [a,b]<|o2 dN):=⟨QT bL<|qI d i.h j.h k⟩
theorem aJ{k:Nat}(h:WA X es (vZ<|as.map<|mZ K))(hl:as.length<=1000:=by decide):WE X (.Tuple es k pos) (lift K<|Dq as Dk):=⟨DP hl<|wO h.h⟩
theorem kJ(h:WA X es (vZ<|as.map<|mZ K))(hl:as.length<=1000:=by decide):WE X (.List es pos) (lift K<|Dq as Ek):=⟨FP hl<|xO h.h⟩
theorem cR(its:List (VZ×Sum Nat D))(i:(its.map (·.1)).Nodup)(hl:its.length<=15)(j:∀p∈its,∀d,p.2=.inr d->∃n,d=.int n)(h:PE X e (Eu<|its.map λp=>(tC<|kV p.1,Ya p.2))):WE X e (lift K<|gN its):=⟨BL its i hl j h⟩
theorem Ej{own:List Str}{d:vq}{g:uY}(i:X.calm=true)(S:LW X.env.scope X.N fr sc=true)(hi:WI X tg we (iJ K d))(j:∀C s H ex,WG (CZ X own fr sc C s H ex) tg<|QZ K g)
  (k:∀C s H ex,WIf (CZ X own fr sc C s H ex) ng<|yZ K tc) (l:∀C s H ex,WE (CZ X own fr sc C s H ex) ig<|lift K te) (m:fr.Nodup:=by decide) (q:VY we=true:=by rfl):WE X (.ListComp ig [⟨tg,we,ng,0⟩] sc pos) (lift K<|yY d own fr g tc te) :=
 ⟨BB m<|Mu i (OG S) hi.h (λC s H ex=>(j C s H ex).h) (λC s H ex=>(k C s H ex).h) (λC s H ex=>(l C s H ex).h)<|fU q⟩
theorem HB{id:String}{i:Nat}{f:List D->List D->(D->D->Prop)->Prop}(ok:KE K r f)(j:X.K=K)(d:Slot "list" name id)(k:Gm (.builtin id)=pure (.type "method_descriptor"))(l:D_ X id r)(m:WE X (.Name x p) (mZ K<|.inl i))(q:WA X (e::es) (vZ<|as.map<|mZ K))
  (v:Kg (.Name x p) name X.env (Rf (.Name x p) X.env)=Rf (.Name x p) X.env:=by rfl)
  (w:((Wf bf<|Re (e::es) X.env).all (λx=>!x.1)&&(Mm bf<|Li [] X.env).all (λx=>x.1.isSome)&&decide ((e::es).length+([]:List Qh).length+(if ([]:List Qh).isEmpty then 0 else 1)<30))=true:=by rfl)
  (y:(wf.endLine==bf.line)=true:=by rfl) (B:xZ e=true:=by rfl) (C:es.all xZ=true:=by rfl):WE X (.Call (.Attribute (.Name x p) name wf) (e::es) [] bf) (lift K<|RG i as f):=by
 subst j;exact⟨Ua ok<|WM PySem.F.plainAttrs_list d k l m.h q.h v w y (nZ B)<|xJ C⟩
theorem oA{id:String}{i:Nat}{f:List D->List D->(D->D->Prop)->Prop}(ok:KE K r f)(j:X.K=K)(d:Slot "list" name id)(k:Gm (.builtin id)=pure (.type "method_descriptor"))(l:D_ X id r)(m:WE X (.Name x p) (mZ K<|.inl i))
  (q:Kg (.Name x p) name X.env (Rf (.Name x p) X.env)=Rf (.Name x p) X.env:=by rfl) (v:(wf.endLine==bf.line)=true:=by rfl):WE X (.Call (.Attribute (.Name x p) name wf) [] [] bf) (lift K<|RG i [] f):=by
 subst j;exact⟨VT ok<|tu PySem.F.plainAttrs_list d k l m.h q v⟩
theorem SJ{d:CmpOp}{r:R2}{f:D->D->(Sl->Prop)->Prop}(ok:RZ K (dU r) (o2 f))(i:OpR X (Ef d) r)(j:WE X e1 (mZ K a))(k:WE X e2 (mZ K b))(l:d≠.In:=by decide)(m:d≠.NotIn:=by decide):WT X (.Compare e1 [d] [e2] pos) (yZ K<|oq<|zW [a,b]<|o2 f):=⟨Cc ok<|Yx i j.h k.h<|cu _ l m⟩
theorem IW(h:WT X e (yZ K tc)):WT X (.UnaryOp .Not e pos) (yZ K<|YO tc):=⟨KP<|dO h.h⟩
theorem IB(h:WT X e (yZ K tc)):WW X (.BoolOp .And [e] pos) (yZ K tc):=⟨XE h.h⟩
theorem qU(h:WT X e (yZ K tc)):WW X (.BoolOp .Or [e] pos) (yZ K tc):=⟨bO h.h⟩
theorem jN{rest:List We}(d:WT X e1 (yZ K tc))(i:WW X (.BoolOp .And (e2::rest) pos) (yZ K tc')):WW X (.BoolOp .And (e1::e2::rest) pos) (yZ K<|ZO tc tc'):=⟨LP<|cO d.h i.h⟩
theorem CH{rest:List We}(d:WT X e1 (yZ K tc))(i:WW X (.BoolOp .Or (e2::rest) pos) (yZ K tc')):WW X (.BoolOp .Or (e1::e2::rest) pos) (yZ K<|Ia tc tc'):=⟨XT<|JS d.h i.h⟩
theorem ME(h:WW X e tt):WT X e tt:=⟨h.h.pt⟩
theorem GY(h:WE X e (lift K td))(i:∀d,En e X.env d=(do let v<-d;standAt e.pos;Wh [v] (truthy v)):=by intro _;rfl):WT X e (yZ K<|oq td):=⟨JP<|YN h.h i⟩
theorem dR{i:Nat}(hN:X.N.Nodup)(hi:X.N[i]?=some x)(hx:HE X.env.scope x)(hf:X.fn x=true\/X.env.scope.names.lookup x=some .local:=by first|exact .inl rfl|exact .inr rfl|assumption):WG X (.Name x pos) (QZ K<|aB i):=⟨mL<|aI hN hi hx hf⟩
theorem TJ:WGs X [] (CU<|([]:List uY).map<|QZ K):=⟨bI⟩
theorem uZ{g:uY}{d:List uY}(i:WG X e (QZ K g))(j:WGs X es (CU<|d.map<|QZ K))(k:(Bf (e::es) X.env).map (·.2)=Bi e X.env::(Bf es X.env).map (·.2):=by rfl):WGs X (e::es) (CU<|(g::d).map<|QZ K):=⟨xB i.h j.h k⟩
theorem LK{d:List uY}{k:Nat}(i:X.K=K)(j:X.calm=true)(l:WGs X es (CU<|d.map<|QZ K))(m:(Bf es X.env).length=d.length:=by rfl)(q:(Bf es X.env).findIdx? (·.1)=none:=by rfl):WG X (.Tuple es k pos) (QZ K<|G_ d):=⟨RP (GI i j l.h m q) rfl⟩
theorem pA:WIf X [] (yZ K VF):=⟨pL⟩
theorem Dc(h:WT X e (yZ K tc)):WIf X [e] (yZ K tc):=⟨OO h.h⟩
theorem fJ(d:X.K=K)(hl:WE X e (lift K td)):WI X tg e (iJ K<|Fk td):=⟨UP d hl.h⟩
theorem gU(d:X.mg "range"=none)(i:WA X [e1] (vZ<|[a].map (mZ K)))(j:Gl X "range":=by rfl)(k:xZ e1=true:=by rfl):WI X tg (.Call (.Name "range" p) [e1] [] pos) (iJ K<|ZF a):=⟨rL<|lv j d i.h<|by rw[nZ k];rfl⟩
theorem eR(i:X.mg "range"=none)(j:WA X [e1,e2] (vZ<|[a,b].map (mZ K)))(k:Gl X "range":=by rfl)(l:xZ e1=true:=by rfl)(d:xZ e2=true:=by rfl):WI X tg (.Call (.Name "range" p) [e1,e2] [] pos) (iJ K<|yj a b):=⟨tL<|mv k i j.h (by rw[nZ l,nZ d];rfl)<|by rw[nZ d];rfl⟩
theorem ZY{d:List We}(i:X.K=K)(j:X.mg "zip"=none)(k:WA X [e1,e2] (vZ<|[a,b].map (mZ K)))(l:Gl X "zip":=by rfl)(m:xZ e1=true:=by rfl)(q:[e2].all xZ=true:=by rfl):WI X (.Tuple d kk kg) (.Call (.Name "zip" p) [e1,e2] [] pos) (iJ K<|zj a b):=⟨uL<|Ou i l j k.h (nZ m)<|xJ q⟩
theorem eD{d:List We}(i:X.K=K)(j:X.mg "zip"=none)(k:WA X [e1,e2,e3] (vZ<|[a,b,c].map (mZ K)))(l:Gl X "zip":=by rfl)(m:xZ e1=true:=by rfl)(q:[e2,e3].all xZ=true:=by rfl):WI X (.Tuple d kk kg) (.Call (.Name "zip" p) [e1,e2,e3] [] pos) (iJ K<|Bj a b c):=⟨vL<|Pu i l j k.h (nZ m)<|xJ q⟩
theorem qA(d:X.K=K)(i:X.mg "reversed"=none)(j:WA X [e1] (vZ<|[a].map (mZ K)))(k:Gl X "reversed":=by rfl)(l:xZ e1=true:=by rfl):WI X tg (.Call (.Name "reversed" p) [e1] [] pos) (iJ K<|qB a):=⟨VP<|XO d k i j.h<|by rw[nZ l];rfl⟩
theorem sJ:WSs X [] (qZ K Yu):=⟨fL Vx⟩
theorem TZ(h:WS X st tr):WSs X [st] tr:=⟨EF h.h⟩
theorem hZ(h:WS X st (qZ K t))(d:WSs X sts (qZ K u)):WSs X (st::sts) (qZ K<|Rv t u):=⟨MP<|cV h.h d.h⟩
theorem rA(h:WE X e (lift K td)):WS X (.Return (some e) pos) (qZ K<|JI td):=⟨NP<|Xz h.h⟩
theorem fR(h:WE X e (mZ K<|.inl i)):WS X (.Return (some e) pos) (qZ K<|tq i):=⟨gL<|Xz h.h⟩
theorem rK(h:WE X e (lift K td))(d:wY e=true:=by rfl):WS X (.Expr e pos) (qZ K<|Zu td):=⟨jL<|FF h.h<|WY d⟩
theorem aK(d:WT X e (yZ K tc))(i:WSs X sa (qZ K t))(j:WSs X sb (qZ K u)):WS X (.If e sa sb pos) (qZ K<|cP tc t u):=⟨YT<|TM d.h i.h j.h⟩
theorem sA{d:List Ah}(ks:List Nat){i:vq}{g:uY}(j:Vm (Ke X.prog X.w) X.A X.env X.xe)(k:X.calm=true)(hi:WI X tg we (iJ K i))(l:WG X tg (QZ K g))(m:WSs X d (qZ K t))(q:VY we=true:=by rfl):WS X (.For tg we d [] pos) (qZ K<|Kq ks i g t):=⟨CL ks<|oO j k hi.h l.h m.h<|fU q⟩
theorem fD(d:Vm (Ke X.prog X.w) X.A X.env X.xe)(i:WT X e (yZ K tc))(j:WSs X body (qZ K t)):WS X (.While e body [] pos) (qZ K<|rj tc t):=⟨vB<|Xy d i.h j.h⟩
theorem uA{i:Nat}(hN:X.N.Nodup)(hi:X.N[i]?=some x)(hx:HE X.env.scope x)(d:WE X e (lift K td))(j:wY e=true:=by rfl)(hf:X.fn x=true\/X.env.scope.names.lookup x=some .local:=by first|exact .inl rfl|exact .inr rfl|assumption):WS X (.Assign [.Name x ze] e pos) (qZ K<|rq i td):=⟨OP<|Yz hN hi hx d.h (WY j) hf⟩
theorem Fj{i j:Nat}(hN:X.N.Nodup)(hi:X.N[i]?=some x)(hx:HE X.env.scope x)(d:WE X e (mZ K<|.inl j))(k:wY e=true:=by rfl)(hf:X.fn x=true\/X.env.scope.names.lookup x=some .local:=by first|exact .inl rfl|exact .inr rfl|assumption):WS X (.Assign [.Name x ze] e pos) (qZ K<|uq i j):=⟨iL<|Yz hN hi hx d.h (WY k) hf⟩
theorem gD{own:List Str}{j:vq}{g:uY}{i:Nat}(hN:X.N.Nodup)(hy:X.N[i]?=some x)(hl:X.env.scope.names.lookup x=some .local)(k:X.calm=true)(S:LW X.env.scope X.N fr sc=true)(hi:WI X tg we (iJ K j))(l:∀C s H ex,WG (CZ X own fr sc C s H ex) tg<|QZ K g)
  (m:∀C s H ex,WIf (CZ X own fr sc C s H ex) ng<|yZ K tc) (q:∀C s H ex,WE (CZ X own fr sc C s H ex) ig<|lift K te) (v:fr.Nodup:=by decide) (w:VY we=true:=by rfl) (d:Nh (.ListComp ig [⟨tg,we,ng,0⟩] sc p) (some<|.Name x ze) pos.line X.env=pure true:=by rfl) :
  WS X (.Assign [.Name x ze] (.ListComp ig [⟨tg,we,ng,0⟩] sc p) pos) (qZ K<|rq i<|yY j own fr g tc te) :=
 ⟨CB v<|jq hN hy hl k (OG S) hi.h (λC s H ex=>(l C s H ex).h) (λC s H ex=>(m C s H ex).h) (λC s H ex=>(q C s H ex).h) d<|fU w⟩
theorem vA{j:Nat}(d:WE X e (lift K td))(i:WE X e1 (mZ K<|.inl j))(hi:WE X e2 (mZ K a))(k:Bm [.Subscript e1 e2 ze] e pos.line X.env=pure false:=by rfl)(hw:Cm [.Subscript e1 e2 ze] e X.env=pure none:=by rfl)
  (l:∀v,Bi (.Subscript e1 e2 ze) X.env v=(do
    let ov<-Wh [v] (Rf e1 X.env)
    let iv<-Wh [v,ov] (Rf e2 X.env)
    standAt ze
    Wh [v,ov,iv] (Zm ov iv v)
    release [v,ov,iv] []):=by intro _;rfl) (m:(Bf [.Subscript e1 e2 ze] X.env).map (·.2)=[Bi (.Subscript e1 e2 ze) X.env]:=by rfl):WS X (.Assign [.Subscript e1 e2 ze] e pos) (qZ K<|wj j a td):=⟨ZT<|Wy d.h (mO i.h hi.h qu l) k hw m⟩
theorem JB{j:Nat}(d:X.A.units+1<Mf)(i:WE X e1 (mZ K<|.inl j))(hi:WE X e2 (mZ K a))(k:WE X e (lift K td))(l:wY e=true:=by rfl):WS X (.Assign [.Subscript e1 e2 ze] e pos) (qZ K<|bD j a td):=⟨PP<|sI d i.h hi.h k.h<|WY l⟩
theorem Gj{g:uY}(d:WE X e (lift K td))(i:WG X tg (QZ K g))(j:Bm [tg] e pos.line X.env=pure false:=by rfl)(hw:Cm [tg] e X.env=pure none:=by rfl)(k:(Bf [tg] X.env).map (·.2)=[Bi tg X.env]:=by rfl):WS X (.Assign [tg] e pos) (qZ K<|wB g td):=⟨kL<|Wy d.h i.h j hw k⟩
end
section
variable {P:Cf}{w:Xe}{K:Fg}{mg:Str->Jn Be}{base:Gf}
theorem cb{st:Ah}(F:Fun K x qual st f fd)(S:FnScope N ps (kZ st))(e:∀(b:Be) (A:Dh) (outer:List Env) (s:Ge) (H:Hp) (E:XK),Room k (A.deeper<|Ai qual (kZ st) s.heap.objs.size f b)->WSs (HF VJ P w K mg base N qual (kZ st) f b A outer s H E).nox (eK st) (qZ K ts))(hl:∀a c,con a c->a.length=ps.length) (i:∀a c,con a c->(∀s∈a,∀d,s≠.ow d)/\ts (YF a c) (cU N.length a)):FnOk P w K mg base VJ (k+1) f fd ps (iZ K con):=
 Nd F S (λb A outer s H E j=>(e b A outer s H E j).h) hl i
theorem GK{x:Str}{st:Ah}{i:List Str}{k:Nat}{c:Con}{j:IY}(F:Fun K x qual st f fd)(S:FnScope N i (kZ st))
  (t:∀(l:Be) (A:Dh) (outer:List Env) (s:Ge) (H:Hp) (E:XK),Room k (A.deeper<|Ai qual (kZ st) s.heap.objs.size f l)->WSs (HF VJ P w K mg base N qual (kZ st) f l A outer s H E).nox (eK st) (qZ K j))
  (v:∀b e,c b e->j (YF b e) (cU N.length b)) (m:∀b e,c b e->b.length=i.length/\∀s∈b,∀d,s≠.ow d:=by intro a q h;repeat first|exact⟨rfl,uW rfl⟩|(obtain⟨rfl,_⟩:=h)|(obtain⟨_,h⟩:=h)):FnOk P w K mg base VJ (k+1) f fd i (iZ K c):=cb F S t (λa q h=>(m a q h).1) λa q h=>⟨(m a q h).2,v a q h⟩
end
end L3
variable {ρ:L3.Ev}
namespace L2
theorem DH:Di (.type "list") "keys"=pure none:=by rw[Eg,Lf];kernel_rfl
theorem kK:plainId "dict.update.loop"=true:=by decide +kernel
theorem aW:entryFor table "dict.update.loop"=some Builtin.«dict.update.loop»:=entryFor_of_tree (by kernel_rfl)
section
variable {w:Xe}
theorem my{Q:Jn Be->Ge->Prop}(hx:s.heap.get? a=some o)(i:o.cls=.type "list")(j:o.data=.seq xs k)(hd:o.dict=none)(v:A.handled=none)(h:∀h' l,(∀b o,s.heap.get? b=some o->h'.get? b=some o)->Q none {s with heap:=h',toks:=l}):Ie (Ke prog w) A (getAttr? (.ref a) "keys") Q E s:=by
 obtain⟨c,dct,x,sl⟩:=o;simp only at i j hd;subst i j hd;obtain⟨y,g,d,l,os⟩:=s;have m:∀q,(⟨y,g,d,q,os⟩:Ge).TypeIs (.ref a) "list":=λ_=>⟨_,hx,rfl⟩;have B:=sub_AttributeError;have C:=F.slot_list_getattribute.lookup;have G:=F.slot_list_getattribute.bind<|.ref a;have I:=am_list_getattr_none;unfold getAttr? getAttrBy? getAttrBy;repeat (any_goals (first|assumption|exact m _|((with_reducible show Ie _ _ (call (Value.builtin "list.__getattribute__") _ _) _ _ _);refine Ng F.slot_list_getattribute (m _) am_entry_list_getattribute (F.args_list_getattribute_2 _ _) (meets_getattribute_miss_list a xs k sl "keys" _ DH (by decide +kernel)<|by decide +kernel) ⟨hx,v,λh' q e t=>?_⟩)|wp_step))
 obtain⟨t',L,M⟩:=t.there;show Ie _ _ (getattributeRaised _ _ _ _ _ _ _) _ _ _;unfold getattributeRaised;repeat (any_goals (first|assumption|wp_step))
 exact h _ _ t.keeps
end
section
variable {w:Xe}{R:Fn->Ge->Prop}{I:Ee}{wr:List Ee}{P:Nat->Be->Prop}{St:Nat->Gf->Prop}
theorem KB(W:Walks prog w A.in1 I fp wr n P St)(d:Ee)(yt:d∉fp)(J:Nat->Gf->Prop)(oi:∀i h h',J i h->(∀b o,b∉wr->h.get? b=some o->h'.get? b=some o)->J i h')(step:∀(i:Nat) (v:Be) (s:Ge) (Q:Unit->Ge->Prop) (E:Be->Ge->Prop),i<n->P i v->J i s.heap ->(∀h' c,J (i+1) h'->c6 d s.heap h'->Q () {s with heap:=h',toks:=c}) -> ∃p x y,v=.ref p/\s.heap.IsTuple p #[x,y]/\Ie (Ke prog w) A.in1 (dictSet d x y) Q E s):∀(k i:Nat) (s:Ge) (G:Tok),n-i=k->i<=n->St i s.heap->J i s.heap -> (∀h' c,J n h'->(∀b o,b∉wr->b≠d->s.heap.get? b=some o->h'.get? b=some o)->R (.ok<|.ret .none) {s with heap:=h',toks:=c}) -> Yh (Ke prog w) A (.builtin "dict.update.loop" ⟨[.ref d,.ref I,.int i G,.none],[]⟩) R s:=by
 intro k;induction k with
 |zero=>intro i s G C hi L M O;have qg:i=n:=aa C hi;subst qg;refine Uh aW ?_;rw[Around.under_plainId kK _];show Ie _ A.in1 (Lg (.ref I) >>= _) _ _ s;refine Ae<|W.done s _ _ L λh' c t=>?_;show Ie _ _ (Builtin.Dict.addKeywords d [] >>= _) _ _ _;exact Ae<|Fe<|Fe<|O h' c (oi _ _ _ M t) λb o a _ e=>t b o a e
 |succ k ih =>
  intro i s G C hi L M O;have U:i<n:=nX C;refine Uh aW ?_;rw[Around.under_plainId kK _];show Ie _ A.in1 (Lg (.ref I) >>= _) _ _ s;refine Ae<|W.item i s _ _ U L λv h' c hP kt t=>?_;have Y:=oi _ _ _ M t;obtain⟨p,x,y,rfl,⟨ob,ho,hc,m,hd⟩,hw⟩:=step i v {s with heap:=h',toks:=c} (λ_ lm=>∃l B,lm={s with heap:=l,toks:=B}/\J (i+1) l/\c6 d h' l) (λ_ _=>Ln) U hP Y λl B j F=>⟨l,B,rfl,j,F⟩;show Ie _ A.in1 (Wh [.ref p] _ >>= _) _ _ _;refine Ae<|Ye ?_;refine Ae<|wpAny_tryCatch ?_;unfold Builtin.Dict.pairItems;refine Ae<|Jh (T:="tuple") ⟨_,ho,hc⟩ ?_;rw[De<|by decide];refine Ae<|Tf ho hd<|Fe ?_;show Ie _ A.in1 (Wh [x,y]<|dictSet d x y) _ _ _;refine Ye<|wpAny_mono hw (λ_ lm z=>?_) λ_ _ z=>z.elim;obtain⟨l,B,rfl,j,F⟩:=z;refine Fe ⟨Si kK _,?_⟩;exact ih (i+1) {s with heap:=l,toks:=B} 0 (ba C) U (W.frame _ _ _ kt λb hb o e=>(F.2 b λq=>yt<|q ▸ hb).trans e) j λh3 Z j3 k3=>O h3 Z j3 λb o a kl e=>k3 b o a kl<|(F.2 b kl).trans<|t b o a e
end
section
variable {w:Xe}
theorem DU(J:Nat->Gf->Prop)(hh:A.handled=none)(hx:s.heap.get? a=some o) (I:o.cls=.type "list") (R:o.data=.seq L k) (hd:o.dict=none)(h0:∀h',(∀b c,s.heap.get? b=some c->h'.get? b=some c)->h'.get? s.heap.objs.size=some {cls:=.type "dict",data:=.dict #[]}->J 0 h')(oi:∀i h h',J i h->(∀b c,b<s.heap.objs.size+1->h.get? b=some c->h'.get? b=some c)->J i h')(step:∀(i:Nat) (v:Be) (s':Ge) (M:Unit->Ge->Prop) (U:Be->Ge->Prop),L[i]?=some v->J i s'.heap->(∀b c,s.heap.get? b=some c->s'.heap.get? b=some c) ->(∀h' m,J (i+1) h'->c6 s.heap.objs.size s'.heap h'->M () {s' with heap:=h',toks:=m}) -> ∃p x y,v=.ref p/\s'.heap.IsTuple p #[x,y]/\Ie (Ke prog w) A.in1.in1 (dictSet s.heap.objs.size x y) M U s')(h:∀h' m,J L.size h'->(∀b c,s.heap.get? b=some c->h'.get? b=some c)->Q (.ref s.heap.objs.size) {s with heap:=h',toks:=m}):Ie (Ke prog w) A (call (.type "dict") [.ref a]) Q E s:=by
 refine callType_codes (Q₁:=λobj d=>obj=.ref s.heap.objs.size/\d={s with heap:=s.heap.push {cls:=.type "dict",data:=.dict #[]}}) F.kt_called_dict (F.kt_typeCall_dict_1 _) F.entry_dict_init (kt_code_dict_new _ ⟨rfl,rfl⟩) ?_;rintro obj d ⟨rfl,rfl⟩;have O:(s.heap.push {cls:=.type "dict",data:=.dict #[]}).get? s.heap.objs.size=some {cls:=.type "dict",data:=.dict #[]}:=U0 _ rfl;have t:∀b c,s.heap.get? b=some c->(s.heap.push {cls:=.type "dict",data:=.dict #[]}).get? b=some c:=λb c e=>i0 _ e;refine⟨⟨_,O,rfl⟩,F.args_dict_init_2 _ _,?_⟩;unfold Builtin.«dict.__init__»;refine Ae ?_;unfold Builtin.Dict.selfAndRest;refine Ae<|wpAny_notOrdered_dict ⟨_,O,rfl⟩ ?_;show Ie _ _ (pure (s.heap.objs.size,[B2 a])) _ _ _;refine Fe ?_;show Ie _ _ (RQ "dict.__init__" s.heap.objs.size (.ref a) [] .none) _ _ _;unfold RQ;refine Ae<|Jh (T:="list") ⟨_,t _ _ hx,I⟩ ?_;rw[De<|by decide];refine Ae<|my (t _ _ hx) I R hd hh λC Y B=>?_;simp only[Option.isNone_none,if_true];refine Ae<|Yf ?_;refine Ae<|Wg (s:={s with heap:=C,toks:=Y}) ⟨_,B _ _<|t _ _ hx,I,k,R⟩ ?_;have P:s.heap.objs.size<C.objs.size:=Q0<|B _ _ O;have l:a<s.heap.objs.size:=Q0 hx;have Z:s.heap.objs.size∉[C.objs.size,a]:=λG=>by
  rcases E1.mp G with q|q
  .exact J1 P q
  .exact V3 l (J2.mp q)
 refine Fe ⟨Si kK _,KB (Walks.list (A:=A.in1.in1) hh C.objs.size a (J1<|M7 l P) L) s.heap.objs.size Z (λi h'=>J i h'/\∀b c,s.heap.get? b=some c->h'.get? b=some c) ?_ ?_ L.size 0 _ 0 rfl (j4 _) ?_ ?_ ?_⟩
 .rintro i hp ci ⟨j,kk⟩ kp;refine⟨oi _ _ _ j λb c hb e=>kp b c (λG=>J1 (W0 (J5 hb) P)<|J2.mp G) e,λb c e=>kp b c ?_<|kk b c e⟩;exact λG=>J1 (M7 (Q0 e) P)<|J2.mp G
 .rintro i v s' M U hi hP ⟨j,kk⟩ hq;refine step i v s' M U hP j kk λh' m j' sb=>hq h' m ⟨j',λb c e=>(sb.2 b ?_).trans<|kk b c e⟩ sb;exact J1<|Q0 e
 .exact⟨⟨_,U0 _ rfl,rfl,rfl⟩,⟨_,i0 _<|B _ _<|t _ _ hx,I,k,R⟩⟩
 .exact⟨oi _ _ _ (h0 C (λb c e=>B b c<|t b c e)<|B _ _ O) λb c _ e=>i0 _ e,λb c e=>i0 _<|B b c<|t b c e⟩
 .rintro h' m ⟨j,kk⟩ _;exact⟨rfl,h h' m j kk⟩
end
theorem Vals.getV:∀{a:List V}{us:List Be}{i:Nat}{u:Be},Vals a us->us[i]?=some u->∃x,a[i]?=some x/\RelV x u
 |_,_,0,_,.cons r _,e=>⟨_,rfl,by cases e;exact r⟩
 |_,_,i+1,_,.cons _ t,e=>Vals.getV (i:=i) t e
abbrev QW(h:Gf)(z TI TO T:Ee)(fl:Bool):Prop:=h.get? z=some {cls:=.type "zip",dict:=none,data:=.fields #[Zg T,.bool fl,.bool false,.ref TI,.ref TO],slots:=#[]}
section
variable {w:Xe}
theorem wA{Q:Jn Obj->Ge->Prop}(b:s.heap.get? a=some o)(h:Q (some o) s):Ie (Ke prog w) A (loadIfAlive a) Q E s:=λΓ p _=>by show Sem.wp _ Γ (.loadIfAlive a λx=>.pure x) _ _ p s;rw[Sem.wp_loadIfAlive,b];exact h
theorem Lk{TI TO:Ee}{Q:Bool->Ge->Prop}(d:QW s.heap z TI TO T fl)(e:s.heap.get? T=some ot)(h:∀a,QW a z TI TO T true->c6 z s.heap a->Q false {s with heap:=a}):Ie (Ke prog w) A (v4<|.ref z) Q E s:=by
 unfold v4;refine Ae<|Ze d rfl (x:=Zg T) rfl ?_;show Ie _ _ (loadIfAlive T >>= _) _ _ _;refine Ae<|wA e ?_;rw[Ce<|show ¬((some ot).isNone=true) from X1];refine Ae<|Ze d rfl (x:=.bool fl) rfl ?_;cases fl with
 |true=>rw[Ce<|by decide];exact Fe<|h s.heap d ⟨rfl,λ_ _=>rfl⟩
 |false=>rw[De<|by decide];exact Ae<|Og d (by simp) λa b c=>Fe<|h a b c
theorem Hj{TI TO:Ee}(D:ZAp2 z TI TO i1 i2 l1 l2)(i:QW s.heap z TI TO T fl) (q:LJ s.heap TI (.ref i1) (.ref i2)) (t:s.heap.get? T=some ot)(y:ItAt k1 s.heap i1 l1 k) (B:ItAt k2 s.heap i2 l2 k) (C:SqAt k1 s.heap l1 xs1) (F:SqAt k2 s.heap l2 xs2) (G:xs1[k]?=some x1) (I:xs2[k]?=some x2)(L:∀h',QW h' z TI TO T true->ItAt k1 h' i1 l1 (k+1)->ItAt k2 h' i2 l2 (k+1)->LJ h' s.heap.objs.size x1 x2->h'.objs.size=s.heap.objs.size+1 ->(∀c o,c≠z->c≠i1->c≠i2->s.heap.get? c=some o->h'.get? c=some o)->Q (.ref s.heap.objs.size) {s with heap:=h'}):Ie (Ke prog w) A (Builtin.«zip.__next__» ⟨[.ref z],[]⟩) (λfin s'=>∃v,fin=.done (.ret v)/\Q v s') E s:=by
 show Ie _ _ (Zl (.ref z) 2 >>= _) _ _ _;refine Ae<|Ze i rfl (x:=.bool false) rfl ?_;show Ie _ _ (Zl (.ref z) 3 >>= _) _ _ _;refine Ae<|Ze i rfl (x:=.ref TI) rfl ?_;refine Ae<|Tf q rfl ?_;show Ie _ _ (v4 (.ref z) >>= _) _ _ _;refine Ae<|Lk i t λm b a=>?_;simp only[Y4,if_false];rw[SX];simp only[eX,vX];refine Ae<|Ae<|Ae<|Ye ?_;show Ie _ _ (B3 (.ref i1) >>= _) _ _ _;refine Ae<|TK (y.at λo e=>a.extBut _ o D.i1z e) (C.at λo e=>a.extBut _ o D.l1z e) G λR hi1 d=>Fe<|Fe ?_;refine Ae<|Ae<|Ye ?_;show Ie _ _ (B3 (.ref i2) >>= _) _ _ _;refine Ae<|TK ((B.at λo e=>a.extBut _ o D.i2z e).at λo e=>d.extBut _ o D.i2i1 e) ((F.at λo e=>a.extBut _ o D.l2z e).at λo e=>d.extBut _ o D.l2i1 e) I λj hi2 np=>Fe<|Fe<|Fe ?_;refine Ae<|Ol (hsz:=by show 2<=sizeLine;decide) ?_;have hsz:j.objs.size=s.heap.objs.size:=by rw[np.1,d.1,a.1]
 have l:QW j z TI TO T true:=np.extBut _ _ D.i2z.symm<|d.extBut _ _ D.i1z.symm b;refine Fe ⟨_,rfl,?_⟩;show Q (.ref j.objs.size) _;rw[hsz];refine L _ (i0 _ l) ((hi1.at λo e=>np.extBut _ o D.i2i1.symm e).at λo e=>i0 _ e) (hi2.at λo e=>i0 _ e) ?_ ?_ λc o M O P e=>i0 _<|np.extBut _ _ P<|d.extBut _ _ O<|a.extBut _ _ M e
 .rw[<-hsz];exact U0 _ rfl
 .rw[J3,hsz]
theorem xG{TI TO:Ee}{Q:Fin->Ge->Prop}(y:A.handled=none)(D:ZAp2 z TI TO i1 i2 l1 l2)(d:QW s.heap z TI TO T fl) (L:LJ s.heap TI (.ref i1) (.ref i2)) (M:s.heap.get? T=some ot)(B:ItAt k1 s.heap i1 l1 k) (O:ItAt k2 s.heap i2 l2 k) (C:SqAt k1 s.heap l1 xs1) (P:SqAt k2 s.heap l2 xs2) (R:xs1[k]?=none\/xs2[k]?=none)(F:∀h' e,(∀c o,c≠z->c≠i1->c≠i2->s.heap.get? c=some o->h'.get? c=some o)->(∃o,h'.get? e=some o/\o.cls=.type "StopIteration")->E (.ref e) {s with heap:=h'}):Ie (Ke prog w) A (Builtin.«zip.__next__» ⟨[.ref z],[]⟩) Q E s:=by
 show Ie _ _ (Zl (.ref z) 2 >>= _) _ _ _;refine Ae<|Ze d rfl (x:=.bool false) rfl ?_;show Ie _ _ (Zl (.ref z) 3 >>= _) _ _ _;refine Ae<|Ze d rfl (x:=.ref TI) rfl ?_;refine Ae<|Tf L rfl ?_;show Ie _ _ (v4 (.ref z) >>= _) _ _ _;refine Ae<|Lk d M λG i a=>?_;simp only[Y4,if_false];rw[SX];simp only[eX,vX];refine Ae<|Ae<|Ae<|Ye ?_;show Ie _ _ (B3 (.ref i1) >>= _) _ _ _;cases j:xs1[k]? with
 |none=>exact Ae<|JW y (B.at λo e=>a.extBut _ o D.i1z e) (C.at λo e=>a.extBut _ o D.l1z e) j λl e b m=>F l e (λc o q t I x=>b _ _ t<|a.extBut _ _ q x) m
 |some Y =>
  have U:xs2[k]?=none:=by
   rcases R with h|h
   .rw[j]at h;cases h
   .exact h
  refine Ae<|TK (B.at λo e=>a.extBut _ o D.i1z e) (C.at λo e=>a.extBut _ o D.l1z e) j λZ hi1 v=>Fe<|Fe ?_;refine Ae<|Ae<|Ye ?_;show Ie _ _ (B3 (.ref i2) >>= _) _ _ _;exact Ae<|JW y ((O.at λo e=>a.extBut _ o D.i2z e).at λo e=>v.extBut _ o D.i2i1 e) ((P.at λo e=>a.extBut _ o D.l2z e).at λo e=>v.extBut _ o D.l2i1 e) U λl e b m=>F l e (λc o q t I x=>b _ _ I<|v.extBut _ _ t<|a.extBut _ _ q x) m
end
section
variable {w:Xe}
def ZSt(h:Gf)(z TI TO S i1 i2 l1 l2:Ee)(a b:Kd)(i:Nat):Prop :=
 LJ h TI (.ref i1) (.ref i2)/\ItAt a h i1 l1 i/\ItAt b h i2 l2 i /\
  ((Mh h z TI TO .none/\∃c d,LJ h TO c d)\/∃T fl ot,QW h z TI TO T fl/\h.get? T=some ot/\T≠z/\T≠i1/\T≠i2/\T≠S)
theorem Ij{TI TO:Ee}{Q:Jn Be->Ge->Prop}(D:ZAp2 z TI TO i1 i2 l1 l2)(Z:S<s.heap.objs.size)(st:ZSt s.heap z TI TO S i1 i2 l1 l2 k1 k2 k) (C:SqAt k1 s.heap l1 xs1) (G:SqAt k2 s.heap l2 xs2) (I:xs1[k]?=some x1) (L:xs2[k]?=some x2)(M:∀h',ZSt h' z TI TO S i1 i2 l1 l2 k1 k2 (k+1)->LJ h' s.heap.objs.size x1 x2->h'.objs.size=s.heap.objs.size+1 ->(∀c o,c≠z->c≠TO->c≠i1->c≠i2->s.heap.get? c=some o->h'.get? c=some o)->Q (some<|.ref s.heap.objs.size) {s with heap:=h'}):Ie (Ke prog w) A (Lg<|.ref z) Q E s:=by
 obtain⟨i,l,m,a⟩:=st;have q:∀{b:Ee}{o:Obj},s.heap.get? b=some o->s.heap.objs.size≠b:=λe=>V3<|Q0 e;obtain⟨o1,g1,_⟩:=l.obj;obtain⟨o2,g2,_⟩:=m.obj;rcases a with⟨a,a1,a2,jg⟩|⟨T,fl,ot,a,O,P,R,U,t4⟩
 .refine nH D a i jg l m C G I L λh' t b2 x y j B d=>M h' ⟨d TI _ D.TIz (G3 D.TOTI) (G3 D.i1TI) (G3 D.i2TI) i,x,y,.inr ⟨s.heap.objs.size,false,_,t,j,q a,q g1,q g2,V3 Z⟩⟩ j B d
 .have Y:s.TypeIs (.ref z) "zip":=⟨_,a,rfl⟩;unfold Lg;exact Ae<|Ug<|Af (name:=Str.ofString "__next__") Y F.slot_zip_next
    (Jf F.slot_zip_next Y F.entry_zip_next (wpAny_mono (Hj (Q:=λv s'=>Q (some v) s') D a i O l m C G I L λh' t x y j B d=>M h' ⟨d TI _ D.TIz (G3 D.i1TI) (G3 D.i2TI) i,x,y,.inr ⟨T,true,ot,t,d T _ P R U O,P,R,U,t4⟩⟩ j B λc o d1 _ d3 d4 e=>d c o d1 d3 d4 e) (λfin s' z=>by obtain⟨v,rfl,z⟩:=z;exact⟨_,rfl,Fe z⟩) λ_ _ z=>z)<|F.args_zip_next_1 _)
theorem yG{TI TO:Ee}{Q:Jn Be->Ge->Prop}(d:A.handled=none)(D:ZAp2 z TI TO i1 i2 l1 l2)(st:ZSt s.heap z TI TO S i1 i2 l1 l2 k1 k2 k) (i:SqAt k1 s.heap l1 xs1) (j:SqAt k2 s.heap l2 xs2) (l:xs1[k]?=none\/xs2[k]?=none)(m:∀h',(∀c o,c≠z->c≠TO->c≠i1->c≠i2->s.heap.get? c=some o->h'.get? c=some o)->Q none {s with heap:=h'}):Ie (Ke prog w) A (Lg<|.ref z) Q E s:=by
 obtain⟨q,t,v,a⟩:=st;rcases a with⟨a,R,U,y⟩|⟨T,fl,ot,a,B,Y,Z,t3,t4⟩
 .exact sG d D a q y t v i j l m
 .have x:s.TypeIs (.ref z) "zip":=⟨_,a,rfl⟩;unfold Lg;refine Ae<|Ug<|Af (name:=Str.ofString "__next__") x F.slot_zip_next
    (Jf F.slot_zip_next x F.entry_zip_next (xG d D a q B t v i j l λh' e C G=>?_)<|F.args_zip_next_1 _);obtain⟨o,I,L⟩:=G;refine Ae<|Ph (T:="StopIteration") (b:=true) ⟨o,I,L⟩ Ql ?_;exact Fe<|m _ λc o M _ O P e=>C c o M O P e
theorem ZSt.keep{TI TO:Ee}(x:ZSt h z TI TO S i1 i2 l1 l2 k1 k2 i)(a:∀b o,b≠S->h.get? b=some o->h'.get? b=some o)(d:z≠S)(k:TI≠S)(l:TO≠S)(m:i1≠S)(q:i2≠S):ZSt h' z TI TO S i1 i2 l1 l2 k1 k2 i:=by
 obtain⟨t,v,y,c⟩:=x;refine⟨a _ _ k t,v.at λo e=>a _ _ m e,y.at λo e=>a _ _ q e,?_⟩;rcases c with⟨c,B,C,F⟩|⟨T,fl,ot,c,G,I,L,M,j⟩
 .exact .inl ⟨a _ _ d c,B,C,a _ _ l F⟩
 .exact .inr ⟨T,fl,ot,a _ _ d c,a _ _ j G,I,L,M,j⟩
end
structure ZG(xs1 xs2:Kn Be)(lo:Ee)(h:Gf)(as:List Ee):Prop where
 rise:as.Pairwise (· < ·)
 above:∀a∈as,lo<a
 pairs:∀(j:Nat) (a:Ee),as[j]?=some a->∃x y,xs1[j]?=some x/\xs2[j]?=some y/\LJ h a x y
theorem ZG.there{lo:Ee}(g:ZG xs1 xs2 lo h as){a:Ee}(b:a∈as):a<h.objs.size:=by obtain⟨j,c⟩:=E7.mp b;obtain⟨_,_,_,_,e⟩:=g.pairs j a c;exact Q0 e
section
variable {w:Xe}{R:Fn->Ge->Prop}
theorem LB{TI TO:Ee}(hh:A.handled=none)(D:ZAp2 z TI TO i1 i2 l1 l2)(n1:z<S)(n2:TI<S)(n3:TO<S)(n4:i1<S)(n5:i2<S)(n6:l1≠S)(n7:l2≠S)(yh:n<=xs1.size) (pp:n<=xs2.size) (ug:xs1[n]?=none\/xs2[n]?=none) (hn:n<=sizeLine) (I:Be) {h₁:Gf}(hR:∀h' q d c as,(∀b o,b≠S->b≠z->b≠TO->b≠i1->b≠i2->h₁.get? b=some o->h'.get? b=some o)->h'.get? S=some {cls:=.type "list",dict:=none,data:=.seq d c,slots:=#[]}->as.length=n->ZG xs1 xs2 S h' as -> d.toList=as.map B2->R (.ok<|.ret I) {s with heap:=h',toks:=q}):∀(k i:Nat) (h:Gf) (q c:Nat) (d:Kn Be) (as:List Ee),n-i=k->i<=n->ZSt h z TI TO S i1 i2 l1 l2 k1 k2 i->SqAt k1 h l1 xs1->SqAt k2 h l2 xs2->(∀b o,b≠S->b≠z->b≠TO->b≠i1->b≠i2->h₁.get? b=some o->h.get? b=some o) -> h.get? S=some {cls:=.type "list",dict:=none,data:=.seq d c,slots:=#[]}->d.toList=as.map B2->as.length=i->ZG xs1 xs2 S h as -> Yh (Ke prog w) A (.builtin "list.extend.loop" ⟨[.ref S,.ref z,I],[]⟩) R {s with heap:=h,toks:=q}:=by
 have m1:z≠S:=J1 n1;have m2:TI≠S:=J1 n2;have m3:TO≠S:=J1 n3;have m4:i1≠S:=J1 n4;have m5:i2≠S:=J1 n5;have L:∀{a:Ee},S<a->a≠S/\a≠z/\a≠TO/\a≠i1/\a≠i2:=λh=>⟨V3 h,V3<|M7 n1 h,V3<|M7 n3 h,V3<|M7 n4 h,V3<|M7 n5 h⟩;intro k;induction k with
 |zero=>intro i h q c d as hk hi ag q1 q2 rm hS ff l m;have qg:i=n:=aa hk hi;subst qg;refine Uh PySem.F.entry_extend_loop ?_;rw[Around.under_plainId PySem.F.plain_extend_loop _];show Ie _ A.in1 (Lg (.ref z) >>= _) _ _ _;refine Ae<|yG (s:={s with heap:=h,toks:=q}) (A:=A.in1) hh D ag q1 q2 ug λh' he=>?_;refine Fe<|hR h' q d c as (λb o c1 M O P U e=>he b o M O P U<|rm b o c1 M O P U e) (he S _ (G3 m1) (G3 m3) (G3 m4) (G3 m5) hS) l ⟨m.rise,m.above,λj a t=>?_⟩ ff;obtain⟨x,y,e1,e2,e3⟩:=m.pairs j a t;obtain⟨_,f2,f3,f4,f5⟩:=L<|m.above a<|O3 t;exact⟨x,y,e1,e2,he a _ f2 f3 f4 f5 e3⟩
 |succ k ih =>
  intro i h q c d as hk hi ag q1 q2 rm hS ff l m;have se:i<n:=nX hk;obtain⟨x,hx⟩:∃p,xs1[i]?=some p:=⟨xs1[i],pQ<|by omega⟩;obtain⟨y,hy⟩:∃p,xs2[i]?=some p:=⟨xs2[i],pQ<|by omega⟩;have Y:d.size=i:=by rw[<-Z0,ff,g0,l]
  have v:S<h.objs.size:=Q0 hS;refine Uh PySem.F.entry_extend_loop ?_;rw[Around.under_plainId PySem.F.plain_extend_loop _];show Ie _ A.in1 (Lg (.ref z) >>= _) _ _ _;refine Ae<|Ij (s:={s with heap:=h,toks:=q}) (S:=S) D v ag q1 q2 hx hy λh' kt ht hz G=>?_;dsimp only at ht hz G ⊢;have gp:=G S _ (G3 m1) (G3 m3) (G3 m4) (G3 m5) hS;have up:∀b o,b≠S->h'.get? b=some o->(h'.update S (Q3 (·.push (B2 h.objs.size)))).get? b=some o:=λb o Z e=>(O5 _ _<|G3 Z).trans e;show Ie _ A.in1 (Qm S (·.push (B2 h.objs.size)) >>= _) _ _ _;refine Ae ?_;refine Rg gp rfl (Fe ⟨Si PySem.F.plain_extend_loop _,ih (i+1) _ q _ (d.push<|B2 h.objs.size) (as++[h.objs.size]) (ba hk) se (kt.keep up m1 m2 m3 m4 m5)
    (q1.at λo e=>up _ o n6<|G _ o D.l1z D.l1TO D.l1i1 D.l1i2 e) (q2.at λo e=>up _ o n7<|G _ o D.l2z D.l2TO D.l2i1 D.l2i2 e)
    (λb o c1 M O P U e=>up b o c1<|G b o M O P U<|rm b o c1 M O P U e) (J4 _ gp rfl) (by rw[o9,ff,U2];rfl) (by rw[R0,l];rfl) ⟨?_,?_,?_⟩⟩) (by rw[Y];exact A0 hi hn) (by show (d.push<|B2 h.objs.size).size<=sizeLine+1;rw[Array.size_push,Y];exact A0 se<|K5 hn)
  .refine Q6.mpr ⟨m.rise,P3 _ _,λa B b Z=>?_⟩;rw[J2.mp Z];exact m.there B
  .intro a B;rcases O2.mp B with B|B
   .exact m.above a B
   .rw[J2.mp B];exact v
  .intro j b t;rcases Nat.lt_trichotomy j as.length with g|g|g
   .rw[A3 g]at t;obtain⟨x',y',e1,e2,e3⟩:=m.pairs j b t;obtain⟨f1,f2,f3,f4,f5⟩:=L<|m.above b<|O3 t;exact⟨x',y',e1,e2,up b _ f1<|G b _ f2 f3 f4 f5 e3⟩
   .subst g;have Z:h.objs.size=b:=by simpa using t
    subst Z;exact⟨x,y,by rw[l];exact hx,by rw[l];exact hy,up _ _ (V3 v) ht⟩
   .have C:(as++[h.objs.size])[j]?=none:=G6 (by rw[R0,i4];exact g);rw[C]at t;cases t
end
theorem Jj:Di (.type "zip") "__len__"=pure none:=by rw[Eg,Lf];kernel_rfl
theorem Lq:Di (.type "zip") "__length_hint__"=pure none:=by rw[Eg,Lf];kernel_rfl
section
variable {w:Xe}{R:Fn->Ge->Prop}
theorem Kj{TI TO:Ee}(Y:A.handled=none)(D:ZAp2 z TI TO i1 i2 l1 l2)(t:z<S)(v:TI<S)(x:TO<S)(y:i1<S)(B:i2<S)(C:l1≠S)(G:l2≠S)
  (Z:n<=xs1.size) (pp:n<=xs2.size) (ug:xs1[n]?=none\/xs2[n]?=none) (hn:n<=sizeLine) (i:Be) (l:Nat) {I L:Be}
  (hz:Mh s.heap z TI TO .none) (zf:LJ s.heap TI (.ref i1) (.ref i2)) (jg:LJ s.heap TO I L) (h1:ItAt k1 s.heap i1 l1 0) (h2:ItAt k2 s.heap i2 l2 0) (gf:SqAt k1 s.heap l1 xs1) (af:SqAt k2 s.heap l2 xs2)
  (M:s.heap.get? S=some {cls:=.type "list",data:=.seq #[] l})
  (hR:∀h' tk m c as,(∀b o,b≠S->b≠z->b≠TO->b≠i1->b≠i2->s.heap.get? b=some o->h'.get? b=some o)->h'.get? S=some {cls:=.type "list",dict:=none,data:=.seq m c,slots:=#[]}->as.length=n->ZG xs1 xs2 S h' as ->
    m.toList=as.map B2->R (.ok<|.ret i) {s with heap:=h',toks:=tk}) :
  Ie (Ke prog w) A.in1 (g7 (.ref S) (.ref z) i)
   (λfin s'=>match fin with | .done f=>R (.ok f) s' | .again O=>O.quiet=true/\Yh (Ke prog w) A O R s') (λe s'=>R (.error e) s') s:=by
 have P:z≠S:=J1 t;have q:s.TypeIs (.ref z) "zip":=⟨_,hz,rfl⟩;unfold g7;refine Ae<|Jh q ?_;have e1:HQ (.ref S) (.ref z)=false:=by simp[HQ,G3 P]
 have e2:(V8 "zip"==V8 "list")=false:=by decide
 have e3:(V8 "zip"==V8 "tuple")=false:=by decide
 simp only[e1,e2,e3,Bool.or_false,Y4,if_false];refine Ae<|Oh hz ?_;refine Ae<|Ye ?_;unfold Builtin.List.listLengthHint;refine Ae<|Bg q Jj ?_;show Ie _ A.in1 (specialOf (B2 z) (Str.ofString "__length_hint__") >>= _) _ _ _;refine Ae<|Bg q Lq ?_;refine Fe ?_;show Ie _ A.in1 (rule "list.extend.makes-room" >>= λ_=>Builtin.List.listTouch (.ref S) >>= λ_ =>
   again (.builtin "list.extend.loop" ⟨[.ref S,.ref z,i],[]⟩)) _ _ _;refine Ae<|Yf ?_;refine Ae ?_;show Ie _ A.in1 (Qm S (·.push .none) >>= λ_=>Qm S (·.pop)) _ _ _;refine Ae<|Rg M rfl ?_;have d:=J4 (Q3 (·.push S7)) M rfl;refine Rg (hz:=by seq_fits) d rfl ?_;have k:=J4 (Q3 (·.pop)) d rfl;have pi:∀b o,b≠S->s.heap.get? b=some o->((s.heap.update S (Q3 (·.push S7))).update S (Q3 (·.pop))).get? b=some o :=
  λb o U e=>(O5 _ _<|G3 U).trans<|(O5 _ _<|G3 U).trans e;refine Fe ⟨Si F.plain_extend_loop _,LB (s:=s) (h₁:=s.heap) Y D t v x y B C G Z pp ug hn i hR n 0 _ s.toks _ #[] [] rfl (j4 _)
   ⟨pi _ _ (J1 v) zf,h1.at λo e=>pi _ _ (J1 y) e,h2.at λo e=>pi _ _ (J1 B) e,.inl ⟨pi _ _ P hz,I,L,pi _ _ (J1 x) jg⟩⟩
   (gf.at λo e=>pi _ _ C e) (af.at λo e=>pi _ _ G e) (λb o c1 _ _ _ _ e=>pi b o c1 e) k rfl rfl ⟨List.Pairwise.nil,(λ_ ha=>nomatch ha),(λj a hj=>by simp at hj)⟩⟩
end
section
variable {w:Xe}
theorem EH{TI TO:Ee}(y:A.handled=none)(D:ZAp2 z TI TO i1 i2 l1 l2)(B:n<=xs1.size) (C:n<=xs2.size) (G:xs1[n]?=none\/xs2[n]?=none) (I:n<=sizeLine) {L M:Be}(m:Mh s.heap z TI TO .none) (q:LJ s.heap TI (.ref i1) (.ref i2)) (t:LJ s.heap TO L M) (v:ItAt k1 s.heap i1 l1 0) (x:ItAt k2 s.heap i2 l2 0) (O:SqAt k1 s.heap l1 xs1) (P:SqAt k2 s.heap l2 xs2)(R:l1<s.heap.objs.size) (b2:l2<s.heap.objs.size)(U:∀h' l a c as,(∀b o,b≠z->b≠TO->b≠i1->b≠i2->s.heap.get? b=some o->h'.get? b=some o)->h'.get? s.heap.objs.size=some {cls:=.type "list",dict:=none,data:=.seq a c,slots:=#[]}->as.length=n->ZG xs1 xs2 s.heap.objs.size h' as -> a.toList=as.map B2->Q (.ref s.heap.objs.size) {s with heap:=h',toks:=l}):Ie (Ke prog w) A (call (.type "list") [.ref z]) Q E s:=by
 refine callType_codes (Q₁:=λobj d=>obj=.ref s.heap.objs.size/\d={s with heap:=s.heap.push {cls:=.type "list",data:=.seq #[]}}) PySem.F.called_list (PySem.F.typeCall_list_1 _) PySem.F.entry_list_init
  (code_list_new _ ⟨rfl,rfl⟩) λobj d j=>?_;obtain⟨rfl,rfl⟩:=j;have k:(s.heap.push {cls:=.type "list",data:=.seq #[]}).get? s.heap.objs.size=some {cls:=.type "list",data:=.seq #[]}:=U0 _ rfl;refine⟨⟨_,k,rfl⟩,PySem.F.args_list_init_2 _ _,?_⟩;show Ie _ _ (do let old<-aX (.ref s.heap.objs.size);Builtin.List.listUpdate (.ref s.heap.objs.size) (λ_=>#[]);letGo old.toList.reverse;g7 (.ref s.heap.objs.size) (.ref z) .none) _ _ _;refine Ae ?_;unfold aX;refine Ae<|Tf k rfl<|Fe ?_;show Ie _ _ (Qm s.heap.objs.size (λ_=>#[]) >>= λ_=>letGo (#[]:Kn Be).toList.reverse >>= λ_=>g7 (.ref s.heap.objs.size) (.ref z) .none) _ _ _;refine Ae<|Rg k rfl ?_;have i:=J4 (Q3<|λ_=>(#[]:Kn Be)) k rfl;have pi:∀b o,s.heap.get? b=some o->((s.heap.push {cls:=.type "list",data:=.seq #[]}).update s.heap.objs.size<|Q3<|λ_=>(#[]:Kn Be)).get? b=some o :=
  λb o e=>(O5 _ _<|V3<|Q0 e).trans<|i0 _ e;refine Ae<|wpAny_letGo ?_;obtain⟨o1,Y,_⟩:=v.obj;obtain⟨o2,g2,_⟩:=x.obj;refine Kj (A:=A.in1) y D (Q0 m) (Q0 q) (Q0 t) (Q0 Y) (Q0 g2) (J1 R) (J1 b2) B C G I .none _ (pi _ _ m) (pi _ _ q) (pi _ _ t) (v.at λo e=>pi _ _ e) (x.at λo e=>pi _ _ e) (O.at λo e=>pi _ _ e) (P.at λo e=>pi _ _ e) i λh' l a c as Z gp hl hG ff=>?_;exact⟨rfl,U h' l a c as (λb o c2 c3 c4 c5 e=>Z b o (J1<|Q0 e) c2 c3 c4 c5<|pi b o e) gp hl hG ff⟩
end
noncomputable def EU:Hp->List (Ee×List V)->Hp
 |H,[]=>H
 |H,(a,b)::r=>EU (bJ H a<|.tup b) r
theorem Mq:∀{d:List (Ee×List V)}{H:Hp}{b:Ee}{o:HO},(d.map (·.1)).Nodup->(∀p∈d,H p.1=none)->H b=some o->EU H d b=some o
 |[],_,_,_,_,_,e=>e
 |(a,k)::r,H,b,o,c,i,e=>by
  have c:=w6.mp c;show EU (bJ H a<|.tup k) r b=some o;refine Mq c.2 (λp j=>?_) ?_
  .rw[pZ<|λq=>c.1<|M0.mpr ⟨p,j,q⟩];exact i p<|G0 _ j
  .rw[pZ<|wZ e<|i _<|.head _];exact e
theorem zV:∀{ps:List (Ee×List V)}{H:Hp}{b:Ee}{o:HO},EU H ps b=some o->H b=some o\/∃c,(b,c)∈ps/\o=.tup c
 |[],_,_,_,e=>.inl e
 |(a,c)::r,H,b,o,e=>by
  rcases zV (ps:=r) e with e|⟨ys,m,q⟩
  .by_cases d:b=a
   .subst d;rw[HZ]at e;cases e;exact .inr ⟨c,.head _,rfl⟩
   .rw[pZ d]at e;exact .inl e
  .exact .inr ⟨ys,G0 _ m,q⟩
theorem Inv.lays(I:Inv X de σ H s)(k:∀b u,s.heap.get? b=some u->h'.get? b=some u)(sub:∀b o,H b=some o->H' b=some o)(new:∀b o,H' b=some o->H b=some o\/(s.heap.objs.size<=b/\ObjOk X.prog X.w H' h' b o)):Inv X de σ H' {s with heap:=h',toks:=t'}:=by
 refine I.un ⟨λb u q _ _ _=>k b u q,λb u q _ _ _=>⟨u.slots,k b u q⟩,λb u q n _=>?_,λb u q _=>⟨u,k b u q⟩,λb a q=>sub _ _ q,λb u a q=>sub _ _ q,λb d q=>⟨#[],by rw[sub _ _ q];simp⟩⟩ λb o e=>?_
 .cases e:H' b with
  |none=>rfl
  |some o =>
   rcases new b o e with z|⟨z,_⟩
   .rw[n]at z;cases z
   .exact absurd (B0 (Q0 q) z) (T2 _)
 .rcases new b o e with z|⟨_,z⟩
  .exact(I.hok b o z).stay (λc v _ q=>k c v q) (λc q=>sub _ _ q) λc a q=>sub _ _ q
  .exact z
noncomputable def tJ:List V->List V->List (List V)
 |x::xs,y::ys=>[x,y]::tJ xs ys
 |_,_=>[]
theorem YG:∀(a ys:List V),(tJ a ys).length=min a.length ys.length
 |[],_=>by simp[tJ]
 |_::_,[]=>by simp[tJ]
 |_::a,_::ys=>by simp only[tJ,L1,YG a ys];exact eZ<|Nat.add_min_add_right _ _ _
theorem aF:∀{xs ys:List V}{j:Nat}{x y:V},xs[j]?=some x->ys[j]?=some y->(tJ xs ys)[j]?=some [x,y]
 |_::_,_::_,0,_,_,e,q=>by cases e;cases q;rfl
 |_::xs,_::ys,j+1,_,_,e,q=>aF (xs:=xs) (ys:=ys) (j:=j) e q
 |[],_,_,_,_,e,_=>by simp at e
 |_::_,[],_,_,_,_,q=>by simp at q
def Od(K:K0)(e:TA):TE:=λσ H Q=>e σ H λi b=>∃(j:Kd) (l1:Ee) (c:List V) (k:Kd) (l2:Ee) (d:List V),i=[.ref l1,.ref l2]/\Sq j K b l1 c/\Sq k K b l2 d /\
 ∀(a:List (Ee×List V)) (S:Ee),(a.map (·.1)).Nodup->(∀p∈a,b p.1=none)->b S=none->S∉a.map (·.1)->a.map (·.2)=tJ c d->Q (.ref S) (bJ (EU b a) S<|.lst<|a.map λp=>V.ref p.1)
theorem xA{a b:We}{ta:TA}{p C p0 yr:Pos}(ir:X.calm=true)(hg0:Gl X "list")(hm0:X.mg "list"=none)(hg:Gl X "zip")(hm:X.mg "zip"=none)(ha:PA X [a,b] ta)
  (hs:Re [a,b] X.env=(false,Rf a X.env)::Re [b] X.env:=by rfl) (cf:(Wf C<|Re [b] X.env).any (·.1)=false:=by rfl)
  (U:Re [.Call (.Name "zip" p) [a,b] [] C] X.env=(false,Rf (.Call (.Name "zip" p) [a,b] [] C) X.env)::Re [] X.env:=by rfl) (Y:(Wf yr<|Re [] X.env).any (·.1)=false:=by rfl) :
  PE X (.Call (.Name "list" p0) [.Call (.Name "zip" p) [a,b] [] C] [] yr) (Od X.K ta):=by
 intro de s σ H Q I h;refine Fh (ZK I hg0 hm0 Zh ?_ (by decide)<|by decide);refine u4 ?_ U Y;rw[U];show Ie _ _ (spliced ((false,Rf (.Call (.Name "zip" p) [a,b] [] C) X.env)::Wf yr (Re [] X.env))) _ _ s;refine Calls.spliced_cons ?_;refine Call_<|ZK I hg hm boot_zip<|u4 (vJ (ha C de s σ H _ I h) λus d ⟨vs,O,P,r1,q1⟩=>?_) hs cf;obtain⟨i,l1,w,v,l2,B,e,q1,q2,q⟩:=q1;subst e;obtain rfl:us=[.ref l1,.ref l2]:=by cases r1 with|cons r rr=>cases r;cases rr with|cons r rr=>cases r;cases rr;rfl
 obtain⟨bm,Z,p1,z1⟩:=P.sq q1;obtain⟨kf,rv2,p2,z2⟩:=P.sq q2;have lt:∀{k:Kd}{l:Ee}{xs:Kn Be},SqAt k d.heap l xs->l<d.heap.objs.size:=λ{k l xs} p=>by
  cases k with
  |l=>obtain⟨o,e,_⟩:=p;exact Q0 e
  |t=>obtain⟨o,e,_⟩:=p;exact Q0 e
 refine Fl F.called_zip (by decide) (F.typeCall_zip_2 _ _) (F.newCall_zip_2 _ _) (λobj=>F.args_object_init_3 obj _ _) F.entry_zip_new (fq i v l1 l2 bm.toArray kf.toArray) ⟨p1,p2,?_⟩;have zI:(Dv d.heap i v l1 l2).objs.size=d.heap.objs.size+2:=by simp[J3]
 have zT:(Fv d.heap i v l1 l2).objs.size=d.heap.objs.size+3:=by simp[J3]
 have zO:(Gv d.heap i v l1 l2).objs.size=d.heap.objs.size+4:=by simp[J3]
 have zZ:(HY d.heap i v l1 l2).objs.size=d.heap.objs.size+5:=by simp[J3]
 have gZ:(HY d.heap i v l1 l2).get? (Gv d.heap i v l1 l2).objs.size=some _:=U0 _ rfl;have gO:(HY d.heap i v l1 l2).get? (Fv d.heap i v l1 l2).objs.size=some _:=i0 _<|U0 _ rfl;have gT:(HY d.heap i v l1 l2).get? (Dv d.heap i v l1 l2).objs.size=some _:=i0 _<|i0 _<|U0 _ rfl;have g1:(HY d.heap i v l1 l2).get? d.heap.objs.size=some (ZZ i l1):=i0 _ (i0 _<|i0 _<|i0 _<|U0 _<|by cases i<;>rfl);have g2:(HY d.heap i v l1 l2).get? (d.heap.push<|ZZ i l1).objs.size=some (ZZ v l2):=i0 _ (i0 _<|i0 _<|U0 _<|by cases v<;>rfl);have jr:(d.heap.push<|ZZ i l1).objs.size=d.heap.objs.size+1:=by simp[J3]
 rw[zO,zT,zI]at gZ;rw[zI,jr]at gT;rw[zT]at gO;rw[jr]at g2;show _/\_;rw[zO];have kp:∀b o,d.heap.get? b=some o->(HY d.heap i v l1 l2).get? b=some o:=λb o e=>i0 _<|i0 _<|i0 _<|i0 _<|i0 _<|e;refine⟨⟨_,gZ,rfl⟩,Calls.spliced_nil ?_⟩;have len1:=Z.length;have len2:=rv2.length;have D:=eT d.heap.objs.size l1 l2 (lt p1)<|lt p2;refine EH (s:={d with heap:=HY d.heap i v l1 l2}) (xs1:=bm.toArray) (xs2:=kf.toArray) (n:=min w.length B.length) (P.ok.hd ir) D (by simp only[S0];exact A0 (T4 _ _)<|P0 len1) (by simp only[S0];exact A0 (h7 _ _)<|P0 len2) ?_ (A0 (T4 _ _) z1) gZ gT gO (ItAt.new i g1) (ItAt.new v g2)
  (p1.at λo e=>kp _ _ e) (p2.at λo e=>kp _ _ e) (by show l1<(HY d.heap i v l1 l2).objs.size;rw[zZ];exact B0 (lt p1)<|T1 _ _) (by show l2<(HY d.heap i v l1 l2).objs.size;rw[zZ];exact B0 (lt p2)<|T1 _ _) ?_
 .rcases VX w.length B.length with g|g
  .exact .inl (by rw[o5 g];simp;exact P0 len1.symm)
  .exact .inr (by rw[J8 g];simp;exact P0 len2.symm)
 intro h' tk acc c as hk hS hl R ff;dsimp only at hk hS R ⊢;rw[zZ]at hS R ⊢;have gh:∀b o,d.heap.get? b=some o->h'.get? b=some o:=λb o e=>by have L:=Q0 e;exact hk b o (J1<|B0 L<|T1 _ _) (J1<|B0 L<|T1 _ _) (J1 L) (J1<|B0 L<|T1 _ _)<|kp b o e
 have mm:as.length=(tJ w B).length:=by rw[YG];exact hl
 have G:(as.zip<|tJ w B).map (·.1)=as:=M9<|P0 mm;have ps2:(as.zip<|tJ w B).map (·.2)=tJ w B:=List.map_snd_zip<|P0 mm.symm;have nd:as.Nodup:=R.rise.imp λh=>J1 h;have ab:∀a∈as,d.heap.objs.size<=a:=λa m=>N1<|W0 (T1 _ 5)<|R.above a m;have hn:∀p∈as.zip (tJ w B),O p.1=none:=λp m=>P.hok.fresh<|ab _ (x6 (a:=p.1) (b:=p.2) m).1;have nd':((as.zip<|tJ w B).map (·.1)).Nodup:=by rw[G];exact nd
 have M:O (d.heap.objs.size+5)=none:=P.hok.fresh<|T1 _ _;have hSa:d.heap.objs.size+5∉(as.zip<|tJ w B).map (·.1):=by rw[G];exact λm=>T2 _<|R.above _ m
 refine⟨.ref<|d.heap.objs.size+5,_,?_,rfl,q (as.zip<|tJ w B) _ nd' hn M hSa ps2⟩;have hLS:EU O (as.zip<|tJ w B) (d.heap.objs.size+5)=none:=by
  cases e:EU O (as.zip<|tJ w B) (d.heap.objs.size+5) with
  |none=>rfl
  |some o =>
   rcases zV e with z|⟨xs,m,_⟩
   .rw[M]at z;cases z
   .exact absurd (M0.mpr ⟨_,m,rfl⟩) hSa
 have sub:∀b o,O b=some o->bJ (EU O<|as.zip<|tJ w B) (d.heap.objs.size+5) (.lst<|(as.zip<|tJ w B).map λp=>V.ref p.1) b=some o:=λb o e=>by rw[pZ<|wZ e M];exact Mq nd' hn e
 refine P.lays (t':=tk) gh sub λb o e=>?_;by_cases L:b=d.heap.objs.size+5
 .subst L;rw[HZ]at e;cases e;refine .inr ⟨T1 _ _,?_,acc.toList,c,?_,by simpa using hS⟩
  .rw[g0,<-g0 (f:=(·.1)),G];lia
  .have hV:((as.zip<|tJ w B).map λp=>V.ref p.1)=as.map V.ref:=by
    have e:((as.zip<|tJ w B).map λp=>V.ref p.1)=((as.zip<|tJ w B).map (·.1)).map V.ref:=by rw[O0];rfl
    rw[e,G]
   rw[ff,hV];have:∀l:List Ee,Vals (l.map V.ref) (l.map B2):=λl=>by
    induction l with
    |nil=>exact .nil
    |cons a l ih=>exact .cons rfl ih
   exact this as
 .rw[pZ L]at e;rcases zV e with z|⟨xs,m,rfl⟩
  .exact .inl z
  .obtain⟨j,hj⟩:=E7.mp m;obtain⟨ha',ci⟩:=P4.mp hj;obtain⟨x,y,e1,e2,e3⟩:=R.pairs j b ha';obtain⟨x',f1,r1'⟩:=Z.getV (by simpa using e1);obtain⟨y',f2,r2'⟩:=rv2.getV (by simpa using e2);have:=aF f1 f2;rw[ci]at this;cases this;exact .inr ⟨ab _<|O3 ha',by show 2<=sizeLine;decide,[x,y],.cons r1'<|.cons r2' .nil,_,e3,rfl,_,rfl,rfl⟩
end L2
namespace L3
open L2
theorem MB(a:Room k A):A.units+2<Mf:=W0 (T0 (by decide:2<=64) _) a.units
noncomputable def db:D->Jn (List D)
 | .list a=>some a
 | .tuple a=>some a
 |_=>none
section
variable {K:Fg}{F:Hp}
theorem At.seq(s:Sub F H)(h:At K F H v d)(e:db d=some ds):∃k a b,v=.ref a/\Sq k K H a b/\DaAll K F b ds:=by
 cases d<;>first|cases e|skip
 .obtain⟨a,b,rfl,c,i⟩:=h.list s;exact⟨.l,a,b,rfl,SqL.of c,i⟩
 .obtain⟨a,b,rfl,_,c,i⟩:=h.tuple s;exact⟨.t,a,b,rfl,SqT.of c,i⟩
theorem Nq{G:Gh}{σ:L2.St}{ρ:Ev}:∀{ps:List (Ee×List V)}{c i:List V}{ds b:List D}{F H:Hp},Rel K G F σ H ρ->(ps.map (·.1)).Nodup->(∀p∈ps,H p.1=none)->ps.map (·.2)=tJ c i->DaAll K F c ds->DaAll K F i b -> ∃j,Sub F j/\Rel K G j σ (EU H ps) ρ/\DaAll K j (ps.map λp=>V.ref p.1) ((ds.zip b).map λp=>O1 [p.1,p.2])
 |[],c,i,ds,b,F,H,R,_,_,e,m,t=>by
  refine⟨F,Sub.refl _,R,?_⟩;have:(ds.zip b)=[]:=by
   cases m with
   |nil=>rfl
   |cons _ _=>cases t with
    |nil=>simp
    |cons _ _=>simp[tJ]at e
  rw[this];exact .nil
 |(a,xs)::r,c,i,ds,b,F,H,R,l,C,e,m,t=>by
  cases m with
  |nil=>simp[tJ]at e
  |@cons x c d ds L M =>
   cases t with
   |nil=>simp[tJ]at e
   |@cons y i O b P U =>
    simp only[tJ,Y0,List.cons.injEq]at e;obtain⟨v,e⟩:=e;have v:xs=[x,y]:=v;subst v;have l:=w6.mp l;obtain⟨w,Y,da⟩:=R.newTup (a:=a) (xs:=[x,y]) (ds:=[d,O]) (C _<|.head _)<|.cons L<|.cons P .nil;obtain⟨j,k,Z,B⟩:=Nq (ps:=r) Y l.2 (λp I=>by rw[pZ<|λq=>l.1<|M0.mpr ⟨p,I,q⟩];exact C p<|G0 _ I) e (M.mono w)<|U.mono w;exact⟨j,w.trans k,Z,.cons (da.mono k) B⟩
end
def Pd(K:Fg):List V->Hp->VK->Prop:=λe b Q=>∃(i:Kd) (l1:Ee) (c:List V) (j:Kd) (l2:Ee) (d:List V),e=[.ref l1,.ref l2]/\Sq i K b l1 c/\Sq j K b l2 d /\
 ∀(a:List (Ee×List V)) (S:Ee),(a.map (·.1)).Nodup->(∀p∈a,b p.1=none)->b S=none->S∉a.map (·.1)->a.map (·.2)=tJ c d->Q (.ref S) (bJ (EU b a) S<|.lst<|a.map λp=>V.ref p.1)
def Ec:D->D->(Sl->Prop)->Prop:=λd e Q=>∃a b,db d=some a/\db e=some b/\Q (.ow<|.list<|(a.zip b).map λp=>O1 [p.1,p.2])
theorem yA{K:Fg}:RZ K (Pd K) (o2 Ec):=by
 intro G F σ H ρ vs a Q Qd R i w k;rcases a with _|⟨d,_|⟨e,_|⟨e3,a⟩⟩⟩<;>first|exact w.elim|skip
 .obtain⟨v1,v2,rfl,j,l⟩:=i.two;obtain⟨a,es,q,t,w⟩:=w;obtain⟨v,l1,x,rfl,y,B⟩:=j.seq R.sub q;obtain⟨C,l2,I,rfl,L,M⟩:=l.seq R.sub t;refine⟨v,l1,x,C,l2,I,rfl,y,L,λc S O P U b Y=>?_⟩;obtain⟨Z,sb,R',da⟩:=Nq R O P Y B M;have gp:EU H c S=none:=by
   cases e:EU H c S with
   |none=>rfl
   |some o =>
    rcases zV e with z|⟨xs,m,_⟩
    .rw[U]at z;cases z
    .exact absurd (M0.mpr ⟨_,m,rfl⟩) b
  obtain⟨R2,r2⟩:=R'.newOw (o:=.lst _) (d:=.list _) gp da;exact k _ _ Z _ sb R2 r2 w
section
variable {K:Fg}{e e1 e2:We}{a b:AD}{p pos ze p2:Pos}
theorem fb(d:X.K=K)(i:X.calm=true)(j:X.mg "list"=none)(k:X.mg "zip"=none)(l:WA X [e1,e2] (vZ<|[a,b].map (mZ K)))(m:Gl X "list":=by rfl)(t:Gl X "zip":=by rfl)(v:xZ e1=true:=by rfl)(c:xZ e2=true:=by rfl) :
  WE X (.Call (.Name "list" p) [.Call (.Name "zip" p2) [e1,e2] [] ze] [] pos) (lift K<|zW [a,b]<|o2 Ec):=by
 subst d;exact⟨nG (xA i m j t k l.h (nZ v) (xJ<|by simp[c]) (nZ rfl)<|xJ rfl) λq=>UF yA q⟩
end
mutual
theorem MK:∀d:D,mJ d=true->SeqAt.noMix d d=true
 | .none,_=>by simp[SeqAt.noMix]
 | .bool _,_=>by simp[SeqAt.noMix]
 | .int _,_=>by simp[SeqAt.noMix]
 | .str _,_=>by simp[SeqAt.noMix]
 | .list a,h=>by simp[SeqAt.noMix];exact noMixAll_self a (by simpa [mJ]using h)
 | .tuple a,h=>by simp[SeqAt.noMix];exact noMixAll_self a (by simpa [mJ]using h)
 | .dict _,h=>by simp[mJ]at h
theorem noMixAll_self:∀a:List D,plainAll a=true->SeqAt.noMixAll a a=true
 |[],_=>by simp[SeqAt.noMixAll]
 |x::a,h=>by simp[plainAll]at h;simp[SeqAt.noMixAll];exact⟨MK x h.1,noMixAll_self a h.2⟩
end
structure Nice(n:Nat)(d:D):Prop where
 p:mJ d=true
 c:d.canLay0=true
 d:d.depth<=n
theorem Nice.mono{d:D}(h:Nice n d)(k:n<=m):Nice m d:=⟨h.p,h.c,A0 h.d k⟩
theorem Nice.int(n:Nat)(i:Int):Nice n (.int i):=⟨rfl,by simp[wX],by simp[WX]⟩
theorem FH{n:Nat}:∀{l:List D},(∀d∈l,Nice n d)->plainAll l=true/\uQ l=true/\gX l<=n
 |[],_=>⟨rfl,by simp[uQ],by simp[gX]⟩
 |x::l,h=>by
  have a:=h x L0;have b:=FH (l:=l) λd hd=>h d<|G0 _ hd;refine⟨by simp[plainAll,a.p,b.1],by simp[uQ,a.c,b.2.1],?_⟩;have:=a.d;have:=b.2.2;simp[gX]
  lia
theorem Nice.list{l:List D}(h:∀d∈l,Nice n d):Nice (n+1) (.list l):=by obtain⟨a,b,c⟩:=FH h;exact⟨by simp[mJ,a],by simp[wX,b],by simp[WX];omega⟩
theorem Nice.tuple{l:List D}(h:∀d∈l,Nice n d):Nice (n+1) (.tuple l):=by obtain⟨a,b,c⟩:=FH h;exact⟨by simp[mJ,a],by simp[wX,b],by simp[WX];omega⟩
theorem Nice.ints(l:Qn):Nice 1 (.list<|l.map q0):=.list λd hd=>by obtain⟨i,_,rfl⟩:=M0.mp hd;exact .int 0 i
theorem Nice.tup(l:Qn):Nice 1 (.tuple<|l.map q0):=.tuple λd hd=>by obtain⟨i,_,rfl⟩:=M0.mp hd;exact .int 0 i
theorem Nice.sh{d:D}(h:Nice n d)(k:n<=64):SeqAt.shaped d=true:=by have:=h.d;unfold SeqAt.shaped;rw[h.c];simp;exact A0 this k
end L3
namespace L2
def Nk(K:K0):List V->Hp->VK->Prop:=λb H Q=>∃(x:V) (k:Ki) (T:Ki),b=[x,.ty T.nm]/\(KiOf K H x k\/∃a,x=.ref a/\k=.dct/\Ca H a)/\Q (.bl<|k.sub T) H
theorem ny:YZ X (.builtin "isinstance") (Nk X.K):=by
 intro de s σ H t us Q I r h;obtain⟨x,k,T,rfl,c,q⟩:=h;rcases c with c|⟨a,rfl,rfl,hd⟩
 .exact gq de s σ H _ us Q I r ⟨x,k,T,rfl,c,q⟩
 .obtain⟨u,e,rfl,i,j⟩:=eY r;obtain rfl:e=.type T.nm:=j;cases i;have d:s.TypeIs (.ref a) Ki.dct.nm:=(JO I hd).1;cases b:Ki.dct.sub T with
  |true=>rw[b]at q;exact Nf (isinstance_true (Tx:=Ki.dct.nm) (uK T)<|by rw[QF,b]) ⟨d,.bl true,H,I,rfl,q⟩
  |false =>
   rw[b]at q;have l:Sm (.type Ki.dct.nm) (.type T.nm)=pure false:=by rw[QF,b]
   have m:=aN Ki.dct T b;have fin:EP X de σ Q (.bool false) {s with toks:=s.toks+1}:=⟨.bl false,H,I.tok _,rfl,q⟩;exact Nf (Ll m (uK T) l) ⟨d,fin⟩
inductive PrsT (H:Hp):List (V×V)->List (List VZ×V)->Prop
 |nil:PrsT H [] []
 |cons {b ks v ps fe}:H b=some (.tup<|ks.map kV)->PrsT H ps fe->PrsT H ((.ref b,v)::ps) ((ks,v)::fe)
section
variable {a:Ee}
end
end L2
namespace L3
open L2
noncomputable def AY:List (D×D)->Bool
 |(.none,_)::_=>false
 |(.bool _,_)::_=>false
 |_=>true
noncomputable def gR:IY:=λ_ _=>Ln
noncomputable def kN(T:Ki):D->(Sl->Prop)->Prop
 | .dict a,Q=>AY a=true/\Q (.fz<|.bool<|Ki.dct.sub T)
 |d,Q=>Q<|.fz<|.bool<|(zc d).sub T
theorem At.isD{K:Fg}{d:List (D×D)}(s:Sub F H)(h:At K F H v (.dict d))(b:AY d=true):∃a,v=.ref a/\Ca H a:=by
 rcases h with h|⟨a,o,rfl,_,e,h⟩
 .cases h with
  |dk r t=>exact⟨_,rfl,.inl ⟨_,s.rd r⟩⟩
  |dt r t=>exact⟨_,rfl,.inr ⟨_,s.rd r⟩⟩
  |scr q=>simp[AY]at b
  |exc q=>simp[AY]at b
  |opq q=>simp[AY]at b
  |pd q t=>simp[AY]at b
  |bd q t=>simp[AY]at b
 .cases o with
  |ext i=>obtain⟨j,k,l,m,z,c,t⟩:=h.ext;injection c with c;rw[c]at b;simp[AY]at b
  |_=>first|exact h.elim|exact⟨_,rfl,.inl ⟨_,.inl e⟩⟩|exact⟨_,rfl,.inr ⟨_,.inl e⟩⟩
theorem DL{K:Fg}:RZ K (λl H Q=>∃x,l=[x]/\Nk K [x,.ty T.nm] H Q) (o1<|kN T):=Bq λG F σ H ρ x d Q m R c w k=>by
 have go:∀(e:Ki),KiOf K H x e->m (.fz<|.bool<|e.sub T)->∃j,[x]=[j]/\Nk K [j,.ty T.nm] H Q:=λe h w=>⟨x,rfl,x,e,T,rfl,.inl h,k _ H F (.fz _) (Sub.refl _) R (Da.bl _) w⟩;cases d<;>first|exact w.elim|skip
 case none=>cases c.none;exact go .non rfl w
 case bool b=>cases c.bool;exact go .bl rfl w
 case int i=>cases c.int;exact go .int rfl w
 case str z=>cases c.str;exact go .str rfl w
 case list q=>obtain⟨a,us,rfl,e1,d1⟩:=c.list R.sub;exact go .lst (.inl ⟨rfl,us,SqL.of e1⟩) w
 case tuple q=>obtain⟨a,us,rfl,_,e1,d1⟩:=c.tuple R.sub;exact go .tup (.inr<|.inl ⟨rfl,us,SqT.of e1⟩) w
 case dict t=>obtain⟨a,rfl,hd⟩:=c.isD R.sub w.1;exact⟨_,rfl,_,.dct,T,rfl,.inr ⟨a,rfl,rfl,hd⟩,k _ H F (.fz _) (Sub.refl _) R (Da.bl _) w.2⟩
def lN(K:Fg):R2:=λx y H Q=>∃j,y=.int j/\US K x none (some j) H Q
noncomputable def mN:D->D->(Sl->Prop)->Prop
 | .tuple a,.int j,Q=>(if j<0 then 1<=a.length else j<a.length)/\Q (.fz<|.tuple<|a.take<|if j<0 then (j+a.length).toNat else j.toNat)
 |_,_,_=>Ln
theorem EL{K:Fg}:RZ K (dU<|lN K) (o2 mN):=Yv λG F σ H ρ x y d e Q M R m q w k=>by
 cases d<;>first|exact w.elim|skip
 rename_i b;cases e<;>first|exact w.elim|skip
 rename_i j;cases q.int;obtain⟨a,us,rfl,O,t,c⟩:=m.tuple R.sub;have hl:=c.length;have i:HT.sIx us.length us.length (some j)=if j<0 then (j+b.length).toNat else j.toNat:=by show (if j<0 then (j+(us.length:Int)).toNat else min j.toNat us.length)=_;have:=w.1;split at this<;>split<;>lia
 refine⟨j,rfl,a,us,rfl,SqT.of t,λz=>?_,λp v=>?_⟩
 .have l:=z.2;rw[i]at l;have:=w.1;split at this<;>split at l<;>lia
 .have B:aH us none (some j)=us.take (if j<0 then (j+b.length).toNat else j.toNat):=by
   unfold aH;rw[i];rfl
  rw[B];obtain⟨C,I,L⟩:=R.newTup v<|c.take<|if j<0 then (j+b.length).toNat else j.toNat;exact k _ _ _ (.fz _) C I L w.2
section
variable {K:Fg}{e e1 e2:We}{a b:AD}{ta tb:TD}{st:Ah}{p pos p2 ze px py pt:Pos}{x y:Str}
theorem FL:WS X st (qZ K gR):=⟨λde s σ H D I h=>by obtain⟨G,F,ρ,E,R,w,_⟩:=h;exact w.elim⟩
theorem iD(T:Ki)(j:X.K=K)(k:X.mg "isinstance"=none){y:Str}(l:X.mg y=none)(c:Qf y=some (.type T.nm))(m:WE X e1 (mZ K a))(t:Gl X "isinstance":=by rfl)(w:Gl X y:=by rfl)(hy:y ≠ "__name__":=by decide)(d:(y==("__debug__":Str))=false:=by decide)(i:xZ e1=true:=by rfl) :
  WE X (.Call (.Name "isinstance" p) [e1,.Name y p2] [] pos) (lift K<|zW [a]<|o1<|kN T):=by
 subst j;exact⟨nG (WU ny t k boot_isinstance (cK m.h (cK (Rx w l c (v:=.ty T.nm) rfl hy d) TV<|nZ rfl)<|nZ i) (by decide) (by decide) (nZ i)<|xJ rfl) λq=>nq (P:=λx B=>Nk X.K [x,.ty T.nm] B _)<|UF DL q⟩
theorem NB(c:X.K=K)(d:WE X e1 (mZ K a))(i:WE X e2 (mZ K b)):WE X (.Subscript e1 (.Slice none (some e2) none p2) pos) (lift K<|zW [a,b]<|o2 mN):=by subst c;exact⟨nG (bq nu d.h kI<|IF i.h) λq=>Vu (P:=λx y H=>lN X.K x y H _)<|UF EL q⟩
end
end L3
namespace L2
theorem oy:OpR X (Ef .IsNot) (λx y H Q=>∃c d,x=.bl c/\y=.bl d/\Q (.bl<|!(c==d)) H):=by intro de s σ H x y v u Q I a b h;obtain⟨c,d,rfl,rfl,q⟩:=h;cases a;cases b;exact isnot_bool ⟨.bl _,H,I,rfl,q⟩
end L2
namespace L3
open L2
noncomputable def Td:D->D->(Sl->Prop)->Prop
 | .bool c,.bool d,Q=>Q<|.fz<|.bool<|c==d
 |_,_,_=>Ln
noncomputable def zA:D->D->(Sl->Prop)->Prop
 | .bool c,.bool d,Q=>Q<|.fz<|.bool<|!(c==d)
 |_,_,_=>Ln
theorem GL{K:Fg}:RZ K (dU λx y H Q=>∃c d,x=.bl c/\y=.bl d/\Q (.bl<|!(c==d)) H) (o2 zA):=Yv λG F σ H ρ x y d e Q i R a b w k=>by
 cases d<;>first|exact w.elim|skip
 cases e<;>first|exact w.elim|skip
 case bool.bool c d=>cases a.bool;cases b.bool;exact⟨c,d,rfl,rfl,k _ H F (.fz _) (Sub.refl _) R (Da.bl _) w⟩
section
variable {K:Fg}{x:Str}{pos:Pos}
theorem OB{n:Int}(a:∃t,X.mg x=some (.int n t))(b:Gl X x:=by rfl)(hd:(x==("__debug__":Str))=false:=by decide):WE X (.Name x pos) (lift K<|dC<|.int n):=by obtain⟨t,a⟩:=a;exact⟨eL (λ_=>.int _)<|VE b a ⟨t,rfl⟩ hd⟩
end
theorem EJ(s:String):(Str.ofString s).length=s.length:=by rw[Str.ofString_eq_toList];simp only[Str.length,S0,g0];first|rfl|exact String.length_toList|exact String.length_toList _|simp
theorem bF(a:0<k)(h:i.natAbs<10 ^ k):(q0 i).shown.length<=k+1:=by
 show (Str.ofString<|toString i).length<=k+1;rw[EJ];cases i with
 |ofNat n=>show (Nat.repr n).length<=k+1;have:=(bX (n:=n) a).mpr h;exact K5 this
 |negSucc m =>
  show ("-"++Nat.repr (m+1)).length<=k+1;have b:m+1<10 ^ k:=by simpa using h
  have:=(bX (n:=m+1) a).mpr b;rw[String.length_append];have e:("-":String).length=1:=by decide
  lia
theorem Oq(a:Str)(b:Nat):∀c:List Str,(∀t∈c,t.length<=b)->(Str.join a c).length<=c.length*(b+a.length)
 |[],_=>by simp[Str.join,Str.length,Str.empty]
 |[x],h=>by have:=h x L0;show x.length<=_;simp;exact x9 this
 |x::y::r,h=>by
  have e:=h x L0;have i:=Oq a b (y::r) λt d=>h t<|G0 _ d;show (x++a++Str.join a (y::r)).length<=_;rw[Str.length_append,Str.length_append,L1,F8]
  lia
theorem BY:∀l:List D,bQ l=l.map WQ
 |[]=>rfl
 |x::l=>by simp[bQ,BY l]
theorem bW{l:List D}(h:∀d∈l,d.shown.length<=b):(O1 l).shown.length<=l.length*(b+2)+3:=by
 show (tupleText<|bQ l).length<=_;rw[BY];have a:=Oq (Str.ofString ", ") b (l.map WQ) λt c=>by obtain⟨d,hd,rfl⟩:=M0.mp c;exact h d hd
 rw[g0,EJ]at a;have e:(", ":String).length=2:=by decide
 rw[e]at a;unfold tupleText;rw[Str.length_append,Str.length_append,EJ,EJ];have i:("(":String).length=1:=by decide
 have j:(if (((l.map WQ).length==1)=true) then ",)" else ")":String).length<=2:=by split<;>decide
 lia
theorem GH{l:List D}(h:∀d∈l,d.shown.length<=b):(Y2 l).shown.length<=l.length*(b+2)+3:=by
 have i:∀(c:List Str) (k:Nat) (a:Str),(∀t∈c,t.length<=b)->(textFrom k a c).length<=a.length+c.length*(b+2):=by
  intro c;induction c with
  |nil=>intro k a _;simp[textFrom]
  |cons t c j =>
   intro k a e;have v:=e t L0;have m:=j (k+1) (a++Str.ofString (if k > 0 then ", " else "")++t) λx hx=>e x<|G0 _ hx;rw[Str.length_append,Str.length_append,EJ]at m;have w:(if k > 0 then ", " else "":String).length<=2:=by split<;>decide
   show (textFrom (k+1) (a++Str.ofString (if k > 0 then ", " else "")++t) c).length<=_;rw[L1,F8];omega
 show (listText<|bQ l).length<=_;rw[BY];have q:=i (l.map WQ) 0 (Str.ofString "[") λt e=>by obtain⟨d,hd,rfl⟩:=M0.mp e;exact h d hd
 unfold listText;rw[Str.length_append,EJ];rw[EJ,g0]at q;have y:("[":String).length=1:=by decide
 have B:("]":String).length=1:=by decide
 lia
theorem showableAll_of:∀{l:List D},(∀d∈l,d.showable=true)->TX l=true
 |[],_=>rfl
 |x::l,h=>by simp[TX,h x L0];exact showableAll_of λd hd=>h d<|G0 _ hd
theorem AV(h:i.natAbs<2 ^ k)(a:k<=1920):(q0 i).showable=true:=by
 show decide (i.natAbs.log2<1920)=true;refine Je ?_;by_cases h0:i.natAbs=0
 .rw[h0];decide
 .exact B0 ((Nat.log2_lt h0).mpr h) a
end L3
namespace L2
noncomputable def AA:V->Int
 | .int i=>i
 |_=>0
theorem cW(l:Qn):(l.map V.int).map AA=l:=by rw[O0];exact tX l
theorem PB{m:Qn}(e:l.map V.int=m.map V.int):l=m:=by rw[<-cW l,<-cW m,e]
noncomputable def be(H:Hp)(p:Qn)(y:Be):Bool:=@decide (∃c,y=.ref c/\H c=some (.tup<|p.map V.int))<|Classical.propDecidable _
theorem sU{ns:Qn}(r:Vals (ns.map V.int) us){k:Nat}(h:k<us.length):∃t,us[k]=.int (ns.getD k 0) t:=by have hl:=r.length;rw[g0]at hl;have b:k<ns.length:=B0 h<|P0 hl.symm;obtain⟨u,a,c⟩:=r.get (i:=k) (x:=.int ns[k]) (by rw[S1,J0 b];rfl);obtain⟨t,e⟩:=c;rw[J0 h]at a;have a:=E3 a;refine⟨t,?_⟩;rw[a,e,X0,J0 b];rfl
end L2
namespace L3
open L2
theorem DaAll.ints_of{K:Fg}(h:DaAll K F ys (p.map q0)):ys=p.map V.int:=by
 have e:p.map q0=(p.map λn=>(.inl n:VZ)).map YV:=by rw[O0];rfl
 rw[e]at h;have:=h.keys;rw[this,O0];rfl
end L3
namespace L2
def Lj(K:K0):List V->Hp->VK->Prop:=λc H Q=>∃(a:Ee) (ns:Qn),c=[.ref a]/\SqL K H a (ns.map V.int)/\ns.length<64 /\
 ∀(p:Ee) (b:Qn),H p=none->b.Perm ns->b.Pairwise (·<=·)->Q (.ref p) (bJ H p<|.lst<|b.map V.int)
theorem BV:∀{vs:List Be}{ns:Qn},Ag vs ns->Vals (ns.map V.int) vs
 |_,_,.nil=>.nil
 |_,_,.cons n t r=>.cons ⟨t,rfl⟩<|BV r
theorem Mj:YZ X (.builtin "sorted") (Lj X.K):=by intro de s σ H F us Q I r h;obtain⟨a,ns,rfl,m,d,q⟩:=h;obtain⟨u,rfl,t⟩:=wK r;cases t;obtain⟨its,j,⟨o,n,e,c,v,w⟩,G⟩:=I.list m;have hl:=j.length;rw[g0]at hl;refine sorted_ints (vs:=its) (ns:=ns) ⟨o,e,c,n,by first|exact w|exact v⟩ (JZ j) (W0 (P0 hl.symm) d) λk i x l hw=>?_;obtain⟨y,B⟩:=sortedAll_at s.heap its k;have C:H (s.heap.objs.size+1)=none:=I.hok.fresh<|n8 _;have L:i.length=ns.length:=l.length_eq;refine⟨.ref<|s.heap.objs.size+1,bJ H (s.heap.objs.size+1)<|.lst<|i.map V.int,I.laid (t':=s.toks) (λb u e=>sortedAll_old e) (n8 _) ?_,rfl,q _ i C l hw⟩;exact⟨by rw[g0,Wm];lia,k.toList,y,BV x,by rw[B]⟩
end L2
namespace L3
open L2
noncomputable def iR:D->(Sl->Prop)->Prop
 | .list b,Q=>∃ns:Qn,b=ns.map q0/\ns.length<64/\∀a:Qn,a.Perm ns->a.Pairwise (·<=·)->Q (.ow<|.list<|a.map q0)
 |_,_=>Ln
theorem QB{K:Fg}:RZ K (Lj K) (o1 iR):=Bq λG F σ H ρ x d Q B R i w k=>by
 cases d<;>first|exact w.elim|skip
 rename_i C;obtain⟨ns,e,c,w⟩:=w;subst e;obtain⟨a,us,rfl,j,l⟩:=i.list R.sub;have:=l.ints_of;subst this;refine⟨a,ns,rfl,SqL.of j,c,λp b m q t=>?_⟩;obtain⟨v,y⟩:=R.newOw (o:=.lst<|b.map V.int) (d:=.list<|b.map q0) m<|DaAll.ints b;exact k _ _ F _ (Sub.refl _) v y<|w b q t
theorem Pq{K:Fg}(h:X.K=K):YZ X (.builtin "sorted") (Lj K):=by subst h;exact Mj
end L3
namespace L2
section
variable {w:Xe}
theorem HH{t:Ee}{items:Kn Be}(y:t≠it):∀(n i:Nat) (s:Ge) (Q:List Be->Ge->Prop),s.heap.IsListIter it t i->s.heap.IsList t items->i+n<=items.size -> (∀h',h'.IsListIter it t (i+n)->h'.IsList t items->V9 it s.heap h'->Q ((items.toList.drop i).take n) {s with heap:=h'})->Ie (Ke prog w) A (draw (.ref it) n) Q E s
 |0,i,s,Q,hit,l,_,m=>by show Ie _ _ (pure []) Q E s;exact Fe (by simpa using m s.heap hit l (λ_ _ _ e=>e))
 |n+1,i,s,Q,hit,l,G,m=>by
  have B:i<items.size:=by lia
  show Ie _ _ (Lg (.ref it) >>= _) Q E s;refine Ae<|Hl hit l (x:=items[i]) (by simp[B]) λC c a=>?_;have q:=l.extBut a.extBut y;refine Ae<|Ye<|HH y n (i+1) _ _ c q (by lia) λk d v j=>Fe ?_;have hd:items.toList.drop i=items[i]::items.toList.drop (i+1):=by simp[M4,B]
  have:=m k (by rw[show i+(n+1)=i+1+n by lia];exact d) v<|λb o F e=>j b o F<|a.extBut b o F e;rw[hd,LX]at this;exact this
theorem CV{Q:List Be->Ge->Prop}(q:A.handled=none)(k:s.heap.IsList t items)(v:∀h',V9 s.heap.objs.size s.heap h'->Q items.toList {s with heap:=h'}):Ie (Ke prog w) A (unpackItems (.ref t) items.size none) Q E s:=by
 have x:t≠s.heap.objs.size:=by obtain⟨o,y,_⟩:=k;exact J1<|Q0 y
 unfold unpackItems;refine Ae ?_
 .unfold notIterableAtAll;refine Ae<|Bg k.typeIs slot_list_iter.lookup ?_;refine Fe ?_;simp only[Y4,if_false];refine Ae<|Ye<|Wg k ?_;refine Ae<|Ye<|HH x items.size 0 _ _ ⟨_,U0 _ rfl,rfl,rfl⟩ (k.push _) (P0<|Y6 _) λl a c d=>?_;have B:List.take items.size (List.drop 0 items.toList)=items.toList:=by
   rw[List.drop_zero];exact V4 (by simp)
  rw[B];rw[Ce<|by simp];refine Ae<|Ye<|Kl q a c (by simp) λj i=>?_;simp only[Option.isSome_none,Y4,if_false];refine Fe<|v j λb o m e=>i b o m<|d b o m<|i0 _ e
theorem RW{Q:Unit->Ge->Prop}(b:A.handled=none)(c:s.heap.IsList t items)(d:(Bf elts env).length=items.size) (a:(Bf elts env).findIdx? (·.1)=none)(h:∀h',V9 s.heap.objs.size s.heap h'->Ie (Ke prog w) A (assignInOrder ((Bf elts env).map (·.2)) items.toList) Q E {s with heap:=h'}):Ie (Ke prog w) A (Bi (.Tuple elts x1 pos) env<|.ref t) Q E s:=by
 rw[arm_assign_Tuple];refine Ae<|Oi ?_;unfold unpack;rw[d,a];exact Ae<|Ye<|CV b c h
theorem RB(q:A.handled=none)(d:s.heap.IsTuple l (Sf a))(t:0<a.size)(h:∀v h' k,(Sf a)[argBest (λi j=>decide<|Vi a i<Vi a j)<|a.size-1]?=some v->(∀b o,s.heap.get? b=some o->h'.get? b=some o)->Q v {s with heap:=h',toks:=k}):Ie (Ke prog w) A (call (.builtin "min") [.ref l]) Q E s:=by
 obtain⟨o,m,C,n,hd⟩:=id d;have x:l≠s.heap.objs.size:=J1<|Q0 m;refine call_min_walk<|Eh d ?_;refine⟨s.heap.objs.size,_,_,_,_,_,_,rfl,Walks.tuple (A:=A.in1) q _ l x<|Sf a,⟨⟨_,U0 _ rfl,rfl,rfl⟩,d.push _⟩,λb c=>?_,by simpa [Sf]using t,CmpOf.ints_lt (Vi a)<|λ_ _=>Nl,λv h' k y B=>?_⟩
 .rcases E1.mp c with rfl|c
  .exact Q0 (U0 _ rfl)
  .obtain rfl:=J2.mp c;exact Q0<|i0 _ m
 .exact h v h' k (by simpa [Sf]using y) λb o e=>B b o (λc=>absurd (Q0 e)<|(J2.mp c) ▸ T2 _)<|i0 _ e
theorem SB(q:A.handled=none)(d:s.heap.IsTuple l (Sf a))(t:0<a.size)(h:∀v h' k,(Sf a)[argBest (λi j=>decide<|Vi a i > Vi a j)<|a.size-1]?=some v->(∀b o,s.heap.get? b=some o->h'.get? b=some o)->Q v {s with heap:=h',toks:=k}):Ie (Ke prog w) A (call (.builtin "max") [.ref l]) Q E s:=by
 obtain⟨o,m,C,n,hd⟩:=id d;have x:l≠s.heap.objs.size:=J1<|Q0 m;refine call_max_walk<|Eh d ?_;refine⟨s.heap.objs.size,_,_,_,_,_,_,rfl,Walks.tuple (A:=A.in1) q _ l x<|Sf a,⟨⟨_,U0 _ rfl,rfl,rfl⟩,d.push _⟩,λb c=>?_,by simpa [Sf]using t,CmpOf.ints_gt (Vi a)<|λ_ _=>Nl,λv h' k y B=>?_⟩
 .rcases E1.mp c with rfl|c
  .exact Q0 (U0 _ rfl)
  .obtain rfl:=J2.mp c;exact Q0<|i0 _ m
 .exact h v h' k (by simpa [Sf]using y) λb o e=>B b o (λc=>absurd (Q0 e)<|(J2.mp c) ▸ T2 _)<|i0 _ e
end
def BA(K:K0)(n:Nat)(t:Oy):TG:=λv σ H Q=>∃a b,v=.ref a/\SqL K H a b/\b.length=n/\t b σ H Q
theorem jR{d:Pos}{c:List We}{k:Nat}{t:Oy}(j:X.calm=true)(h:ZE X c t)
  (l:(Bf c X.env).length=n:=by rfl) (m:(Bf c X.env).findIdx? (·.1)=none:=by rfl):PG X (.Tuple c k d) (BA X.K n t):=by
 intro de s σ H v u Q I r hw;obtain⟨a,q,w,x,hl,hw⟩:=hw;subst w;cases r;obtain⟨its,i,p,B⟩:=I.list x;refine RW (I.ok.hd j) p.isList (by simp[l,<-hl,i.length]) m λh' hx=>?_;have y:Inv X de σ H {s with heap:=h'}:=I.kept (t':=s.toks) λb o e=>hx b o (J1<|Q0 e) e;exact h de _ σ H q _ Q y (by simpa using i) hw
def CA(K:K0):List V->Hp->VK->Prop:=λb H Q=>∃(a:Ee) (ns:Qn),b=[.ref a]/\(SqL K H a (ns.map V.int)\/SqT K H a (ns.map V.int))/\0<ns.length/\∀M,M∈ns->(∀y∈ns,M<=y)->Q (.int M) H
def DA(K:K0):List V->Hp->VK->Prop:=λb H Q=>∃(a:Ee) (ns:Qn),b=[.ref a]/\(SqL K H a (ns.map V.int)\/SqT K H a (ns.map V.int))/\0<ns.length/\∀M,M∈ns->(∀y∈ns,y<=M)->Q (.int M) H
theorem IH{K:K0}(G:X.K=K)(L:X.calm=true):YZ X (.builtin "min") (CA K):=by
 subst G;intro de s σ H xs us Q I r h;obtain⟨a,ns,rfl,k,M,q⟩:=h;obtain⟨u,rfl,O⟩:=wK r;cases O;have x:=I.ok.hd L;have fin:∀{its:List Be}{c:Kn (Int×Tok)},Vals (ns.map V.int) its->its.toArray=Sf c->0<c.size/\∀(v:Be) (h':Gf) (B:Nat),(Sf c)[argBest (λi j=>decide<|Vi c i<Vi c j)<|c.size-1]?=some v->(∀b o,s.heap.get? b=some o->h'.get? b=some o)->EP X de σ Q v {s with heap:=h',toks:=B}:=by
  intro its c d e;have hi:Ag its ns:=JZ d;have m:ns=c.toList.map (·.1):=by rw[<-Ti,<-e];exact(show numsOf its.toArray.toList=ns from hi.numsOf).symm
  have l:0<c.size:=by have C:=M;rw[m,g0,Z0]at C;exact C
  refine⟨l,λv h' B P R=>?_⟩;obtain⟨t,rfl⟩:=Nl P;obtain⟨U,Y⟩:=argBest_lt (Vi c)<|c.size-1;refine⟨.int _,H,I.kept R,⟨t,rfl⟩,q _ ?_ λy hy=>?_⟩
  .rw[m,Gn];exact getD_mem (by rw[g0,Z0];exact W9 l U)
  .rw[m]at hy;obtain⟨j,F,rfl⟩:=mem_getD hy;rw[g0,Z0]at F;rw[<-Gn];exact Y j<|W1 F
 rcases k with k|k
 .obtain⟨its,d,p,Z⟩:=I.list k;obtain⟨c,hx⟩:=(JZ d).allInts.items;obtain⟨w,f⟩:=fin d hx;exact min_intList x (hx ▸ p.isList) w f
 .obtain⟨its,d,p,Z⟩:=I.tuple k;obtain⟨c,hx⟩:=(JZ d).allInts.items;obtain⟨w,f⟩:=fin d hx;exact RB x (show s.heap.IsTuple a (Sf c) from hx ▸ p) w f
theorem KH{K:K0}(G:X.K=K)(L:X.calm=true):YZ X (.builtin "max") (DA K):=by
 subst G;intro de s σ H xs us Q I r h;obtain⟨a,ns,rfl,k,M,q⟩:=h;obtain⟨u,rfl,O⟩:=wK r;cases O;have x:=I.ok.hd L;have fin:∀{its:List Be}{c:Kn (Int×Tok)},Vals (ns.map V.int) its->its.toArray=Sf c->0<c.size/\∀(v:Be) (h':Gf) (B:Nat),(Sf c)[argBest (λi j=>decide<|Vi c i > Vi c j)<|c.size-1]?=some v->(∀b o,s.heap.get? b=some o->h'.get? b=some o)->EP X de σ Q v {s with heap:=h',toks:=B}:=by
  intro its c d e;have hi:Ag its ns:=JZ d;have m:ns=c.toList.map (·.1):=by rw[<-Ti,<-e];exact(show numsOf its.toArray.toList=ns from hi.numsOf).symm
  have l:0<c.size:=by have C:=M;rw[m,g0,Z0]at C;exact C
  refine⟨l,λv h' B P R=>?_⟩;obtain⟨t,rfl⟩:=Nl P;obtain⟨U,Y⟩:=argBest_gt (Vi c)<|c.size-1;refine⟨.int _,H,I.kept R,⟨t,rfl⟩,q _ ?_ λy hy=>?_⟩
  .rw[m,Gn];exact getD_mem (by rw[g0,Z0];exact W9 l U)
  .rw[m]at hy;obtain⟨j,F,rfl⟩:=mem_getD hy;rw[g0,Z0]at F;rw[<-Gn];exact Y j<|W1 F
 rcases k with k|k
 .obtain⟨its,d,p,Z⟩:=I.list k;obtain⟨c,hx⟩:=(JZ d).allInts.items;obtain⟨w,f⟩:=fin d hx;exact max_intList x (hx ▸ p.isList) w f
 .obtain⟨its,d,p,Z⟩:=I.tuple k;obtain⟨c,hx⟩:=(JZ d).allInts.items;obtain⟨w,f⟩:=fin d hx;exact SB x (show s.heap.IsTuple a (Sf c) from hx ▸ p) w f
end L2
namespace L3
open L2
noncomputable def gb(a:List uY):uY:=λd ρ Q=>match d with
 | .list b=>b.length=a.length/\F_ a b ρ Q
 |_=>Ln
section
variable {K:Fg}{σ:L2.St}{v:V}{Q:L2.St->Hp->Prop}
theorem jb(a:gs.length=n)(h:QZ K (gb gs) v σ H Q):BA K n (CU<|gs.map<|QZ K) v σ H Q:=by
 obtain⟨G,F,ρ,d,b,R,hd,w,k⟩:=h;unfold gb at w;split at w
 .cases hd with
  |lst e t=>exact⟨_,_,rfl,SqL.of<|R.sub _ _ e,by rw[t.length,w.1,a],iP R t w.2 k⟩
 .exact w.elim
end
theorem EA{K:Fg}{a:List We}{b:Pos}{c:List uY}{k:Nat}(d:X.K=K)(e:X.calm=true)(i:WGs X a (CU<|c.map<|QZ K))(j:(Bf a X.env).length=c.length:=by rfl)(l:(Bf a X.env).findIdx? (·.1)=none:=by rfl):WG X (.Tuple a k b) (QZ K<|gb c):=by subst d;exact⟨Sa (jR e i.h j l)<|jb rfl⟩
noncomputable def qb:D->(Sl->Prop)->Prop
 | .list a,Q=>∃ns:Qn,a=ns.map q0/\0<ns.length/\∀M,M∈ns->(∀y∈ns,M<=y)->Q (.fz<|.int M)
 | .tuple a,Q=>∃ns:Qn,a=ns.map q0/\0<ns.length/\∀M,M∈ns->(∀y∈ns,M<=y)->Q (.fz<|.int M)
 |_,_=>Ln
noncomputable def ub:D->(Sl->Prop)->Prop
 | .list a,Q=>∃ns:Qn,a=ns.map q0/\0<ns.length/\∀M,M∈ns->(∀y∈ns,y<=M)->Q (.fz<|.int M)
 | .tuple a,Q=>∃ns:Qn,a=ns.map q0/\0<ns.length/\∀M,M∈ns->(∀y∈ns,y<=M)->Q (.fz<|.int M)
 |_,_=>Ln
theorem Nj{K:Fg}:RZ K (CA K) (o1 qb):=Bq λG F σ H ρ x d Q t R m w k=>by
 cases d<;>first|exact w.elim|skip
 case list q=>obtain⟨ns,e,b,w⟩:=w;subst e;obtain⟨a,us,rfl,c,i⟩:=m.list R.sub;have:=i.intsV;subst this;exact⟨a,ns,rfl,.inl<|SqL.of c,b,λM j l=>k _ H F (.fz _) (Sub.refl _) R (Da.int _)<|w M j l⟩
 case tuple q=>obtain⟨ns,e,b,w⟩:=w;subst e;obtain⟨a,us,rfl,_,c,i⟩:=m.tuple R.sub;have:=i.intsV;subst this;exact⟨a,ns,rfl,.inr<|SqT.of c,b,λM j l=>k _ H F (.fz _) (Sub.refl _) R (Da.int _)<|w M j l⟩
theorem Oj{K:Fg}:RZ K (DA K) (o1 ub):=Bq λG F σ H ρ x d Q t R m w k=>by
 cases d<;>first|exact w.elim|skip
 case list q=>obtain⟨ns,e,b,w⟩:=w;subst e;obtain⟨a,us,rfl,c,i⟩:=m.list R.sub;have:=i.intsV;subst this;exact⟨a,ns,rfl,.inl<|SqL.of c,b,λM j l=>k _ H F (.fz _) (Sub.refl _) R (Da.int _)<|w M j l⟩
 case tuple q=>obtain⟨ns,e,b,w⟩:=w;subst e;obtain⟨a,us,rfl,_,c,i⟩:=m.tuple R.sub;have:=i.intsV;subst this;exact⟨a,ns,rfl,.inr<|SqT.of c,b,λM j l=>k _ H F (.fz _) (Sub.refl _) R (Da.int _)<|w M j l⟩
end L3
namespace SG
noncomputable def qy:Bool->Me->Kn Me->Nat->Nat->Nat->StateT Pe Sem (Jn Nat):=sortPriv% PySem.Builtin.gallop
noncomputable def I_:Kn Me->Kn Me->StateT Pe Sem (Kn Me):=sortPriv% PySem.Builtin.mergeLo
noncomputable def J_:Kn Me->Kn Me->StateT Pe Sem (Kn Me):=sortPriv% PySem.Builtin.mergeHi
noncomputable abbrev DV(z:Pe)(g:Nat):Pe:=SortSt.mk' (kindOf z) (arrOf z) (Se z) g<|Xg z
theorem kR(d:Bool)(c:Me)(e:Kn Me)(bs n a:Nat):qy d c e bs n a=(do
    let ov (i:Nat):StateT Pe Sem (Jn Bool):=do
      let z<-Of e (bs+i)
      if d then lt' z c else return (<-lt' c z).map (!·)
    let mut la:=0
    let mut o:=1
    let mut l:=0
    let mut h:=0
    let some rt<-ov a|return none
    if rt then
      let b:=n-a
      for _ in [0:n] do
        if o ≥ b then break
        let some mo<-ov (a+o)|return none
        if !mo then break
        la:=o
        o:=2*o+1
      l:=a+la+1
      h:=a+min o b
    else
      let b:=a+1
      for _ in [0:n] do
        if o ≥ b then break
        let some fo<-ov (a-o)|return none
        if fo then break
        la:=o
        o:=2*o+1
      l:=a+1-min o b
      h:=a-la
    for _ in [0:n] do
      if l ≥ h then break
      let m:=l+(h-l) / 2
      let some mo<-ov m|return none
      if mo then l:=m+1 else h:=m
    return some h):=rfl
section
variable {w:Xe}{κ:Gg}{rk:Me->Nat}{S:Me->Prop}
def EK(prog:Cf)(w:Xe)(A:Dh)(s:Ge)(κ:Gg)(rk:Me->Nat)(S:Me->Prop):Prop:=∀x y:Me,S x->S y->∀Q:Bool->Ge->Prop,Q (decide<|rk x<rk y) s->Ie (Ke prog w) A (keyLt' κ x.1 y.1) Q (λ_ _=>Ln) s
theorem w_lt(q:EK prog w A s κ rk S){x y:Me}{st:Pe}{Q:Jn Bool->Pe->Prop}(a:kindOf st=κ)(hx:S x)(hy:S y)(h:Q (some<|decide<|rk x<rk y) st):wpS (Ke prog w) A E s (lt' x y) Q st:=by
 rw[lt'_eq];refine He<|Vh ?_;rw[a];refine He<|Yi<|Ug<|wpAny_mono (q x y hx hy (λb s'=>b=decide (rk x<rk y)/\s'=s) ⟨rfl,rfl⟩) (λb s' e=>?_) λ_ _ e=>e.elim;obtain⟨rfl,rfl⟩:=e;exact⟨rfl,Le h⟩
theorem gJ{st:Pe}{Q:Me->Pe->Prop}(hi:i<xs.size)(h:Q xs[i] st):wpS (Ke prog w) A E s (Of xs i) Q st:=by rw[elem'_eq,getElem?_pos xs i hi];exact Le h
def Ov(prog:Cf)(w:Xe)(A:Dh)(E:Be->Ge->Prop)(s:Ge)(n:Nat)(b:Nat->Bool)(st:Pe)(a:Nat->StateT Pe Sem (Jn Bool)):Prop:=∀i,i<n->∀Q:Jn Bool->Pe->Prop,Q (some<|b i) st->wpS (Ke prog w) A E s (a i) Q st
noncomputable def FA(c:Nat->StateT Pe Sem (Jn Bool))(n a b:Nat):StateT Pe Sem (Jn Nat):=do
 let mut l:=a
 let mut h:=b
 for _ in [0:n] do
  if l ≥ h then break
  let m:=l+(h-l) / 2
  let some mo<-c m|return none
  if mo then l:=m+1 else h:=m
 return some h
theorem w_bin{h':Nat}{st:Pe}{Q:Jn Nat->Pe->Prop}(G:Ov prog w A E s n b st ov)(C:∀i j,i<=j->j<n->b j=true->b i=true) (L:l<=h') (F:h'<=n) (M:∀i,i<l->b i=true) (O:∀i,h'<=i->i<n->b i=false)(h:∀k,k<=n->(∀i,i<k->b i=true)->(∀i,k<=i->i<n->b i=false)->Q (some k) st):wpS (Ke prog w) A E s (FA ov n l h') Q st:=by
 unfold FA;refine He<|Pf (Hf (I:=λx c d=>d=st/\∃l h',c=(none,l,h')/\l<=h'/\h'<=n/\h'-l<=n-x/\(∀i,i<l->b i=true)/\∀i,h'<=i->i<n->b i=false)
   (Q:=λc d=>d=st/\∃k,c=(none,k,k)/\k<=n/\(∀i,i<k->b i=true)/\∀i,k<=i->i<n->b i=false) ?step ?fin ⟨rfl,l,h',rfl,L,F,A0 (R7 _ _) F,M,O⟩) ?post
 case fin=>rintro c d ⟨rfl,l,h',rfl,q,e,m,t,v⟩;have:l=h':=lc m q;subst this;exact⟨rfl,l,rfl,e,t,v⟩
 case post=>rintro c d ⟨rfl,k,rfl,q,e,m⟩;exact Le<|h k q e m
 case step =>
  rintro x c d _ hx ⟨rfl,l,h',rfl,q,e,m,t,v⟩;dsimp only;by_cases a:l ≥ h'
  .rw[De a];have:l=h':=N3 q a;subst this;exact Le ⟨rfl,l,rfl,e,t,v⟩
  .rw[Ce a];refine He<|G _ (by lia) _ ?_;cases y:b (l+(h'-l) / 2) with
   |true=>refine Le ⟨rfl,_,_,rfl,by lia,e,fc m,λi hi=>C _ _ (J5 hi) (by lia) y,v⟩
   |false =>
    refine Le ⟨rfl,_,_,rfl,T1 _ _,by lia,gc m,t,λi i1 i2=>?_⟩;cases B:b i with
    |false=>rfl
    |true=>rw[C _ _ i1 i2 B]at y;cases y
theorem GA{L:Bool}{st:Pe}{Q:Jn Nat->Pe->Prop}
  (C:Ov prog w A E s n b st (λi=>do
    let z<-Of xs (bs+i)
    if L then lt' z ky else return (<-lt' ky z).map (!·)))
  (F:∀i j,i<=j->j<n->b j=true->b i=true) (G:ht<n)
  (h:∀k,k<=n->(∀i,i<k->b i=true)->(∀i,k<=i->i<n->b i=false)->Q (some k) st):wpS (Ke prog w) A E s (qy L ky xs bs n ht) Q st:=by
 rw[kR];generalize M:(λi=>(do
     let z<-Of xs (bs+i)
     if L then lt' z ky else return (<-lt' ky z).map (!·):StateT Pe Sem (Jn Bool)))=ov at C;dsimp only;clear M;refine He<|C ht G _ ?_;cases P:b ht with
 |true =>
  dsimp only;rw[De rfl];refine He<|Pf (Hf (I:=λx c m=>m=st/\∃a o:Nat,c=(none,a,o)/\a<o/\x+1<=o/\ht+a<n/\b (ht+a)=true)
    (Q:=λc m=>m=st/\∃a o:Nat,c=(none,a,o)/\a<o/\ht+a<n/\b (ht+a)=true/\(n-ht<=o\/b (ht+o)=false)) ?step ?fin ⟨rfl,0,1,rfl,S3 _,P0 rfl,by omega,P⟩) ?post
  case fin=>rintro c m ⟨rfl,a,o,rfl,t,O,q,e⟩;exact⟨rfl,a,o,rfl,t,q,e,.inl<|by lia⟩
  case step =>
   rintro x c m _ hx ⟨rfl,a,o,rfl,t,O,q,e⟩;dsimp only;by_cases d:o ≥ n-ht
   .rw[De d];exact Le ⟨rfl,a,o,rfl,t,q,e,.inl d⟩
   .rw[Ce d];refine He<|C _ (B7<|N9 d) _ ?_;cases v:b (ht+o) with
    |true=>exact Le ⟨rfl,o,2*o+1,rfl,by lia,by lia,by lia,v⟩
    |false=>exact Le ⟨rfl,a,o,rfl,t,q,e,.inr v⟩
  case post =>
   rintro c m ⟨rfl,a,o,rfl,t,q,e,y⟩;refine w_bin C F (l:=ht+a+1) (h':=ht+min o (n-ht)) (by lia) (le_of_le_of_eq (T0 (h7 _ _) _)<|M3<|N1 G) (λi hi=>F _ _ (J5 hi) q e) (λi i1 i2=>?_) h;rcases y with y|y
   .omega
   .cases B:b i with
    |false=>rfl
    |true=>rw[F (ht+o) i (by lia) i2 B]at y;cases y
 |false =>
  dsimp only;rw[Ce<|by decide];refine He<|Pf (Hf (I:=λx c m=>m=st/\∃a o:Nat,c=(none,a,o)/\a<o/\x+1<=o/\a<=ht/\b (ht-a)=false)
    (Q:=λc m=>m=st/\∃a o:Nat,c=(none,a,o)/\a<o/\a<=ht/\b (ht-a)=false/\(ht+1<=o\/b (ht-o)=true)) ?step2 ?fin2 ⟨rfl,0,1,rfl,by lia,by lia,j4 _,P⟩) ?post2
  case fin2=>rintro c m ⟨rfl,a,o,rfl,t,O,q,e⟩;exact⟨rfl,a,o,rfl,t,q,e,.inl<|by lia⟩
  case step2 =>
   rintro x c m _ hx ⟨rfl,a,o,rfl,t,O,q,e⟩;dsimp only;by_cases d:o ≥ ht+1
   .rw[De d];exact Le ⟨rfl,a,o,rfl,t,q,e,.inl d⟩
   .rw[Ce d];refine He<|C _ (O9 G) _ ?_;cases v:b (ht-o) with
    |false=>exact Le ⟨rfl,o,2*o+1,rfl,by lia,by lia,J5<|N9 d,v⟩
    |true=>exact Le ⟨rfl,a,o,rfl,t,q,e,.inr v⟩
  case post2 =>
   rintro c m ⟨rfl,a,o,rfl,t,q,e,y⟩;have up:∀i,ht-a<=i->i<n->b i=false:=λi i1 i2=>by
    cases B:b i with
    |false=>rfl
    |true=>rw[F (ht-a) i i1 i2 B]at e;cases e
   refine w_bin C F (l:=ht+1-min o (ht+1)) (h':=ht-a) (by omega) (N1<|O9 G) (λi hi=>?_) up h;rcases y with y|y
   .omega
   .exact F _ (ht-o) (Ed hi) (O9 G) y
theorem jY(q:EK prog w A s κ rk S){c:Bool}{d:Me}{a:Kn Me}{bs n B:Nat}{st:Pe}{Q:Jn Nat->Pe->Prop}(m:kindOf st=κ)(hy:S d)(C:∀i (h:i<a.size),S a[i])(I:bs+n<=a.size) (L:∀i j (h:j<a.size) (v:i<=j),bs<=i->j<bs+n->rk (a[i]'(W0 v h))<=rk a[j]) (M:B<n)(h:∀k,k<=n->(∀i (h:i<a.size),bs<=i->i<bs+k->if c=true then rk a[i]<rk d else rk a[i]<=rk d)->(∀i (h:i<a.size),bs+k<=i->i<bs+n->if c=true then rk d<=rk a[i] else rk d<rk a[i])->Q (some k) st):wpS (Ke prog w) A E s (qy c d a bs n B) Q st:=by
 refine GA (b:=λi=>if hi:bs+i<a.size then (if c=true then decide (rk a[bs+i]<rk d) else !decide (rk d<rk a[bs+i])) else false) ?_ ?_ M ?_
 .intro i hi Q x;have t:bs+i<a.size:=B0 (j5 hi _) I;simp only[dif_pos t]at x;refine He<|gJ t ?_;cases c with
  |true=>exact w_lt q m (C _ _) hy x
  |false=>exact He<|w_lt q m hy (C _ _)<|Le x
 .intro i j F O l;have y:bs+j<a.size:=by lia
  have t:bs+i<a.size:=W0 (T0 F _) y;have G:=L (bs+i) (bs+j) y (T0 F _) (T1 _ _)<|j5 O _;simp only[dif_pos y]at l;simp only[dif_pos t];cases c with
  |true=>simp at l ⊢;exact W0 G l
  |false=>simp at l ⊢;exact A0 G l
 .intro k m P v;refine h k m (λi hi i1 i2=>?_)<|λi hi i1 i2=>?_
  .have:=P (i-bs)<|E6 i1 i2;have e:bs+(i-bs)=i:=M3 i1;simp only[e,dif_pos hi]at this;cases c with
   |true=>simpa using this
   |false=>simpa using this
  .have:=v (i-bs) (oX i1)<|E6 (Z1 i1) i2;have e:bs+(i-bs)=i:=M3<|Z1 i1;simp only[e,dif_pos hi]at this;cases c with
   |true=>simpa using this
   |false=>simpa using this
end
section
variable {le:α->α->Prop}{a b mf:List α}{i j:Nat}
structure Mg(le:α->α->Prop)(a b mf:List α)(i j:Nat):Prop where
 perm:mf.Perm (a.take i++b.take j)
 srt:mf.Pairwise le
 la:∀x∈mf,∀y∈a.drop i,le x y
 lb:∀x∈mf,∀y∈b.drop j,le x y
theorem Mg.comm(h:Mg le a b mf i j):Mg le b a mf j i:=⟨h.perm.trans m8,h.srt,h.lb,h.la⟩
theorem Mg.takeA(h:Mg le a b mf i j)(c:a.Pairwise le)(k:Nat)(d:∀x∈(a.drop i).take k,∀y∈b.drop j,le x y):Mg le a b (mf++(a.drop i).take k) (i+k) j where
 perm:=by rw[List.take_add];refine(h.perm.append_right _).trans ?_;rw[u3,u3];exact List.Perm.append_left _ m8
 srt:=Q6.mpr ⟨h.srt,(c.sublist<|q9 _ _).sublist<|sQ _ _,λx hx y hy=>h.la x hx y<|X9 hy⟩
 la:=λx hx y hy=>by
  rw[<-xX]at hy;rcases O2.mp hx with hx|hx
  .exact h.la x hx y (FX hy)
  .have p:=c.sublist<|q9 i _;rw[<-Q5 k (a.drop i)]at p;exact(Q6.mp p).2.2 x hx y hy
 lb:=λx hx y hy=>by
  rcases O2.mp hx with hx|hx
  .exact h.lb x hx y hy
  .exact d x hx y hy
theorem Mg.oneA(h:Mg le a b mf i j)(c:a.Pairwise le)(hi:i<a.length)(d:∀y∈b.drop j,le a[i] y):Mg le a b (mf++[a[i]]) (i+1) j:=by
 have e:(a.drop i).take 1=[a[i]]:=by rw[M4 hi];rfl
 have:=h.takeA c 1 (by rw[e];simpa using d);rwa [e]at this
theorem Mg.fin(h:Mg le a b mf i j)(c:a.Pairwise le)(d:b.Pairwise le)(hx:∀x∈a.drop i,∀y∈b.drop j,le x y):(mf++a.drop i++b.drop j).Perm (a++b)/\(mf++a.drop i++b.drop j).Pairwise le:=by
 constructor
 .have e:(a.take i++b.take j++a.drop i++b.drop j).Perm (a.take i++a.drop i++(b.take j++b.drop j)):=by
   simp only[u3];refine List.Perm.append_left _ ?_;rw[<-u3,<-u3];exact m8.append_right _
  rw[Q5,Q5]at e;exact((h.perm.append_right _).append_right _).trans e
 .rw[u3];refine Q6.mpr ⟨h.srt,Q6.mpr ⟨c.sublist<|q9 _ _,d.sublist<|q9 _ _,hx⟩,λx hx y hy=>?_⟩;rcases O2.mp hy with hy|hy
  .exact h.la x hx y hy
  .exact h.lb x hx y hy
theorem Mg.finC(h:Mg le a b mf i j)(c:a.Pairwise le)(d:b.Pairwise le)(hx:∀x∈b.drop j,∀y∈a.drop i,le x y):(mf++b.drop j++a.drop i).Perm (a++b)/\(mf++b.drop j++a.drop i).Pairwise le:=by obtain⟨e,k⟩:=h.comm.fin d c hx;exact⟨e.trans m8,k⟩
end
noncomputable abbrev HL:=Jn (Kn Me)×Kn Me×Nat×Nat×Nat×Nat×Nat
noncomputable abbrev K_:=Jn (Kn Me)×Kn Me×Nat×Nat×Nat×Nat
noncomputable abbrev L_:=Jn (Kn Me)×Kn Me×Nat×Nat×Nat
section
variable (x y:Kn Me)
noncomputable def dn(o:Kn Me)(i j:Nat):Kn Me:=o++x.extract i x.size++y.extract j y.size
noncomputable def ls(o:Kn Me)(i j:Nat):Kn Me:=o++y.extract j y.size++x.extract i x.size
noncomputable def M_(o:Kn Me)(i j g ac a:Nat):StateT Pe Sem (ForInStep HL):=do
 let z<-Of x i
 if (i+1+1==x.size)=true then pure (.done (some<|ls x y (o.push z) (i+1) j,o.push z,i+1,j,g,ac,a))
 else if (decide (ac<7)&&decide (a<7))=true then pure (.done (none,o.push z,i+1,j,g,ac,a))
 else pure (.yield (none,o.push z,i+1,j,g,ac,a))
noncomputable def N_(o:Kn Me)(i j g ac a:Nat):StateT Pe Sem (ForInStep HL):=do
 let z<-Of y j
 if (j+1==y.size)=true then pure (.done (some<|dn x y (o.push z) i<|j+1,o.push z,i,j+1,g,ac,a))
 else do
  let u<-Of x i
  let some k<-qy true u y (j+1) (y.size-(j+1)) 0|pure (.done (some<|dn x y (o.push z) i<|j+1,o.push z,i,j+1,g,ac,a))
  if k > 0 then
   if (j+1+k==y.size)=true then pure (.done (some<|dn x y (o.push z++y.extract (j+1) (j+1+k)) i<|j+1+k,o.push z++y.extract (j+1) (j+1+k),i,j+1+k,g,ac,k))
   else M_ x y (o.push z++y.extract (j+1) (j+1+k)) i (j+1+k) g ac k
  else M_ x y (o.push z) i (j+1) g ac k
noncomputable def O_(o:Kn Me)(i j g ac a:Nat):StateT Pe Sem (ForInStep HL):=do
 modify λv=>DV v g
 let z<-Of y j
 let some k<-qy false z x i (x.size-i) 0|pure (.done (some<|dn x y o i j,o,i,j,g,ac,a))
 if k > 0 then
   if (i+k+1==x.size)=true then pure (.done (some<|ls x y (o++x.extract i (i+k)) (i+k) j,o++x.extract i (i+k),i+k,j,g,k,a))
   else if (i+k==x.size)=true then pure (.done (some<|dn x y (o++x.extract i (i+k)) (i+k) j,o++x.extract i (i+k),i+k,j,g,k,a))
   else N_ x y (o++x.extract i (i+k)) (i+k) j g k a
 else N_ x y o i j g k a
noncomputable def vb(t:HL):StateT Pe Sem (ForInStep HL) :=
 if t.2.2.2.2.1 > 1 then O_ x y t.2.1 t.2.2.1 t.2.2.2.1 (t.2.2.2.2.1-1) t.2.2.2.2.2.1 t.2.2.2.2.2.2
 else O_ x y t.2.1 t.2.2.1 t.2.2.2.1 t.2.2.2.2.1 t.2.2.2.2.2.1 t.2.2.2.2.2.2
noncomputable def xb(g:Nat)(t:K_):StateT Pe Sem (ForInStep K_):=do
 let z<-Of y t.2.2.2.1
 let u<-Of x t.2.2.1
 let some yw<-lt' z u|pure (.done (some<|dn x y t.2.1 t.2.2.1 t.2.2.2.1,t.2.1,t.2.2.1,t.2.2.2.1,t.2.2.2.2.1,t.2.2.2.2.2))
 if yw=true then do
   let z<-Of y t.2.2.2.1
   if (t.2.2.2.1+1==y.size)=true then pure (.done (some<|dn x y (t.2.1.push z) t.2.2.1<|t.2.2.2.1+1,t.2.1.push z,t.2.2.1,t.2.2.2.1+1,0,t.2.2.2.2.2+1))
   else if t.2.2.2.2.2+1 ≥ g then pure (.done (none,t.2.1.push z,t.2.2.1,t.2.2.2.1+1,0,t.2.2.2.2.2+1))
   else pure (.yield (none,t.2.1.push z,t.2.2.1,t.2.2.2.1+1,0,t.2.2.2.2.2+1))
 else do
   let z<-Of x t.2.2.1
   if (t.2.2.1+1+1==x.size)=true then pure (.done (some<|ls x y (t.2.1.push z) (t.2.2.1+1) t.2.2.2.1,t.2.1.push z,t.2.2.1+1,t.2.2.2.1,t.2.2.2.2.1+1,0))
   else if t.2.2.2.2.1+1 ≥ g then pure (.done (none,t.2.1.push z,t.2.2.1+1,t.2.2.2.1,t.2.2.2.2.1+1,0))
   else pure (.yield (none,t.2.1.push z,t.2.2.1+1,t.2.2.2.1,t.2.2.2.2.1+1,0))
noncomputable def P_(t:L_):StateT Pe Sem (ForInStep L_):=do
 let v<-forIn [:x.size+y.size] ((none,t.2.1,t.2.2.1,t.2.2.2.1,0,0):K_) λ_ v=>xb x y t.2.2.2.2 v
 match v.1 with
 |some r=>pure<|.done (some r,v.2.1,v.2.2.1,v.2.2.2.1,t.2.2.2.2)
 |none=>do
  liftM (rule "list.sort.gallop")
  let u<-forIn [:x.size+y.size] ((none,v.2.1,v.2.2.1,v.2.2.2.1,t.2.2.2.2+1,v.2.2.2.2.1,v.2.2.2.2.2):HL) λ_ u=>vb x y u
  match u.1 with
  |some r=>pure<|.done (some r,u.2.1,u.2.2.1,u.2.2.2.1,u.2.2.2.2.1)
  |none=>do
   modify λz=>DV z (u.2.2.2.2.1+1)
   pure (.yield (none,u.2.1,u.2.2.1,u.2.2.2.1,u.2.2.2.2.1+1))
end
theorem IL(x y:Kn Me):I_ x y=(do
    rule "list.sort.merge-lo"
    let tt:=x.size+y.size
    let dn (o:Kn Me) (i j:Nat):=o++x.extract i x.size++y.extract j y.size
    let ls (o:Kn Me) (i j:Nat):=o++y.extract j y.size++x.extract i x.size
    let mut o:Kn Me:=#[<-Of y 0]
    let mut i:=0
    let mut j:=1
    if j==y.size then return dn o i j
    if i+1==x.size then return ls o i j
    let mut g:=Km (<-get)
    for _ in [0:tt] do
      let mut ac:=0
      let mut bc:=0
      for _ in [0:tt] do
        let some yw<-lt' (<-Of y j) (<-Of x i)|return dn o i j
        if yw then
          o:=o.push (<-Of y j);j:=j+1;bc:=bc+1;ac:=0
          if j==y.size then return dn o i j
          if bc ≥ g then break
        else
          o:=o.push (<-Of x i);i:=i+1;ac:=ac+1;bc:=0
          if i+1==x.size then return ls o i j
          if ac ≥ g then break
      rule "list.sort.gallop"
      g:=g+1
      for _ in [0:tt] do
        if g > 1 then g:=g-1
        modify (DV · g)
        let some k<-qy false (<-Of y j) x i (x.size-i) 0|return dn o i j
        ac:=k
        if k > 0 then
          o:=o++x.extract i (i+k);i:=i+k
          if i+1==x.size then return ls o i j
          if i==x.size then return dn o i j
        o:=o.push (<-Of y j);j:=j+1
        if j==y.size then return dn o i j
        let some k<-qy true (<-Of x i) y j (y.size-j) 0|return dn o i j
        bc:=k
        if k > 0 then
          o:=o++y.extract j (j+k);j:=j+k
          if j==y.size then return dn o i j
        o:=o.push (<-Of x i);i:=i+1
        if i+1==x.size then return ls o i j
        if ac<7&&bc<7 then break
      g:=g+1
      modify (DV · g)
    Ii "internal:list.sort.merge-bound"):=rfl
theorem lR(x y:Kn Me):I_ x y=(do
    liftM (rule "list.sort.merge-lo")
    let z<-Of y 0
    if (1==y.size)=true then pure (dn x y #[z] 0 1)
    else if (0+1==x.size)=true then pure (ls x y #[z] 0 1)
    else do
      let s<-get
      let v<-forIn [:x.size+y.size] ((none,#[z],0,1,Km s):L_) λ_ v=>P_ x y v
      match v.1 with
      |some r=>pure r
      |none=>Ii "internal:list.sort.merge-bound"):=by
 rw[IL];dsimp only;refine Te (bind _)<|funext λ_=>?_;refine Te (bind _)<|funext λz=>?_;refine congr (Te _ rfl) ?_;refine congr (Te _ rfl) ?_;refine Te (bind _)<|funext λs=>?_;refine congr (Te bind ?A) (funext λv=>by obtain⟨r,v⟩:=v;cases r<;>rfl);refine Te _<|funext λ_=>funext λv=>?_;unfold P_;refine congr (Te bind rfl)<|funext λv=>?_;obtain⟨r,v⟩:=v;cases r with
 |some r=>rfl
 |none=>refine Te (bind _)<|funext λ_=>?_;refine congr (Te bind ?A2) (funext λv=>by obtain⟨r,v⟩:=v;cases r<;>rfl);rfl
section
variable {x y o:Kn α}{i j k:Nat}
theorem MU:(x.extract i x.size).toList=x.toList.drop i:=by rw[Y5,O4,V4<|by simp]
theorem nN:(x.extract i<|i+k).toList=(x.toList.drop i).take k:=by rw[Y5,O4,W2]
theorem YJ(h:v∈x.toList.drop i):∃(n:Nat) (a:n<x.size),i<=n/\v=x[n]:=by obtain⟨n,a,e⟩:=P5 h;rw[M5,Z0]at a;refine⟨i+n,B7 a,T1 _ _,?_⟩;rw[<-e,vQ,U4]
theorem SW(h:v∈(x.toList.drop i).take k):∃(n:Nat) (a:n<x.size),i<=n/\n<i+k/\v=x[n]:=by obtain⟨n,a,e⟩:=P5 h;rw[B5,M5,Z0]at a;refine⟨i+n,by omega,T1 _ _,by lia,?_⟩;rw[<-e,wQ,vQ,U4]
end
theorem JL(x y o:Kn Me)(i j:Nat):(dn x y o i j).toList=o.toList++x.toList.drop i++y.toList.drop j:=by unfold dn;rw[o4,o4,MU,MU]
theorem KL(x y o:Kn Me)(i j:Nat):(ls x y o i j).toList=o.toList++y.toList.drop j++x.toList.drop i:=by unfold ls;rw[o4,o4,MU,MU]
section
variable {w:Xe}{κ:Gg}{rk:Me->Nat}{S:Me->Prop}{x y:Kn Me}
abbrev zG(rk:Me->Nat):Me->Me->Prop:=λa b=>rk a<=rk b
structure Hy(rk:Me->Nat)(S:Me->Prop)(x y:Kn Me):Prop where
 hx:x.toList.Pairwise (zG rk)
 hy:y.toList.Pairwise (zG rk)
 Sx:∀i (h:i<x.size),S x[i]
 Sy:∀i (h:i<y.size),S y[i]
 x0:0<x.size
 y0:0<y.size
 hl:∀i (h:i<y.size),rk y[i]<=rk x[x.size-1]
 hf:∀i (h:i<x.size),rk y[0]<=rk x[i]
theorem yK(h:x.toList.Pairwise (zG rk)){i j:Nat}(b:j<x.size)(c:i<=j):rk (x[i]'(W0 c b))<=rk x[j]:=by
 rcases fQ i j with a|a
 .have:=Q4.mp h i j (by simpa using (by lia:i<x.size)) (by simpa using b) a;simpa using this
 .have:i=j:=N3 c a;subst this;exact V0 _
def Po(rk:Me->Nat)(x y r:Kn Me):Prop:=r.toList.Perm (x.toList++y.toList)/\r.toList.Pairwise (zG rk)
theorem Qq(H:Hy rk S x y){o:Kn Me}{i j:Nat}(m:Mg (zG rk) x.toList y.toList o.toList i j)(h:y.size<=j\/x.size<=i):Po rk x y (dn x y o i j):=by
 unfold Po;rw[JL];refine m.fin H.hx H.hy λv a u b=>?_;obtain⟨n,c,d,_⟩:=YJ a;obtain⟨k,e,l,_⟩:=YJ b
 lia
theorem Pk(H:Hy rk S x y){o:Kn Me}{i j:Nat}(m:Mg (zG rk) x.toList y.toList o.toList i j)(h:i+1=x.size):Po rk x y (ls x y o i j):=by
 unfold Po;rw[KL];refine m.finC H.hx H.hy λv a u b=>?_;obtain⟨n,c,d,rfl⟩:=YJ a;obtain⟨k,e,l,rfl⟩:=YJ b;have:k=x.size-1:=by lia
 subst this;exact H.hl n c
theorem cF(o:Kn α)(z:α):(o.push z).toList=o.toList++[z]:=o9
structure J(rk:Me->Nat)(x y:Kn Me)(N:Nat)(o:Kn Me)(i j:Nat):Prop where
 m:Mg (zG rk) x.toList y.toList o.toList i j
 hi:i+1<x.size
 hj:j<y.size
 hN:N<=i+j
theorem J.pushX(H:Hy rk S x y){N:Nat}{o:Kn Me}{i j:Nat}(m:Mg (zG rk) x.toList y.toList o.toList i j)(hi:i<x.size)(h:∀n (a:n<y.size),j<=n->rk x[i]<=rk y[n]):Mg (zG rk) x.toList y.toList (o.push x[i]).toList (i+1) j:=by
 rw[cF];have:=m.oneA H.hx (by simpa using hi) λv b=>by obtain⟨n,a,c,rfl⟩:=YJ b;simpa using h n a c
 simpa using this
theorem J.pushY(H:Hy rk S x y){N:Nat}{o:Kn Me}{i j:Nat}(m:Mg (zG rk) x.toList y.toList o.toList i j)(b:j<y.size)(h:∀n (a:n<x.size),i<=n->rk y[j]<=rk x[n]):Mg (zG rk) x.toList y.toList (o.push y[j]).toList i (j+1):=by
 rw[cF];have:=m.comm.oneA H.hy (by simpa using b) λv c=>by obtain⟨n,a,d,rfl⟩:=YJ c;simpa using h n a d
 have:=this.comm;simpa using this
def RT(rk:Me->Nat)(x y:Kn Me)(N:Nat)(c:HL):Prop:=(∃t,c.1=some t/\Po rk x y t)\/(c.1=none/\J rk x y N c.2.1 c.2.2.1 c.2.2.2.1)
def Gs(z a:Pe):Prop:=∃g,a=DV z g
theorem Gs.refl(z:Pe):Gs z z:=⟨Km z,rfl⟩
theorem Gs.set{z:Pe}(h:Gs z z')(g:Nat):Gs z (DV z' g):=by obtain⟨_,rfl⟩:=h;exact⟨g,rfl⟩
theorem Gs.kind{z:Pe}(h:Gs z z'):kindOf z'=kindOf z:=by obtain⟨_,rfl⟩:=h;rfl
def Q_(rk:Me->Nat)(x y:Kn Me)(N:Nat)(st:Pe)(r:ForInStep HL)(a:Pe):Prop :=
 Gs st a/\match r with
  | .done c=>RT rk x y N c
  | .yield c=>c.1=none/\J rk x y N c.2.1 c.2.2.1 c.2.2.2.1
theorem oN(H:Hy rk S x y){N:Nat}{o:Kn Me}{i j g ac c:Nat}{st d:Pe}(b:Gs st d)(m:Mg (zG rk) x.toList y.toList o.toList i j)(hi:i+1<x.size)(q:j<y.size)(hN:N<=i+j+1)(h:∀n (t:n<y.size),j<=n->rk (x[i]'(E4 hi))<=rk y[n]):wpS (Ke prog w) A E s (M_ x y o i j g ac c) (Q_ rk x y N st) d:=by
 unfold M_;have e:=J.pushX H (N:=N) m (y9 hi) h;refine He<|gJ (by lia) ?_;by_cases a:i+1+1=x.size
 .rw[De<|by simpa using a];exact Le ⟨b,.inl ⟨_,rfl,Pk H e a⟩⟩
 .rw[Ce<|by simpa using a];have k:J rk x y N (o.push<|x[i]'(E4 hi)) (i+1) j:=⟨e,T3 hi a,q,A0 hN<|P0<|Nat.add_right_comm _ _ _⟩;by_cases l:(decide (ac<7)&&decide (c<7))=true
  .rw[De l];exact Le ⟨b,.inr ⟨rfl,k⟩⟩
  .rw[Ce l];exact Le ⟨b,rfl,k⟩
theorem pN(q:EK prog w A s κ rk S)(H:Hy rk S x y){N:Nat}{o:Kn Me}{i j g ac L:Nat}{st F:Pe}(M:kindOf st=κ)(d:Gs st F)(m:Mg (zG rk) x.toList y.toList o.toList i j)(hi:i+1<x.size)(hj:j<y.size)(hN:N<=i+j+1)
  (h:∀n (c:n<x.size),i<=n->rk (y[j]'(by omega))<=rk x[n]):wpS (Ke prog w) A E s (N_ x y o i j g ac L) (Q_ rk x y N st) F:=by
 unfold N_;have t:=J.pushY H (N:=N) m hj h;refine He<|gJ hj ?_;by_cases e:j+1=y.size
 .rw[De<|by simpa using e];exact Le ⟨d,.inl ⟨_,rfl,Qq H t<|.inl<|P0 e.symm⟩⟩
 .rw[Ce<|by simpa using e];refine He<|gJ (by lia) ?_;refine He<|jY q (d.kind.trans M) (H.Sx _ _) H.Sy (P0<|M3 hj) (λa b O P _ _=>yK H.hy O P) (t9<|T3 hj e) λk kn R G=>?_;dsimp only;by_cases l:k > 0
  .rw[De l];have I:Mg (zG rk) x.toList y.toList (o.push (y[j]'hj)++y.extract (j+1) (j+1+k)).toList i (j+1+k):=by
    rw[o4,nN];refine(t.comm.takeA H.hy k λv U u Y=>?_).comm;obtain⟨n,c,B,Z,rfl⟩:=SW U;obtain⟨p,hp,p1,rfl⟩:=YJ Y;have:=R n c B Z;rw[De rfl]at this;have:=yK H.hx hp p1;show rk _<=rk _;exact A0 (N1 ‹_›) this
   by_cases C:j+1+k=y.size
   .rw[De<|by simpa using C];exact Le ⟨d,.inl ⟨_,rfl,Qq H I<|.inl<|P0 C.symm⟩⟩
   .rw[Ce<|by simpa using C];refine oN H d I hi (by omega) (by lia) λn c B=>?_;have:=G n c (by omega)<|Z6.1<|N6 c _;rw[De rfl]at this;exact this
  .rw[Ce l];refine oN H d t hi (T3 hj e) (K5 hN) λn c B=>?_;have:=G n c (by lia)<|Z6.1<|N6 c _;rw[De rfl]at this;exact this
theorem qN(q:EK prog w A s κ rk S)(H:Hy rk S x y){N:Nat}{o:Kn Me}{i j g ac M:Nat}{st I:Pe}(l:kindOf st=κ)(O:Gs st I)(m:Mg (zG rk) x.toList y.toList o.toList i j)(hi:i+1<x.size)(t:j<y.size)(hN:N<=i+j+1):wpS (Ke prog w) A E s (O_ x y o i j g ac M) (Q_ rk x y N st) I:=by
 unfold O_;refine He<|Jg ?_;have d:=O.set g;refine He<|gJ t ?_;refine He<|jY q (d.kind.trans l) (H.Sy _ _) H.Sx (by lia) (λa b P R _ _=>yK H.hx P R) (t9<|E4 hi) λk kn U L=>?_;dsimp only;by_cases e:k > 0
 .rw[De e];have B:Mg (zG rk) x.toList y.toList (o++x.extract i (i+k)).toList (i+k) j:=by
   rw[o4,nN];refine m.takeA H.hx k λv Y u Z=>?_;obtain⟨n,c,C,n2,rfl⟩:=SW Y;obtain⟨p,hp,p1,rfl⟩:=YJ Z;have:=U n c C n2;rw[Ce<|by decide]at this;have:=yK H.hy hp p1;show rk _<=rk _;exact A0 ‹_› this
  by_cases F:i+k+1=x.size
  .rw[De<|by simpa using F];exact Le ⟨d,.inl ⟨_,rfl,Pk H B F⟩⟩
  .rw[Ce<|by simpa using F];by_cases G:i+k=x.size
   .rw[De<|by simpa using G];exact Le ⟨d,.inl ⟨_,rfl,Qq H B<|.inr<|P0 G.symm⟩⟩
   .rw[Ce<|by simpa using G];refine pN q H l d B (by lia) t (by lia) λn c C=>?_;have:=L n c (by omega)<|Z6.1<|N6 c _;rw[Ce<|by decide]at this;exact N1 this
 .rw[Ce e];refine pN q H l d m hi t (by omega) λn c C=>?_;have:=L n c (by lia)<|Z6.1<|N6 c _;rw[Ce<|by decide]at this;exact N1 this
theorem HA(q:EK prog w A s κ rk S)(H:Hy rk S x y){N:Nat}{c:HL}{st b:Pe}(d:kindOf st=κ)(e:Gs st b)(a:J rk x y N c.2.1 c.2.2.1 c.2.2.2.1):wpS (Ke prog w) A E s (vb x y c) (Q_ rk x y (N+1) st) b:=by
 unfold vb;have:=a.hN;split
 .exact qN q H d e a.m a.hi a.hj (P9 this)
 .exact qN q H d e a.m a.hi a.hj (P9 this)
theorem IA(q:EK prog w A s κ rk S)(H:Hy rk S x y){N g:Nat}{c:K_}{st:Pe}(k:kindOf st=κ)(l:J rk x y N c.2.1 c.2.2.1 c.2.2.2.1) :
  wpS (Ke prog w) A E s (xb x y g c) (λr v=>v=st/\match r with
    | .done c=>(∃t,c.1=some t/\Po rk x y t)\/(c.1=none/\J rk x y (N+1) c.2.1 c.2.2.1 c.2.2.2.1)
    | .yield c=>c.1=none/\J rk x y (N+1) c.2.1 c.2.2.1 c.2.2.2.1) st:=by
 unfold xb;obtain⟨m,hi,hj,hN⟩:=l;refine He<|gJ hj ?_;refine He<|gJ (E4 hi) ?_;refine He<|w_lt q k (H.Sy _ _) (H.Sx _ _) ?_;dsimp only;by_cases e:rk (y[c.2.2.2.1]'hj)<rk (x[c.2.2.1]'(y9 hi))
 .rw[De<|by simpa using e];have b:=J.pushY H (N:=N) m hj λn i j=>by have:=yK H.hx i j;exact N1<|B0 e this
  refine He<|gJ hj ?_;by_cases a:c.2.2.2.1+1=y.size
  .rw[De<|by simpa using a];exact Le ⟨rfl,.inl ⟨_,rfl,Qq H b<|.inl<|P0 a.symm⟩⟩
  .rw[Ce<|by simpa using a];have d:J rk x y (N+1) (c.2.1.push<|y[c.2.2.2.1]'hj) c.2.2.1 (c.2.2.2.1+1):=⟨b,hi,T3 hj a,A0 (x8 hN _)<|P0<|W4 _ _ _⟩;split
   .exact Le ⟨rfl,.inr ⟨rfl,d⟩⟩
   .exact Le ⟨rfl,rfl,d⟩
 .rw[Ce<|by simpa using e];have b:=J.pushX H (N:=N) m (by lia) λn i j=>by have:=yK H.hy i j;exact A0 (A1 e) this
  refine He<|gJ (by lia) ?_;by_cases a:c.2.2.1+1+1=x.size
  .rw[De<|by simpa using a];exact Le ⟨rfl,.inl ⟨_,rfl,Pk H b a⟩⟩
  .rw[Ce<|by simpa using a];have d:J rk x y (N+1) (c.2.1.push<|x[c.2.2.1]'(E4 hi)) (c.2.2.1+1) c.2.2.2.1:=⟨b,T3 hi a,hj,A0 (x8 hN _)<|P0<|Nat.add_right_comm _ _ _⟩;split
   .exact Le ⟨rfl,.inr ⟨rfl,d⟩⟩
   .exact Le ⟨rfl,rfl,d⟩
theorem JA(q:EK prog w A s κ rk S)(H:Hy rk S x y){N:Nat}{c:L_}{st b:Pe}(j:kindOf st=κ)(i:Gs st b)(l:J rk x y N c.2.1 c.2.2.1 c.2.2.2.1) :
  wpS (Ke prog w) A E s (P_ x y c) (λr b=>Gs st b/\match r with
    | .done c=>∃t,c.1=some t/\Po rk x y t
    | .yield c=>c.1=none/\J rk x y (N+1) c.2.1 c.2.2.1 c.2.2.2.1) b:=by
 unfold P_;refine He<|Pf (Hf (I:=λn c a=>a=b/\c.1=none/\J rk x y (N+n) c.2.1 c.2.2.1 c.2.2.2.1)
   (Q:=λc a=>a=b/\((∃t,c.1=some t/\Po rk x y t)\/(c.1=none/\J rk x y N c.2.1 c.2.2.1 c.2.2.2.1))) ?step ?fin ⟨rfl,rfl,l⟩) ?post
 case fin =>
  rintro c a ⟨rfl,_,h⟩;have v:=h.hi;have B:=h.hj;have C:=h.hN
  lia
 case step =>
  rintro n c a _ _ ⟨rfl,_,h⟩;refine Pf (IA q H (i.kind.trans j) h) ?_;rintro r F ⟨rfl,h⟩;cases r with
  |done c=>refine⟨rfl,h.imp id λh=>⟨h.1,h.2.m,h.2.hi,h.2.hj,?_⟩⟩;have:=h.2.hN;exact N1<|W0 (T1 _ _) this
  |yield c=>exact⟨rfl,h.1,h.2⟩
 case post =>
  rintro c a ⟨rfl,h⟩;obtain⟨r,c⟩:=c;rcases h with⟨t,e,h⟩|⟨e,h⟩
  .cases e;exact Le ⟨i,_,rfl,h⟩
  .cases e;dsimp only;refine He<|Yi<|Yf ⟨rfl,?_⟩;refine He<|Pf (Hf (I:=λn c a=>Gs st a/\c.1=none/\J rk x y (N+n) c.2.1 c.2.2.1 c.2.2.2.1)
     (Q:=λc a=>Gs st a/\RT rk x y (N+1) c) ?step2 ?fin2 ⟨i,rfl,h⟩) ?post2
   case fin2 =>
    rintro c a ⟨_,_,h⟩;have v:=h.hi;have B:=h.hj;have C:=h.hN
    lia
   case step2 =>
    rintro n c a _ _ ⟨d,_,h⟩;refine Pf (HA q H j d h) ?_;rintro r F ⟨k,h⟩;cases r with
    |done c=>refine⟨k,Or.imp id (λh=>⟨h.1,h.2.m,h.2.hi,h.2.hj,?_⟩) h⟩;have:=h.2.hN;exact W0 (T1 _ _) this
    |yield c=>exact⟨k,h.1,h.2⟩
   case post2 =>
    rintro c a ⟨d,h⟩;obtain⟨r,c⟩:=c;rcases h with⟨t,e,h⟩|⟨e,h⟩
    .cases e;exact Le ⟨d,_,rfl,h⟩
    .cases e;exact He<|Jg<|Le ⟨d.set _,rfl,h⟩
theorem KA(q:EK prog w A s κ rk S)(H:Hy rk S x y){st:Pe}{Q:Kn Me->Pe->Prop}(B:kindOf st=κ)(h:∀r m,Gs st m->Po rk x y r->Q r m):wpS (Ke prog w) A E s (I_ x y) Q st:=by
 rw[lR];refine He<|Yi<|Yf ⟨rfl,?_⟩;refine He<|gJ H.y0 ?_;have C:Mg (zG rk) x.toList y.toList (#[]:Kn Me).toList 0 0:=⟨by simp,by simp,by simp,by simp⟩;have i:=J.pushY H (N:=0) C H.y0 λn F _=>H.hf n F;have G:(#[]:Kn Me).push (y[0]'H.y0)=#[y[0]'H.y0]:=rfl;rw[G]at i;have j:=H.y0;have k:=H.x0;by_cases b:1=y.size
 .rw[De<|by simpa using b];exact Le<|h _ _ (Gs.refl _)<|Qq H i<|.inl<|P0 b.symm
 .rw[Ce<|by simpa using b];by_cases d:0+1=x.size
  .rw[De<|by simpa using d];exact Le<|h _ _ (Gs.refl _)<|Pk H i d
  .rw[Ce<|by simpa using d];refine He<|Vh ?_;refine He<|Pf (Hf (I:=λn c a=>Gs st a/\c.1=none/\J rk x y n c.2.1 c.2.2.1 c.2.2.2.1)
     (Q:=λc a=>Gs st a/\∃t,c.1=some t/\Po rk x y t) ?step ?fin ⟨Gs.refl _,rfl,i,by show 0+1<x.size;exact T3 k d,by show 1<y.size;exact T3 j b,j4 _⟩) ?post
   case fin =>
    rintro c a ⟨_,_,h⟩;have b:=h.hi;have d:=h.hj;have L:=h.hN
    lia
   case step =>
    rintro n c a _ _ ⟨l,_,h⟩;refine Pf (JA q H B l h) ?_;rintro r M ⟨v,h⟩;cases r with
    |done c=>exact⟨v,h⟩
    |yield c=>exact⟨v,h⟩
   case post=>rintro c a ⟨l,t,e,hP⟩;obtain⟨r,c⟩:=c;cases e;exact Le<|h _ _ l hP
end
noncomputable abbrev LL:=Jn (Kn Me)×Nat×Nat×Kn Me×Nat×Nat×Nat
noncomputable abbrev R_:=Jn (Kn Me)×Nat×Nat×Kn Me×Nat×Nat
noncomputable abbrev S_:=Jn (Kn Me)×Nat×Nat×Kn Me×Nat
section
variable (x y:Kn Me)
noncomputable def NE(o:Kn Me)(i j:Nat):Kn Me:=x.extract 0 i++y.extract 0 j++o.reverse
noncomputable def AS(o:Kn Me)(i j:Nat):Kn Me:=y.extract 0 j++x.extract 0 i++o.reverse
noncomputable def hi2(i j:Nat)(o:Kn Me)(g ac a:Nat):StateT Pe Sem (ForInStep LL):=do
 let z<-Of x (i-1)
 if (i-1==0)=true then pure (.done (some<|NE x y (o.push z) (i-1) j,i-1,j,o.push z,g,ac,a))
 else if (decide (ac<7)&&decide (a<7))=true then pure (.done (none,i-1,j,o.push z,g,ac,a))
 else pure (.yield (none,i-1,j,o.push z,g,ac,a))
noncomputable def hi1(i j:Nat)(o:Kn Me)(g ac a:Nat):StateT Pe Sem (ForInStep LL):=do
 let z<-Of y (j-1)
 if (j-1==1)=true then pure (.done (some<|AS x y (o.push z) i<|j-1,i,j-1,o.push z,g,ac,a))
 else do
  let u<-Of x (i-1)
  let some p<-qy true u y 0 (j-1) (j-1-1)|pure (.done (some<|NE x y (o.push z) i<|j-1,i,j-1,o.push z,g,ac,a))
  if j-1-p > 0 then
   if (p==1)=true then pure (.done (some<|AS x y (o.push z++(y.extract p<|j-1).reverse) i p,i,p,o.push z++(y.extract p<|j-1).reverse,g,ac,j-1-p))
   else if (p==0)=true then pure (.done (some<|NE x y (o.push z++(y.extract p<|j-1).reverse) i p,i,p,o.push z++(y.extract p<|j-1).reverse,g,ac,j-1-p))
   else hi2 x y i p (o.push z++(y.extract p<|j-1).reverse) g ac (j-1-p)
  else hi2 x y i (j-1) (o.push z) g ac (j-1-p)
noncomputable def T_(i j:Nat)(o:Kn Me)(g ac a:Nat):StateT Pe Sem (ForInStep LL):=do
 modify λv=>DV v g
 let z<-Of y (j-1)
 let some p<-qy false z x 0 i (i-1)|pure (.done (some<|NE x y o i j,i,j,o,g,ac,a))
 if i-p > 0 then
   if (p==0)=true then pure (.done (some<|NE x y (o++(x.extract p i).reverse) p j,p,j,o++(x.extract p i).reverse,g,i-p,a))
   else hi1 x y p j (o++(x.extract p i).reverse) g (i-p) a
 else hi1 x y i j o g (i-p) a
noncomputable def yb(t:LL):StateT Pe Sem (ForInStep LL) :=
 if t.2.2.2.2.1 > 1 then T_ x y t.2.1 t.2.2.1 t.2.2.2.1 (t.2.2.2.2.1-1) t.2.2.2.2.2.1 t.2.2.2.2.2.2
 else T_ x y t.2.1 t.2.2.1 t.2.2.2.1 t.2.2.2.2.1 t.2.2.2.2.2.1 t.2.2.2.2.2.2
noncomputable def zb(g:Nat)(t:R_):StateT Pe Sem (ForInStep R_):=do
 let z<-Of y (t.2.2.1-1)
 let u<-Of x (t.2.1-1)
 let some xw<-lt' z u|pure (.done (some<|NE x y t.2.2.2.1 t.2.1 t.2.2.1,t.2.1,t.2.2.1,t.2.2.2.1,t.2.2.2.2.1,t.2.2.2.2.2))
 if xw=true then do
   let z<-Of x (t.2.1-1)
   if (t.2.1-1==0)=true then pure (.done (some<|NE x y (t.2.2.2.1.push z) (t.2.1-1) t.2.2.1,t.2.1-1,t.2.2.1,t.2.2.2.1.push z,t.2.2.2.2.1+1,0))
   else if t.2.2.2.2.1+1 ≥ g then pure (.done (none,t.2.1-1,t.2.2.1,t.2.2.2.1.push z,t.2.2.2.2.1+1,0))
   else pure (.yield (none,t.2.1-1,t.2.2.1,t.2.2.2.1.push z,t.2.2.2.2.1+1,0))
 else do
   let z<-Of y (t.2.2.1-1)
   if (t.2.2.1-1==1)=true then pure (.done (some<|AS x y (t.2.2.2.1.push z) t.2.1<|t.2.2.1-1,t.2.1,t.2.2.1-1,t.2.2.2.1.push z,0,t.2.2.2.2.2+1))
   else if t.2.2.2.2.2+1 ≥ g then pure (.done (none,t.2.1,t.2.2.1-1,t.2.2.2.1.push z,0,t.2.2.2.2.2+1))
   else pure (.yield (none,t.2.1,t.2.2.1-1,t.2.2.2.1.push z,0,t.2.2.2.2.2+1))
noncomputable def U_(t:S_):StateT Pe Sem (ForInStep S_):=do
 let v<-forIn [:x.size+y.size] ((none,t.2.1,t.2.2.1,t.2.2.2.1,0,0):R_) λ_ v=>zb x y t.2.2.2.2 v
 match v.1 with
 |some r=>pure<|.done (some r,v.2.1,v.2.2.1,v.2.2.2.1,t.2.2.2.2)
 |none=>do
  liftM (rule "list.sort.gallop")
  let u<-forIn [:x.size+y.size] ((none,v.2.1,v.2.2.1,v.2.2.2.1,t.2.2.2.2+1,v.2.2.2.2.1,v.2.2.2.2.2):LL) λ_ u=>yb x y u
  match u.1 with
  |some r=>pure<|.done (some r,u.2.1,u.2.2.1,u.2.2.2.1,u.2.2.2.2.1)
  |none=>do
   modify λz=>DV z (u.2.2.2.2.1+1)
   pure (.yield (none,u.2.1,u.2.2.1,u.2.2.2.1,u.2.2.2.2.1+1))
end
theorem ML(x y:Kn Me):J_ x y=(do
    rule "list.sort.merge-hi"
    let tt:=x.size+y.size
    let dn (o:Kn Me) (i j:Nat):=x.extract 0 i++y.extract 0 j++o.reverse
    let fs (o:Kn Me) (i j:Nat):=y.extract 0 j++x.extract 0 i++o.reverse
    let mut i:=x.size-1
    let mut j:=y.size
    let mut o:Kn Me:=#[<-Of x i]
    if i==0 then return dn o i j
    if j==1 then return fs o i j
    let mut g:=Km (<-get)
    for _ in [0:tt] do
      let mut ac:=0
      let mut bc:=0
      for _ in [0:tt] do
        let some xw<-lt' (<-Of y (j-1)) (<-Of x (i-1))|return dn o i j
        if xw then
          i:=i-1;o:=o.push (<-Of x i);ac:=ac+1;bc:=0
          if i==0 then return dn o i j
          if ac ≥ g then break
        else
          j:=j-1;o:=o.push (<-Of y j);bc:=bc+1;ac:=0
          if j==1 then return fs o i j
          if bc ≥ g then break
      rule "list.sort.gallop"
      g:=g+1
      for _ in [0:tt] do
        if g > 1 then g:=g-1
        modify (DV · g)
        let some p<-qy false (<-Of y (j-1)) x 0 i (i-1)|return dn o i j
        let k:=i-p
        ac:=k
        if k > 0 then
          o:=o++(x.extract p i).reverse;i:=p
          if i==0 then return dn o i j
        j:=j-1;o:=o.push (<-Of y j)
        if j==1 then return fs o i j
        let some p<-qy true (<-Of x (i-1)) y 0 j (j-1)|return dn o i j
        let k:=j-p
        bc:=k
        if k > 0 then
          o:=o++(y.extract p j).reverse;j:=p
          if j==1 then return fs o i j
          if j==0 then return dn o i j
        i:=i-1;o:=o.push (<-Of x i)
        if i==0 then return dn o i j
        if ac<7&&bc<7 then break
      g:=g+1
      modify (DV · g)
    Ii "internal:list.sort.merge-bound"):=rfl
theorem mR(x y:Kn Me):J_ x y=(do
    liftM (rule "list.sort.merge-hi")
    let z<-Of x (x.size-1)
    if (x.size-1==0)=true then pure (NE x y #[z] (x.size-1) y.size)
    else if (y.size==1)=true then pure (AS x y #[z] (x.size-1) y.size)
    else do
      let s<-get
      let v<-forIn [:x.size+y.size] ((none,x.size-1,y.size,#[z],Km s):S_) λ_ v=>U_ x y v
      match v.1 with
      |some r=>pure r
      |none=>Ii "internal:list.sort.merge-bound"):=by
 rw[ML];dsimp only;refine Te (bind _)<|funext λ_=>?_;refine Te (bind _)<|funext λz=>?_;refine congr (Te _ rfl) ?_;refine congr (Te _ rfl) ?_;refine Te (bind _)<|funext λs=>?_;refine congr (Te bind ?A) (funext λv=>by obtain⟨r,v⟩:=v;cases r<;>rfl);refine Te _<|funext λ_=>funext λv=>?_;unfold U_;refine congr (Te bind rfl)<|funext λv=>?_;obtain⟨r,v⟩:=v;cases r with
 |some r=>rfl
 |none=>refine Te (bind _)<|funext λ_=>?_;refine congr (Te bind ?A2) (funext λv=>by obtain⟨r,v⟩:=v;cases r<;>rfl);rfl
section
variable {x:Kn α}{i j k:Nat}
theorem kY(hi:i<=x.size):x.toList.reverse.drop (x.size-i)=(x.toList.take i).reverse:=by rw[List.drop_reverse,Z0,K9 hi]
theorem dW(hi:i<=x.size)(h:v∈x.toList.reverse.drop (x.size-i)):∃(n:Nat) (a:n<x.size),n<i/\v=x[n]:=by rw[kY hi,KQ]at h;obtain⟨n,a,e⟩:=P5 h;rw[B5,Z0]at a;refine⟨n,B0 a<|h7 _ _,B0 a<|T4 _ _,?_⟩;rw[<-e,wQ,U4]
theorem jD(a:k<=i)(hi:i<=x.size):(x.extract k i).reverse.toList=(x.toList.reverse.drop<|x.size-i).take (i-k):=by rw[y8,Y5,O4,kY hi,List.take_reverse,B5,Z0,o5 hi,K9 a,List.drop_take]
theorem Qk:(x.extract 0 i).toList=x.toList.take i:=by rw[Y5,O4,List.drop_zero,gQ]
end
section
variable {w:Xe}{κ:Gg}{rk:Me->Nat}{S:Me->Prop}{x y:Kn Me}
abbrev Fc(rk:Me->Nat):Me->Me->Prop:=λa b=>rk b<=rk a
structure MH(rk:Me->Nat)(x y:Kn Me)(o:Kn Me)(i j:Nat):Prop where
 m:Mg (Fc rk) x.toList.reverse y.toList.reverse o.toList (x.size-i) (y.size-j)
 hi:i<=x.size
 hj:j<=y.size
theorem MH.comm{o:Kn Me}(h:MH rk x y o i j):MH rk y x o j i:=⟨h.m.comm,h.hj,h.hi⟩
theorem MH.chunk(hx:x.toList.Pairwise (zG rk)){o:Kn Me}{i j p:Nat}(h:MH rk x y o i j)(a:p<=i)(b:∀n (c:n<x.size) k (b:k<y.size),p<=n->n<i->k<j->rk y[k]<=rk x[n]):MH rk x y (o++(x.extract p i).reverse) p j:=by
 have hi:=h.hi;refine⟨?_,A0 a hi,h.hj⟩;rw[o4,jD a hi];have e:x.size-p=x.size-i+(i-p):=eZ<|Nat.sub_add_sub_cancel hi a;rw[e];refine h.m.takeA (J6.mpr hx) (i-p) λv d u l=>?_;obtain⟨k,q,t,rfl⟩:=dW h.hj l;rw[<-jD a hi,y8,KQ,Y5,O4]at d;obtain⟨n,c,B,C,rfl⟩:=SW d;exact b n c k q B (B0 C<|P0<|M3 a) t
theorem MH.push(hx:x.toList.Pairwise (zG rk)){o:Kn Me}{i j:Nat}(h:MH rk x y o i j)(h0:0<i)(a:∀k (a:k<y.size),k<j->rk y[k]<=rk (x[i-1]'(by have:=h.hi;exact K3 h0<|Z3 this))) :
  MH rk x y (o.push<|x[i-1]'(by have:=h.hi;exact B0 (K6 h0<|by decide) this)) (i-1) j:=by
 have hi:=h.hi;have e:o.push (x[i-1]'(K3 h0<|Z3 hi))=o++(x.extract (i-1) i).reverse:=by apply Array.toList_inj.mp;rw[o9,o4,jD (R7 _ _) hi,show i-(i-1)=1 by lia,M4<|by simp;exact K6 (B0 h0 hi) h0];simp only[LX,List.take_zero,List.getElem_reverse,U4,Z0];congr 3;exact vd hi
 rw[e];refine h.chunk hx (R7 _ _) λn m k b c d l=>?_;have:n=i-1:=N3 (W1 d) c;subst this;exact a k b l
theorem Rk{o r:List Me}(h:(o++a++b).Perm (x.toList.reverse++y.toList.reverse)/\(o++a++b).Pairwise (Fc rk))(e:r=(o++a++b).reverse):r.Perm (x.toList++y.toList)/\r.Pairwise (zG rk):=by subst e;exact⟨((xQ _).trans h.1).trans<|(xQ _).append<|xQ _,J6.mpr h.2⟩
theorem LH(H:Hy rk S x y){o:Kn Me}{i j:Nat}(m:MH rk x y o i j)(h:i=0\/j=0):Po rk x y (NE x y o i j):=by
 refine Rk (m.m.finC (J6.mpr H.hx) (J6.mpr H.hy) λv a u b=>?_) ?_
 .obtain⟨n,c,d,_⟩:=dW m.hj a;obtain⟨k,e,l,_⟩:=dW m.hi b
  lia
 .unfold NE;rw[o4,o4,Qk,Qk,kY m.hi,kY m.hj,y8];simp
theorem kD(H:Hy rk S x y){o:Kn Me}{i j:Nat}(m:MH rk x y o i j)(h:j=1):Po rk x y (AS x y o i j):=by
 refine Rk (m.m.fin (J6.mpr H.hx) (J6.mpr H.hy) λv a u b=>?_) ?_
 .obtain⟨n,c,e,rfl⟩:=dW m.hi a;obtain⟨k,l,d,rfl⟩:=dW m.hj b;have:k=0:=SQ (J5<|Nat.succ_pos _)<|B0 d<|P0 h;subst this;exact H.hf n c
 .unfold AS;rw[o4,o4,Qk,Qk,kY m.hi,kY m.hj,y8];simp
structure JH(rk:Me->Nat)(x y:Kn Me)(N:Nat)(i j:Nat)(o:Kn Me):Prop where
 m:MH rk x y o i j
 hi:1<=i
 hj:2<=j
 hN:N+i+j<=x.size+y.size
def RH(rk:Me->Nat)(x y:Kn Me)(N:Nat)(c:LL):Prop:=(∃t,c.1=some t/\Po rk x y t)\/(c.1=none/\JH rk x y N c.2.1 c.2.2.1 c.2.2.2.1)
def V_(rk:Me->Nat)(x y:Kn Me)(N:Nat)(st:Pe)(r:ForInStep LL)(a:Pe):Prop :=
 Gs st a/\match r with
  | .done c=>RH rk x y N c
  | .yield c=>c.1=none/\JH rk x y N c.2.1 c.2.2.1 c.2.2.2.1
theorem rN(H:Hy rk S x y){N:Nat}{o:Kn Me}{i j g ac c:Nat}{st d:Pe}(b:Gs st d)(m:MH rk x y o i j)(hi:1<=i)(t:2<=j)(hN:N+i+j<=x.size+y.size+1)
  (h:∀n (v:n<y.size),n<j->rk y[n]<=rk (x[i-1]'(by have:=m.hi;exact K3 hi<|Z3 this))):wpS (Ke prog w) A E s (hi2 x y i j o g ac c) (V_ rk x y N st) d:=by
 unfold hi2;have e:=m.hi;have k:=m.push H.hx hi h;refine He<|gJ (K3 hi<|Z3 e) ?_;by_cases a:i-1=0
 .rw[De<|by simpa using a];exact Le ⟨b,.inl ⟨_,rfl,LH H k<|.inl a⟩⟩
 .rw[Ce<|by simpa using a];have l:JH rk x y N (i-1) j (o.push<|x[i-1]'(B0 (K6 hi<|by decide) e)):=⟨k,i8.2 a,t,by lia⟩;by_cases q:(decide (ac<7)&&decide (c<7))=true
  .rw[De q];exact Le ⟨b,.inr ⟨rfl,l⟩⟩
  .rw[Ce q];exact Le ⟨b,rfl,l⟩
theorem sN(q:EK prog w A s κ rk S)(H:Hy rk S x y){N:Nat}{o:Kn Me}{i j g ac M:Nat}{st I:Pe}(O:kindOf st=κ)(e:Gs st I)(m:MH rk x y o i j)(hi:1<=i)(l:2<=j)(hN:N+i+j<=x.size+y.size+1)
  (h:∀n (c:n<x.size),n<i->rk x[n]<=rk (y[j-1]'(by have:=m.hj;exact K3 (N1 l)<|Z3 this))):wpS (Ke prog w) A E s (hi1 x y i j o g ac M) (V_ rk x y N st) I:=by
 unfold hi1;have jf:=m.hi;have P:=m.hj;have B:=(m.comm.push H.hy (E4 l) h).comm;refine He<|gJ (K3 (N1 l)<|Z3 P) ?_;by_cases t:j-1=1
 .rw[De<|by simpa using t];exact Le ⟨e,.inl ⟨_,rfl,kD H B t⟩⟩
 .rw[Ce<|by simpa using t];refine He<|gJ (by lia) ?_;refine He<|jY q (e.kind.trans O) (H.Sx _ _) H.Sy (by lia) (λa b R U _ _=>yK H.hy R U) (K6 (Nat.lt_sub_of_add_lt l)<|S3 _) λp Y Z k2=>?_;dsimp only;have L:∀n (c:n<y.size),n<p->rk y[n]<rk (x[i-1]'(by lia)):=λn c hp=>by
   have:=Z n c (j4 _)<|J7 _ hp;rw[De rfl]at this;exact this
  by_cases d:j-1-p > 0
  .rw[De d];have C:=(B.comm.chunk H.hy (p:=p) Y λn c k yf v n2 n3=>by
     have:=k2 n c (GX v<|j4 _)<|J7 _ n2;rw[De rfl]at this;have:=yK H.hx (i:=k) (j:=i-1) (by lia)<|W1 n3;exact A0 this ‹_›).comm;by_cases F:p=1
   .rw[De<|by simpa using F];exact Le ⟨e,.inl ⟨_,rfl,kD H C F⟩⟩
   .rw[Ce<|by simpa using F];by_cases G:p=0
    .rw[De<|by simpa using G];exact Le ⟨e,.inl ⟨_,rfl,LH H C<|.inr G⟩⟩
    .rw[Ce<|by simpa using G];exact rN H e C hi (by lia) (Gd hN d) λn c v=>N1<|L n c v
  .rw[Ce d];exact rN H e B hi (kc l t) (A0 (T0 (R7 _ _) _) hN) λn c v=>N1 (L n c<|by omega)
theorem tN(q:EK prog w A s κ rk S)(H:Hy rk S x y){N:Nat}{o:Kn Me}{i j g ac G:Nat}{st B:Pe}(t:kindOf st=κ)(I:Gs st B)(m:MH rk x y o i j)(hi:1<=i)(v:2<=j)(hN:N+i+j<=x.size+y.size+1):wpS (Ke prog w) A E s (T_ x y i j o g ac G) (V_ rk x y N st) B:=by
 unfold T_;have L:=m.hi;have M:=m.hj;refine He<|Jg ?_;have e:=I.set g;refine He<|gJ (K3 (N1 v)<|Z3 M) ?_;refine He<|jY q (e.kind.trans t) (H.Sy _ _) H.Sx (GX L<|j4 _) (λa b O P _ _=>yK H.hx O P) (K6 hi<|S3 _) λp R U Y=>?_;dsimp only;have C:∀n (c:n<x.size),n<p->rk x[n]<=rk (y[j-1]'(by lia)):=λn c Z=>by have:=U n c (j4 _)<|J7 _ Z;rw[Ce<|by decide]at this;exact this
 by_cases d:i-p > 0
 .rw[De d];have F:=m.chunk H.hx (p:=p) R λn c k yf n1 n2 n3=>by
   have:=Y n c (by lia) (by lia);rw[Ce<|by decide]at this;have:=yK H.hy (i:=k) (j:=j-1) (by lia)<|W1 n3;exact A0 this<|N1 ‹_›
  by_cases l:p=0
  .rw[De<|by simpa using l];exact Le ⟨e,.inl ⟨_,rfl,LH H F<|.inl l⟩⟩
  .rw[Ce<|by simpa using l];exact sN q H t e F (i8.2 l) v (by lia) C
 .rw[Ce d];exact sN q H t e m hi v (by omega) λn c n1=>C n c (by lia)
theorem LA(q:EK prog w A s κ rk S)(H:Hy rk S x y){N:Nat}{c:LL}{st b:Pe}(d:kindOf st=κ)(e:Gs st b)(a:JH rk x y N c.2.1 c.2.2.1 c.2.2.2.1):wpS (Ke prog w) A E s (yb x y c) (V_ rk x y (N+1) st) b:=by
 unfold yb;have:=a.hN;split
 .exact tN q H d e a.m a.hi a.hj (by lia)
 .exact tN q H d e a.m a.hi a.hj (by lia)
theorem MA(q:EK prog w A s κ rk S)(H:Hy rk S x y){N g:Nat}{c:R_}{st:Pe}(C:kindOf st=κ)(F:JH rk x y N c.2.1 c.2.2.1 c.2.2.2.1) :
  wpS (Ke prog w) A E s (zb x y g c) (λr G=>G=st/\match r with
    | .done c=>(∃t,c.1=some t/\Po rk x y t)\/(c.1=none/\JH rk x y (N+1) c.2.1 c.2.2.1 c.2.2.2.1)
    | .yield c=>c.1=none/\JH rk x y (N+1) c.2.1 c.2.2.1 c.2.2.2.1) st:=by
 unfold zb;obtain⟨m,hi,b,hN⟩:=F;have v:=m.hi;have B:=m.hj;refine He<|gJ (K3 (N1 b)<|Z3 B) ?_;refine He<|gJ (K3 hi<|Z3 v) ?_;refine He<|w_lt q C (H.Sy _ _) (H.Sx _ _) ?_;dsimp only;by_cases k:rk (y[c.2.2.1-1]'(K3 (N1 b)<|Z3 B))<rk (x[c.2.1-1]'(B0 (K6 hi<|by decide) v))
 .rw[De<|by simpa using k];have d:=m.push H.hx hi λn I l=>by have:=yK H.hy (i:=n) (j:=c.2.2.1-1) (by lia)<|W1 l;exact N1<|W0 this k
  refine He<|gJ (by lia) ?_;by_cases a:c.2.1-1=0
  .rw[De<|by simpa using a];exact Le ⟨rfl,.inl ⟨_,rfl,LH H d<|.inl a⟩⟩
  .rw[Ce<|by simpa using a];have e:JH rk x y (N+1) (c.2.1-1) c.2.2.1 (c.2.2.2.1.push<|x[c.2.1-1]'(by lia)):=⟨d,i8.2 a,b,by lia⟩;split
   .exact Le ⟨rfl,.inr ⟨rfl,e⟩⟩
   .exact Le ⟨rfl,rfl,e⟩
 .rw[Ce<|by simpa using k];have d:=(m.comm.push H.hy (E4 b) λn I l=>by have:=yK H.hx (i:=n) (j:=c.2.1-1) (by lia)<|W1 l;exact A0 this<|A1 k).comm;refine He<|gJ (by lia) ?_;by_cases a:c.2.2.1-1=1
  .rw[De<|by simpa using a];exact Le ⟨rfl,.inl ⟨_,rfl,kD H d a⟩⟩
  .rw[Ce<|by simpa using a];have e:JH rk x y (N+1) c.2.1 (c.2.2.1-1) (c.2.2.2.1.push<|y[c.2.2.1-1]'(by lia)):=⟨d,by omega,kc b a,by lia⟩;split
   .exact Le ⟨rfl,.inr ⟨rfl,e⟩⟩
   .exact Le ⟨rfl,rfl,e⟩
theorem JH.false{N:Nat}{o:Kn Me}(h:JH rk x y N i j o)(hN:x.size+y.size<=N):Ln:=by
 have a:=h.hi;have b:=h.hj;have c:=h.hN
 lia
theorem NA(q:EK prog w A s κ rk S)(H:Hy rk S x y){N:Nat}{c:S_}{st b:Pe}(j:kindOf st=κ)(i:Gs st b)(l:JH rk x y N c.2.1 c.2.2.1 c.2.2.2.1) :
  wpS (Ke prog w) A E s (U_ x y c) (λr b=>Gs st b/\match r with
    | .done c=>∃t,c.1=some t/\Po rk x y t
    | .yield c=>c.1=none/\JH rk x y (N+1) c.2.1 c.2.2.1 c.2.2.2.1) b:=by
 unfold U_;refine He<|Pf (Hf (I:=λn c a=>a=b/\c.1=none/\JH rk x y (N+n) c.2.1 c.2.2.1 c.2.2.2.1)
   (Q:=λc a=>a=b/\((∃t,c.1=some t/\Po rk x y t)\/(c.1=none/\JH rk x y N c.2.1 c.2.2.1 c.2.2.2.1))) ?step ?fin ⟨rfl,rfl,l⟩) ?post
 case fin=>rintro c a ⟨rfl,_,h⟩;exact(h.false<|A0 (Q9 _ _)<|K1 _ _).elim
 case step =>
  rintro n c a _ _ ⟨rfl,_,h⟩;refine Pf (MA q H (i.kind.trans j) h) ?_;rintro r v ⟨rfl,h⟩;cases r with
  |done c =>
   refine⟨rfl,h.imp id λh=>⟨h.1,h.2.m,h.2.hi,h.2.hj,?_⟩⟩;have:=h.2.hN
   lia
  |yield c=>exact⟨rfl,h.1,h.2⟩
 case post =>
  rintro c a ⟨rfl,h⟩;obtain⟨r,c⟩:=c;rcases h with⟨t,e,h⟩|⟨e,h⟩
  .cases e;exact Le ⟨i,_,rfl,h⟩
  .cases e;dsimp only;refine He<|Yi<|Yf ⟨rfl,?_⟩;refine He<|Pf (Hf (I:=λn c a=>Gs st a/\c.1=none/\JH rk x y (N+n) c.2.1 c.2.2.1 c.2.2.2.1)
     (Q:=λc a=>Gs st a/\RH rk x y (N+1) c) ?step2 ?fin2 ⟨i,rfl,h⟩) ?post2
   case fin2=>rintro c a ⟨_,_,h⟩;exact(h.false<|A0 (Q9 _ _)<|K1 _ _).elim
   case step2 =>
    rintro n c a _ _ ⟨d,_,h⟩;refine Pf (LA q H j d h) ?_;rintro r v ⟨k,h⟩;cases r with
    |done c =>
     refine⟨k,Or.imp id (λh=>⟨h.1,h.2.m,h.2.hi,h.2.hj,?_⟩) h⟩;have:=h.2.hN
     lia
    |yield c=>exact⟨k,h.1,h.2⟩
   case post2 =>
    rintro c a ⟨d,h⟩;obtain⟨r,c⟩:=c;rcases h with⟨t,e,h⟩|⟨e,h⟩
    .cases e;exact Le ⟨d,_,rfl,h⟩
    .cases e;exact He<|Jg<|Le ⟨d.set _,rfl,h⟩
theorem OA(q:EK prog w A s κ rk S)(H:Hy rk S x y){st:Pe}{Q:Kn Me->Pe->Prop}(v:kindOf st=κ)(h:∀r l,Gs st l->Po rk x y r->Q r l):wpS (Ke prog w) A E s (J_ x y) Q st:=by
 rw[mR];have B:=H.y0;have a:=H.x0;refine He<|Yi<|Yf ⟨rfl,?_⟩;refine He<|gJ (K6 a<|S3 _) ?_;have C:MH rk x y #[] x.size y.size:=⟨⟨by simp,by simp,by simp,by simp⟩,V0 _,V0 _⟩;have d:=C.push H.hx a λn F _=>H.hl n F;have G:(#[]:Kn Me).push (x[x.size-1]'(w8 _ _ a))=#[x[x.size-1]'(by lia)]:=rfl;rw[G]at d;by_cases i:x.size-1=0
 .rw[De<|by simpa using i];exact Le<|h _ _ (Gs.refl _)<|LH H d<|.inl i
 .rw[Ce<|by simpa using i];by_cases j:y.size=1
  .rw[De<|by simpa using j];exact Le<|h _ _ (Gs.refl _)<|kD H d j
  .rw[Ce<|by simpa using j];refine He<|Vh ?_;refine He<|Pf (Hf (I:=λn c b=>Gs st b/\c.1=none/\JH rk x y n c.2.1 c.2.2.1 c.2.2.2.1)
     (Q:=λc b=>Gs st b/\∃t,c.1=some t/\Po rk x y t) ?step ?fin ⟨Gs.refl _,rfl,d,by show 1<=x.size-1;exact i8.2 i,by show 2<=y.size;lia,by show 0+(x.size-1)+y.size<=_;lia⟩) ?post
   case fin=>rintro c b ⟨_,_,h⟩;exact(h.false<|Q9 _ _).elim
   case step =>
    rintro n c b _ _ ⟨k,_,h⟩;refine Pf (NA q H v k h) ?_;rintro r L ⟨m,h⟩;cases r with
    |done c=>exact⟨m,h⟩
    |yield c=>exact⟨m,h⟩
   case post=>rintro c b ⟨k,t,e,hP⟩;obtain⟨r,c⟩:=c;cases e;exact Le<|h _ _ k hP
end
noncomputable def KR(a:Me->Nat)(b:Kn Me)(i:Nat):Nat:=match b[i]? with
 |some p=>a p
 |none=>0
theorem KR_at(h:i<xs.size):KR rk xs i=rk xs[i]:=by unfold KR;rw[getElem?_pos xs i h]
theorem NJ{ys:Kn Me}(h:xs[i]?=ys[j]?):KR rk xs i=KR rk ys j:=by unfold KR;rw[h]
theorem hU(b:j<=xs.size)(k:Nat):KR rk (Ni xs i j<|(j-i) / 2) k=if i<=k/\k<j then KR rk xs (i+j-1-k) else KR rk xs k:=by
 have e:=Xl (i:=i) b k;split
 .rename_i a;rw[De a]at e;exact NJ e
 .rename_i a;rw[Ce a]at e;exact NJ e
theorem dF(i:c<xs.size)(hd:d<=c)(k:Nat):KR rk (bubble xs c d) k=if k=c-d then KR rk xs c else if c-d<k/\k<=c then KR rk xs (k-1) else KR rk xs k:=by
 have e:=getElem?_bubble i d hd k;split
 .rename_i a;rw[De a]at e;exact NJ e
 .rename_i a;rw[Ce a]at e;split
  .rename_i b;rw[De b]at e;exact NJ e
  .rename_i b;rw[Ce b]at e;exact NJ e
def Sg(a:Me->Nat)(b:Kn Me)(lo n:Nat):Prop:=∀i j,lo<=i->i<=j->j<lo+n->KR a b i<=KR a b j
def Dg(a:Me->Nat)(b:Kn Me)(lo n:Nat):Prop:=∀i j,lo<=i->i<=j->j<lo+n->KR a b j<=KR a b i
structure Bs(κ:Gg)(st:Pe)(lo n:Nat)(ie:Pe):Prop where
 perm:(arrOf ie).Perm (arrOf st)
 kind:kindOf ie=κ
 failed:Xg ie=none
 pend:Se ie=Se st
 keep:∀i,i<lo\/lo+n<=i->(arrOf ie)[i]?=(arrOf st)[i]?
theorem Bs.size{st:Pe}{lo:Nat}(h:Bs κ st lo n ie):(arrOf ie).size=(arrOf st).size:=h.perm.size_eq
theorem Bs.mir{st:Pe}{lo:Nat}(h:Bs κ st lo n ie)(a:j<=(arrOf st).size)(c:lo<=i)(d:j<=lo+n):Bs κ st lo n (Dn ie<|Ni (arrOf ie) i j<|(j-i) / 2) :=
 ⟨(mirror_perm _ _ _ _).trans h.perm,h.kind,h.failed,h.pend,λk b=>by show (Ni (arrOf ie) i j<|(j-i) / 2)[k]?=_;rw[Xl (by rw[h.size];exact a),Ce<|by lia];exact h.keep k b⟩
section
variable {w:Xe}{κ:Gg}{rk:Me->Nat}{S:Me->Prop}{st:Pe}
abbrev AllS(S:Me->Prop)(a:Kn Me):Prop:=∀p,p∈a.toList->S p
theorem Bs.inS{lo:Nat}(a:AllS S (arrOf st))(h:Bs κ st lo n ie){i:Nat}(hi:i<(arrOf ie).size):S (arrOf ie)[i]:=a _ ((y7.mp h.perm).mem_iff.mp<|by simp)
theorem NH(q:EK prog w A s κ rk S){a:Pe}{lo n i j:Nat}{Q:Jn Bool->Pe->Prop}(b:AllS S (arrOf st))(hB:Bs κ st lo n a)(hi:i<(arrOf st).size)(e:j<(arrOf st).size)(h:Q (some<|decide<|KR rk (arrOf a) i<KR rk (arrOf a) j) a):wpS (Ke prog w) A E s (ltAt' i j) Q a:=by
 have c:i<(arrOf a).size:=by rw[hB.size];exact hi
 have d:j<(arrOf a).size:=by rw[hB.size];exact e
 rw[ltAt'_eq];refine He<|Vh ?_;refine He<|gJ c<|He<|gJ d ?_;refine w_lt q hB.kind (hB.inS b _) (hB.inS b _) ?_;rw[KR_at c,KR_at d]at h;exact h
noncomputable def sy(lo a b:Nat):StateT Pe Sem AscSt :=
 forIn [a:b] ((none,a):AscSt) λ_ z=>do
  let some sm<-ltAt' (lo+z.2) (lo+z.2-1)|pure (.done (some none,z.2))
  if sm=true then pure (.done (none,z.2)) else pure (.yield (none,z.2+1))
noncomputable def BS(lo n a:Nat):StateT Pe Sem (Jn Nat):=do
 Bh lo (lo+n)
 let z<-sy lo n a
 match z.1 with
 |some r=>pure r
 |none=>pure<|some z.2
noncomputable def Sk(lo n a:Nat):StateT Pe Sem DescSt :=
 forIn [n:a] ((none,n,0):DescSt) λ_ z=>do
  let some sm<-ltAt' (lo+z.2.1) (lo+z.2.1-1)|pure (.done (some none,z.2.1,z.2.2))
  if sm=true then
   if z.2.2 > 0 then do
    Bh (lo+z.2.1-(z.2.2+1)) (lo+z.2.1)
    pure (.yield (none,z.2.1+1,0))
   else pure (.yield (none,z.2.1+1,0))
  else do
   let some la<-ltAt' (lo+z.2.1-1) (lo+z.2.1)|pure (.done (some none,z.2.1,z.2.2))
   if la=true then pure (.done (none,z.2.1,z.2.2)) else pure (.yield (none,z.2.1+1,z.2.2+1))
noncomputable def QA(lo n a:Nat):StateT Pe Sem (Jn Nat):=do
 liftM (rule "list.sort.descending-run")
 let z<-Sk lo (n+1) a
 match z.1 with
 |some r=>pure r
 |none =>
  if z.2.2 > 0 then do
   Bh (lo+z.2.1-(z.2.2+1)) (lo+z.2.1)
   BS lo z.2.1 a
  else BS lo z.2.1 a
theorem nR(lo a:Nat):countRun' lo a=(do
    let z<-sy lo 1 a
    match z.1 with
    |some r=>pure r
    | none =>
      if (z.2==a)=true then pure (some z.2)
      else if z.2 > 1 then do
        let some b<-ltAt' lo (lo+z.2-1)|pure none
        if b=true then pure (some z.2) else do
          Bh lo (lo+z.2)
          QA lo z.2 a
      else QA lo z.2 a):=by
 have c:∀m,(do
     Bh lo (lo+m)
     let z<-sy lo m a
     match z.1 with
     |some r=>pure r
     |none=>pure<|some z.2)=BS lo m a:=λm=>rfl;rw[countRun'_eq];unfold QA BS Sk sy;refine congr (Te bind rfl)<|funext λz=>?_;obtain⟨r,n⟩:=z;cases r with
 |some r=>rfl
 |none =>
  dsimp only;have d:∀z:AscSt,(match z.1 with|some r=>pure r|none=>pure (some z.2):StateT Pe Sem (Jn Nat))=match z.1 with|some r=>pure r|none=>pure (some z.2):=λz=>rfl
  split
  .rfl
  .split
   .congr 1;funext x;cases x with
    |none=>rfl
    |some b =>
     dsimp only;split
     .rfl
     .congr 1;funext _;congr 1;funext _;congr 1;funext z;obtain⟨r,m,q⟩:=z;cases r with
      |some r=>rfl
      |none =>
       dsimp only;split
       .congr 1;funext _;congr 1;funext _;congr 1;funext z;obtain⟨r,k⟩:=z;cases r<;>rfl
       .congr 1;funext _;congr 1;funext z;obtain⟨r,k⟩:=z;cases r<;>rfl
   .congr 1;funext _;congr 1;funext z;obtain⟨r,m,q⟩:=z;cases r with
    |some r=>rfl
    |none =>
     dsimp only;split
     .congr 1;funext _;congr 1;funext _;congr 1;funext z;obtain⟨r,k⟩:=z;cases r<;>rfl
     .congr 1;funext _;congr 1;funext z;obtain⟨r,k⟩:=z;cases r<;>rfl
theorem Tk{Q:Unit->Pe->Prop}(h:Q () (Dn ie<|Ni (arrOf ie) i j<|(j-i) / 2)):wpS (Ke prog w) A E s (Bh i j) Q ie:=by rw[reverseSlice'_eq];exact Jg h
theorem uN(q:EK prog w A s κ rk S){b:Pe}{lo N a d:Nat}{Q:AscSt->Pe->Prop}(B:AllS S (arrOf st))(C:lo+d<=(arrOf st).size)(F:1<=a)(k:a<=d)(hB:Bs κ st lo N b)(G:Sg rk (arrOf b) lo a)(h:∀n,a<=n->n<=d->Sg rk (arrOf b) lo n->(n=d\/KR rk (arrOf b) (lo+n)<KR rk (arrOf b) (lo+n-1))->Q (none,n) b):wpS (Ke prog w) A E s (sy lo a d) Q b:=by
 unfold sy;refine Hf (I:=λx c z=>z=b/\c=(none,x)/\Sg rk (arrOf b) lo x) ?step ?fin ⟨rfl,rfl,G⟩
 case fin=>rintro c z ⟨rfl,rfl,e⟩;rw[show max a d=d by exact Nat.max_eq_right k]at e ⊢;exact h d k (V0 _) e<|.inl rfl
 case step =>
  rintro x c z l m ⟨rfl,rfl,e⟩;dsimp only;refine He<|NH q B hB (B0 (j5 m _) C) (by lia) ?_;dsimp only;by_cases hl:KR rk (arrOf z) (lo+x)<KR rk (arrOf z) (lo+x-1)
  .rw[De<|by simpa using hl];exact Le<|h x l (N1 m) e<|.inr hl
  .rw[Ce<|by simpa using hl];refine Le ⟨rfl,rfl,λi j hi v L=>?_⟩;by_cases t:j<lo+x
   .exact e i j hi v t
   .have:j=lo+x:=SQ (A1 t) L;subst this;by_cases y:i=lo+x
    .subst y;exact V0 _
    .have:=e i (lo+x-1) hi (W1<|T3 v y)<|ca F l;exact A0 this<|A1 hl
theorem RA(q:EK prog w A s κ rk S){c:Pe}{lo n a:Nat}{Q:Jn Nat->Pe->Prop}(x:AllS S (arrOf st))(e:lo+a<=(arrOf st).size)(l:1<=n)(d:n<=a)(hB:Bs κ st lo a c)(y:Dg rk (arrOf c) lo n)(h:∀m z,Bs κ st lo a z->1<=m->m<=a->Sg rk (arrOf z) lo m->Q (some m) z):wpS (Ke prog w) A E s (BS lo n a) Q c:=by
 unfold BS;refine He<|Tk ?_;have t:lo+n<=(arrOf c).size:=by rw[hB.size];exact A0 (T0 d _) e
 have b:=hB.mir (i:=lo) (j:=lo+n) (A0 (T0 d _) e) (V0 _)<|T0 d _;refine He<|uN q x e l d b (λi j hi k v=>?_) λm B C F _=>Le<|h m _ b (A0 l B) C F;show KR rk (Ni _ _ _ _) i<=KR rk (Ni _ _ _ _) j;rw[hU t,hU t,De<|⟨hi,W0 k v⟩,De<|⟨A0 hi k,v⟩];exact y _ _ (by omega) (IX k _) (by omega)
theorem eW(b:j<=xs.size)(a:∀k,i<=k->k<j->KR rk xs k=KR rk xs (j-1))(k:Nat):KR rk (Ni xs i j<|(j-i) / 2) k=KR rk xs k:=by
 rw[hU b];split
 .rw[a _ (by omega)<|by omega,a k (by lia)<|by lia]
 .rfl
theorem oR(q:EK prog w A s κ rk S){L:Pe}{lo n a:Nat}{Q:DescSt->Pe->Prop}(P:AllS S (arrOf st))(hn:lo+a<=(arrOf st).size)(h1:1<=n)(R:n<=a)(hB:Bs κ st lo a L)(hs:Dg rk (arrOf L) lo n)(h:∀m e z,Bs κ st lo a z->n<=m->m<=a->Dg rk (arrOf z) lo m->e+1<=m->(∀i,lo+m-(e+1)<=i->i<lo+m->KR rk (arrOf z) i=KR rk (arrOf z) (lo+m-1))->Q (none,m,e) z):wpS (Ke prog w) A E s (Sk lo n a) Q L:=by
 unfold Sk;refine Hf (I:=λx c z=>∃e,c=(none,x,e)/\Bs κ st lo a z/\Dg rk (arrOf z) lo x/\e+1<=x/\∀i,lo+x-(e+1)<=i->i<lo+x->KR rk (arrOf z) i=KR rk (arrOf z) (lo+x-1)) ?step ?fin
  ⟨0,rfl,hB,hs,by omega,λi i1 i2=>by congr 1;exact N3 (W1 i2) i1⟩
 case fin=>rintro c z ⟨e,rfl,b,d,t,v⟩;rw[show max n a=a by exact Nat.max_eq_right R]at d t v ⊢;exact h a e z b R (V0 _) d t v
 case step =>
  rintro x c z y B ⟨e,rfl,b,d,t,v⟩;dsimp only;have hz:lo+x<=(arrOf z).size:=by rw[b.size];lia
  refine He<|NH q P b (by lia) (by lia) ?_;dsimp only;by_cases hl:KR rk (arrOf z) (lo+x)<KR rk (arrOf z) (lo+x-1)
  .rw[De<|by simpa using hl];have U:∀M:Kn Me,(∀k,KR rk M k=KR rk (arrOf z) k)->Dg rk M lo (x+1):=λM Y i j hi F hj=>by
    rw[Y,Y];by_cases l:j<lo+x
    .exact d i j hi F l
    .have:j=lo+x:=by lia
     subst this;by_cases G:i=lo+x
     .subst G;exact V0 _
     .have:=d i (lo+x-1) hi (W1<|T3 F G)<|ca h1 y;exact N1<|B0 hl this
   by_cases Z:e > 0
   .rw[De Z];exact He<|Tk<|Le ⟨0,rfl,b.mir (by lia) (W1<|T0 t _)<|N1<|j5 B _,U _<|eW hz v,K1 _ _,λi i1 i2=>by congr 1;exact N3 (W1 i2) i1⟩
   .rw[Ce Z];exact Le ⟨0,rfl,b,U _<|λ_=>rfl,K1 _ _,λi i1 i2=>by congr 1;exact aa (k8 i1)<|W1 i2⟩
  .rw[Ce<|by simpa using hl];refine He<|NH q P b (by lia) (by lia) ?_;dsimp only;by_cases O:KR rk (arrOf z) (lo+x-1)<KR rk (arrOf z) (lo+x)
   .rw[De<|by simpa using O];exact Le<|h x e z b y (N1 B) d t v
   .rw[Ce<|by simpa using O];refine Le ⟨e+1,rfl,b,λi j hi F hj=>?_,P9 t,λi i1 i2=>?_⟩
    .by_cases l:j<lo+x
     .exact d i j hi F l
     .have:j=lo+x:=by lia
      subst this;by_cases G:i=lo+x
      .subst G;exact V0 _
      .have:=d i (lo+x-1) hi (by lia) (by lia);exact A0 (A1 O) this
    .rw[show lo+(x+1)-1=lo+x by rfl];by_cases C:i=lo+x
     .subst C;rfl
     .have:=v i (by lia)<|T3 (J5 i2) C
      lia
theorem SA(q:EK prog w A s κ rk S){l:Pe}{lo n a:Nat}{Q:Jn Nat->Pe->Prop}(t:AllS S (arrOf st))(c:lo+a<=(arrOf st).size)(C:n+1<=a)(hB:Bs κ st lo a l)(F:Dg rk (arrOf l) lo (n+1))(h:∀m z,Bs κ st lo a z->1<=m->m<=a->Sg rk (arrOf z) lo m->Q (some m) z):wpS (Ke prog w) A E s (QA lo n a) Q l:=by
 unfold QA;refine He<|Yi<|Yf ⟨rfl,?_⟩;refine He<|oR q t c (K1 _ _) C hB F λm e z b L k d v x=>?_;dsimp only;have y:lo+m<=(arrOf z).size:=by rw[b.size];exact A0 (T0 k _) c
 by_cases B:e > 0
 .rw[De B];refine He<|Tk<|RA q t c (i5 v) k (b.mir (A0 (T0 k _) c) (W1<|T0 v _)<|T0 k _) (λi j hi G I=>?_) h;show KR rk (Ni _ _ _ _) j<=KR rk (Ni _ _ _ _) i;rw[eW y x,eW y x];exact d i j hi G I
 .rw[Ce B];exact RA q t c (i5 v) k b d h
theorem Ab(q:EK prog w A s κ rk S){lo a:Nat}{Q:Jn Nat->Pe->Prop}(x:AllS S (arrOf st))(d:lo+a<=(arrOf st).size)(G:1<=a)(hB:Bs κ st lo a st)(h:∀m z,Bs κ st lo a z->1<=m->m<=a->Sg rk (arrOf z) lo m->Q (some m) z):wpS (Ke prog w) A E s (countRun' lo a) Q st:=by
 rw[nR];refine He<|uN q x d (V0 1) G hB (λi j hi e I=>by have:i=j:=(by lia);subst this;exact V0 _) λn l b y C=>?_;dsimp only;by_cases t:n=a
 .rw[De<|by simpa using t];exact Le<|h n st hB l b y
 .rw[Ce<|by simpa using t];have L:=C.resolve_left t;by_cases c:n > 1
  .rw[De c];refine He<|NH q x hB (A0 (T0 G _) d) (B0 (K6 (J7 _ l)<|S3 _)<|A0 (T0 b _) d) ?_;dsimp only;by_cases F:KR rk (arrOf st) lo<KR rk (arrOf st) (lo+n-1)
   .rw[De<|by simpa using F];exact Le<|h n st hB l b y
   .rw[Ce<|by simpa using F];have M:lo+n<=(arrOf st).size:=A0 (T0 b _) d;have all:∀k,lo<=k->k<lo+n->KR rk (arrOf st) k=KR rk (arrOf st) (lo+n-1):=λk O P=>by
     have R:=y lo k (P0 rfl) O P;have U:=y k (lo+n-1) O (W1 P)<|K6 (J7 _ l)<|S3 _;exact N3 U<|A0 (A1 F) R
    refine He<|Tk<|SA q x d (T3 b t) (hB.mir (by omega) (P0 rfl)<|T0 b _) (λi j hi e I=>?_) h;show KR rk (Ni _ _ _ _) j<=KR rk (Ni _ _ _ _) i;rw[eW M all,eW M all];by_cases v:j<lo+n
    .have:=all i hi<|W0 e v;have:=all j (A0 hi e) v
     lia
    .have:j=lo+n:=by lia
     subst this;by_cases B:i=lo+n
     .subst B;exact V0 _
     .have:=all i hi<|T3 e B;exact le_of_le_of_eq (N1 L) this.symm
  .rw[Ce c];have:n=1:=N3 (A1 c) l;subst this;refine SA q x d (T3 b t) hB (λi j hi e I=>?_) h;by_cases B:i=j
   .subst B;exact V0 _
   .have Y:i=lo:=by lia
    have Z:j=lo+1:=by lia
    subst Y;subst Z;exact N1 L
theorem pR(q:EK prog w A s κ rk S){O:Pe}{lo N n ok:Nat}{Q:Bool->Pe->Prop}(U:AllS S (arrOf st))(hn:lo+n<=(arrOf st).size)(Y:n<=N)(Z:ok<=n)(hB:Bs κ st lo N O)(hs:Sg rk (arrOf O) lo ok)(h:∀z,Bs κ st lo N z->Sg rk (arrOf z) lo n->Q true z):wpS (Ke prog w) A E s (binarySort' lo n ok) Q O:=by
 rw[binarySort'_eq];refine He<|Pf (Hf (I:=λk c z=>c=(none,())/\Bs κ st lo N z/\Sg rk (arrOf z) lo (min k n)) (Q:=λc z=>c=(none,())/\Bs κ st lo N z/\Sg rk (arrOf z) lo n) ?step ?fin ?init) ?post
 case post=>rintro c z ⟨rfl,b,m⟩;exact Le<|h z b m
 case init =>
  refine⟨rfl,hB,λi j hi R hj=>?_⟩;by_cases e:ok=0
  .have:i=j:=by lia
   subst this;exact V0 _
  .exact hs i j hi R (by lia)
 case fin=>rintro c z ⟨hc,b,m⟩;refine⟨hc,b,?_⟩;rwa [show min (max (max ok 1) n) n=n by exact J8<|Q9 _ _]at m
 case step =>
  rintro k c z hak P ⟨rfl,b,m⟩;rw[show min k n=k by exact o5<|N1 P]at m;refine He<|Pf (Hf (I:=λx c a=>a=z/\∃l r,c=(none,l,r)/\l<=r/\r<=k/\r-l<=k-x/\(∀i,i<l->KR rk (arrOf z) (lo+i)<=KR rk (arrOf z) (lo+k))/\(∀i,r<=i->i<k->KR rk (arrOf z) (lo+k)<KR rk (arrOf z) (lo+i)))
    (Q:=λc a=>a=z/\∃l r,c=(none,l,r)/\l<=k/\(∀i,i<l->KR rk (arrOf z) (lo+i)<=KR rk (arrOf z) (lo+k))/\(∀i,l<=i->i<k->KR rk (arrOf z) (lo+k)<KR rk (arrOf z) (lo+i))) ?istep ?ifin ?iinit) ?ipost
  case iinit=>exact⟨rfl,0,k,rfl,j4 _,by lia,P0 rfl,λi hi=>by lia,λi e C=>by lia⟩
  case ifin=>rintro c a ⟨rfl,l,r,rfl,t,v,M,F,d⟩;have:l=r:=lc M t;subst this;exact⟨rfl,l,l,rfl,v,F,d⟩
  case istep =>
   rintro x c a _ hxk ⟨rfl,l,r,rfl,t,v,M,F,d⟩;dsimp only;by_cases y:l ≥ r
   .rw[De y];have:l=r:=N3 t y;subst this;exact Le ⟨rfl,l,l,rfl,v,F,d⟩
   .rw[Ce y];refine He<|NH q U b (by lia) (by lia) ?_;dsimp only;by_cases hl:KR rk (arrOf a) (lo+k)<KR rk (arrOf a) (lo+(l+r) / 2)
    .rw[De<|by simpa using hl];refine Le ⟨rfl,l,(l+r) / 2,rfl,by lia,by lia,ud M,F,λi e C=>?_⟩;have:=m (lo+(l+r) / 2) (lo+i) (T1 _ _) (T0 e _)<|j5 C _;exact B0 hl this
    .rw[Ce<|by simpa using hl];refine Le ⟨rfl,(l+r) / 2+1,r,rfl,by lia,by omega,arg M,λi e=>?_,d⟩;have:=m (lo+i) (lo+(l+r) / 2) (T1 _ _) (Nat.add_le_add (P0 rfl)<|J5 e) (by lia);exact A0 this<|A1 hl
  case ipost =>
   rintro c a ⟨rfl,l,r,rfl,hlk,F,d⟩;show wpS _ _ _ _ (do moveDown' (lo+k) (lo+l);pure (ForInStep.yield (none,()))) _ _;rw[moveDown'_eq];have B:lo+k<(arrOf a).size:=by rw[b.size];lia
   refine He<|Jg<|Le ⟨rfl,⟨(bubble_perm _ _ _).trans b.perm,b.kind,b.failed,b.pend,λi hi=>?_⟩,?_⟩
   .show (bubble (arrOf a) _ _)[i]?=_;rw[getElem?_bubble B _<|by omega,Ce<|by omega,Ce<|by lia];exact b.keep i hi
   .rw[show min (k+1) n=k+1 by lia];intro i j hi R hj;show KR rk (bubble (arrOf a) (lo+k)<|lo+k-(lo+l)) i<=KR rk (bubble (arrOf a) (lo+k)<|lo+k-(lo+l)) j;rw[dF B<|by lia,dF B<|by lia,show lo+k-(lo+k-(lo+l))=lo+l by lia];have G:∀i,lo<=i->i<lo+l->KR rk (arrOf a) i<=KR rk (arrOf a) (lo+k):=λi e C=>by
     have:=F (i-lo)<|E6 e C;rwa [show lo+(i-lo)=i by lia]at this
    have L:∀i,lo+l<=i->i<lo+k->KR rk (arrOf a) (lo+k)<KR rk (arrOf a) i:=λi e C=>by have:=d (i-lo) (oX e)<|E6 (Z1 e) C;rwa [show lo+(i-lo)=i by lia]at this
    repeat' split
    all_goals first
     |(exfalso;lia)
     |exact V0 _
     |exact G _ (by omega) (by lia)
     |exact N1 (L _ (by lia)<|by omega)
     |exact m _ _ (by omega) (by lia) (by lia)
end
noncomputable def wb(d:Kn Me)(c:Nat)(m:List Me)(n:Nat):Kn Me:=(m.zipIdx n).foldl (λa b=>a.setIfInBounds (c+b.2) b.1) d
theorem qR(i:Nat):mergeAt' i=(do
    let z<-get
    let (some (sa,na,pw),some (sb,nb,_)):=((Se z)[i]?,(Se z)[i+1]?)|Ii "internal:list.sort.pending"
    set (El z<|((Se z).setIfInBounds i (sa,na+nb,pw)).eraseIdxIfInBounds<|i+1)
    let some k<-qy false (<-Of (arrOf z) sb) (arrOf z) sa na 0|return false
    let (sa,na):=(sa+k,na-k)
    if na==0 then return true
    let some nb<-qy true (<-Of (arrOf z) (sa+na-1)) (arrOf z) sb nb (nb-1)|return false
    if nb==0 then return true
    let x:=(arrOf z).extract sa sb
    let y:=(arrOf z).extract sb<|sb+nb
    let r<-if na<=nb then I_ x y else J_ x y
    modify λv=>Dn v (wb (arrOf v) sa r.toList 0)
    return (Xg (<-get)).isNone):=rfl
theorem Pj:∀(m:List Me) (n c:Nat) (a:Kn Me),c+n+m.length<=a.size->∀k,(wb a c m n)[k]?=if c+n<=k/\k<c+n+m.length then m[k-(c+n)]? else a[k]?
 |[],n,c,a,_,k=>by show a[k]?=_;rw[Ce<|by simp]
 |p::m,n,c,a,h,k=>by
  have hl:(p::m).length=m.length+1:=rfl;show (wb (a.setIfInBounds (c+n) p) c m<|n+1)[k]?=_;rw[Pj m (n+1) c _ (by rw[GQ];lia),Array.getElem?_setIfInBounds];by_cases d:c+n=k
  .subst d;rw[Ce<|by lia,De rfl,De<|by lia,De<|by lia];simp
  .by_cases b:c+(n+1)<=k/\k<c+(n+1)+m.length
   .rw[De b,De<|⟨N1<|Nat.lt_of_succ_le b.1,lt_of_lt_of_eq b.2<|M6 _ _⟩];have e:k-(c+n)=(k-(c+(n+1)))+1:=Cd b.1;rw[e,T6]
   .rw[Ce b,Ce d,Ce<|by lia]
theorem NL(h:c+m.length<=xs.size):(wb xs c m 0).toList=xs.toList.take c++m++xs.toList.drop (c+m.length):=by
 apply u9;intro k;rw[G5,Pj m 0 c xs<|by omega];have hl:(xs.toList.take c).length=c:=by rw[B5,Z0];exact o5<|Z1 h
 rw[u3];by_cases a:k<c
 .rw[Ce<|by lia,A3<|B0 a<|P0 hl.symm,FQ a,G5]
 .rw[S2<|le_of_eq_of_le hl<|A1 a,hl];by_cases b:k-c<m.length
  .rw[De<|by lia,A3 b];rfl
  .rw[Ce<|by lia,S2<|A1 b,RX,G5];congr 1;exact Dd b a
section
variable {w:Xe}{κ:Gg}{rk:Me->Nat}{S:Me->Prop}{st:Pe}
theorem ext_at{c:Kn Me}{a b i:Nat}(d:b<=c.size)(hi:i<(c.extract a b).size):(c.extract a b)[i]=c[a+i]'(by rw[W8]at hi;lia):=by rw[Array.getElem_extract]
theorem TB(c:b<=xs.size)(h:∀i j,a<=i->i<=j->j<b->KR rk xs i<=KR rk xs j):(xs.extract a b).toList.Pairwise (zG rk):=by
 rw[Q4];intro i j hi d e;rw[Z0]at hi d;rw[U4,U4,ext_at c,ext_at c];have k:(xs.extract a b).size=b-a:=by rw[W8];lia
 have:=h (a+i) (a+j) (T1 _ _) (N1<|j5 e _)<|B7<|lt_of_lt_of_eq d k;rwa [KR_at<|by lia,KR_at<|by lia]at this
structure Mt(κ:Gg)(rk:Me->Nat)(st:Pe)(i sa na nb pw:Nat)(ie:Pe):Prop where
 perm:(arrOf ie).Perm (arrOf st)
 kind:kindOf ie=κ
 failed:Xg ie=none
 pend:Se ie=((Se st).setIfInBounds i (sa,na+nb,pw)).eraseIdxIfInBounds (i+1)
 keep:∀j,j<sa\/sa+(na+nb)<=j->(arrOf ie)[j]?=(arrOf st)[j]?
 sg:Sg rk (arrOf ie) sa (na+nb)
theorem UA(q:EK prog w A s κ rk S){i c d L pw pw':Nat}{Q:Bool->Pe->Prop}(hS:AllS S (arrOf st))(hk:kindOf st=κ)(hF:Xg st=none)(p1:(Se st)[i]?=some (c,d,pw))(p2:(Se st)[i+1]?=some (c+d,L,pw'))(x:c+d+L<=(arrOf st).size) (n1:1<=d) (n2:1<=L) (s1:Sg rk (arrOf st) c d) (s2:Sg rk (arrOf st) (c+d) L) (h:∀ie,Mt κ rk st i c d L pw ie->Q true ie):wpS (Ke prog w) A E s (mergeAt' i) Q st:=by
 rw[qR];refine He<|Vh ?_;rw[p1,p2];dsimp only;refine He<|Jg (f:=λ_=>El st<|((Se st).setIfInBounds i (c,d+L,pw)).eraseIdxIfInBounds<|i+1) ?_;generalize B:El st (((Se st).setIfInBounds i (c,d+L,pw)).eraseIdxIfInBounds<|i+1)=I;have Z:kindOf I=κ:=by rw[<-B];exact hk
 have M:Xg I=none:=by rw[<-B];exact hF
 have y:arrOf I=arrOf st:=by rw[<-B]
 have hP1:Se I=((Se st).setIfInBounds i (c,d+L,pw)).eraseIdxIfInBounds (i+1):=by rw[<-B]
 have C:∀j (hj:j<(arrOf st).size),S (arrOf st)[j]:=λj hj=>hS _ (by simp);have U:∀a b,c<=a->a<=b->b<c+d->KR rk (arrOf st) a<=KR rk (arrOf st) b:=s1;have O:∀a b,c+d<=a->a<=b->b<c+d+L->KR rk (arrOf st) a<=KR rk (arrOf st) b:=s2;refine He<|gJ (A0 (T0 n2 _) x) ?_;refine He<|jY q Z (C _ _) C (Z1 x) (λa b F P t m=>by
   have:=U a b t P m;rwa [KR_at<|W0 P F,KR_at F]at this) n1 λk kn k1 k2=>?_;dsimp only;have so:∀a,c<=a->a<c+k->KR rk (arrOf st) a<=KR rk (arrOf st) (c+d):=λa t m=>by
  have:=k1 a (B0 m<|A0 (T0 kn _)<|Z1 x) t m;rw[Ce<|by decide]at this;rwa [KR_at<|by lia,KR_at<|A0 (T0 n2 _) x]
 have k2':∀a,c+k<=a->a<c+d->KR rk (arrOf st) (c+d)<KR rk (arrOf st) a:=λa t m=>by have:=k2 a (B0 m<|Z1 x) t m;rw[Ce<|by decide]at this;rwa [KR_at<|by lia,KR_at<|B0 m<|Z1 x]
 by_cases h0:d-k=0
 .rw[De<|by simpa using h0];refine Le<|h I ⟨by rw[y],Z,M,hP1,λj _=>by rw[y],λa b t m h3=>?_⟩;rw[y];by_cases F:b<c+d
  .exact U a b t m F
  .by_cases G:a<c+d
   .exact A0 (so a t<|by lia) (O (c+d) b (P0 rfl) (A1 F)<|by lia)
   .exact O a b (A1 G) m (by lia)
 .rw[Ce<|by simpa using h0];refine He<|gJ (ga x h0) ?_;refine He<|jY q Z (C _ _) C (by omega) (λa b F P t m=>by
    have:=O a b t P m;rwa [KR_at<|W0 P F,KR_at F]at this) (K6 n2<|S3 _) λl ln l1 l2=>?_;dsimp only;have l1':∀a,c+d<=a->a<c+d+l->KR rk (arrOf st) a<KR rk (arrOf st) (c+k+(d-k)-1):=λa t m=>by
   have:=l1 a (B0 m<|A0 (T0 ln _) x) t m;rw[De rfl]at this;rwa [KR_at<|by lia,KR_at<|ga x h0]
  have l2':∀a,c+d+l<=a->a<c+d+L->KR rk (arrOf st) (c+k+(d-k)-1)<=KR rk (arrOf st) a:=λa t m=>by have:=l2 a (B0 m x) t m;rw[De rfl]at this;rwa [KR_at<|by lia,KR_at<|by lia]
  have el:c+k+(d-k)-1=c+d-1:=Ad h0;rw[el]at l1' l2';by_cases hl0:l=0
  .rw[De<|by simpa using hl0];refine Le<|h I ⟨by rw[y],Z,M,hP1,λj _=>by rw[y],λa b t m h3=>?_⟩;rw[y];by_cases F:b<c+d
   .exact U a b t m F
   .by_cases G:a<c+d
    .exact A0 (U a (c+d-1) t (W1 G)<|K6 (J7 _ n1)<|S3 _) (l2' b (by lia)<|by lia)
    .exact O a b (by lia) m (by lia)
  .rw[Ce<|by simpa using hl0];have hxz:((arrOf st).extract (c+k)<|c+d).size=d-k:=by rw[W8];exact md x
   have hyz:((arrOf st).extract (c+d)<|c+d+l).size=l:=by rw[W8];lia
   have H:Hy rk S ((arrOf st).extract (c+k)<|c+d) ((arrOf st).extract (c+d)<|c+d+l):=by
    refine⟨TB (Z1 x) λa b t m h3=>U a b (Z1 t) m h3,TB (A0 (T0 ln _) x) λa b t m h3=>O a b t m<|B0 h3<|T0 ln _,λj hj=>?_,λj hj=>?_,by lia,by lia,λj hj=>?_,λj hj=>?_⟩
    .rw[ext_at<|by lia];exact C _ _
    .rw[ext_at<|A0 (T0 ln _) x];exact C _ _
    .rw[ext_at<|by lia,ext_at<|by lia];have:=l1' (c+d+j) (T1 _ _)<|lt_of_lt_of_eq (j5 hj _)<|Nat.add_left_cancel_iff.2 hyz;rw[KR_at<|by lia,KR_at<|W0 (P0 el.symm)<|ga x h0]at this;simp only[hxz];have e2:c+k+(d-k-1)=c+d-1:=qd h0;simp only[e2];exact N1 this
    .rw[ext_at<|by lia,ext_at<|by lia];have:=k2' (c+k+j) (T1 _ _) (by omega);rw[KR_at<|by lia,KR_at<|by omega]at this;simp only[b8];exact N1 this
   have go:∀(r:Kn Me) (si:Pe),Gs I si->Po rk ((arrOf st).extract (c+k)<|c+d) ((arrOf st).extract (c+d)<|c+d+l) r->wpS (Ke prog w) A E s (do
       modify λv=>Dn v<|wb (arrOf v) (c+k) r.toList 0
       let v<-get
       pure (Xg v).isNone) Q si:=by
    rintro r si ⟨g,rfl⟩ ⟨hp,hw⟩;refine He<|Jg<|He<|Vh ?_;have je:r.toList.length=d-k+l:=by rw[hp.length_eq,R0,Z0,Z0,hxz,hyz]
    have F:c+k+r.toList.length<=(arrOf st).size:=by omega
    have eA:arrOf (Dn (DV I g)<|wb (arrOf<|DV I g) (c+k) r.toList 0)=wb (arrOf st) (c+k) r.toList 0:=by show wb (arrOf I) _ _ _=_;rw[y]
    have eF:Xg (Dn (DV I g)<|wb (arrOf<|DV I g) (c+k) r.toList 0)=none:=M;rw[eF];have gt:∀j,(wb (arrOf st) (c+k) r.toList 0)[j]?=if c+k<=j/\j<c+k+r.toList.length then r.toList[j-(c+k)]? else (arrOf st)[j]?:=λj=>Pj r.toList 0 (c+k) (arrOf st) F j;have mid:∀j,c+k<=j->j<c+d+l->∃n,c+k<=n/\n<c+d+l/\KR rk (wb (arrOf st) (c+k) r.toList 0) j=KR rk (arrOf st) n:=λj j1 j2=>by
     have hj:j-(c+k)<r.toList.length:=qc j2 je h0;have e:KR rk (wb (arrOf st) (c+k) r.toList 0) j=rk (r.toList[j-(c+k)]'hj):=by unfold KR;rw[gt,De<|by omega,J0 hj]
     have hm:=hp.mem_iff.mp<|X5 hj;rw[e];rcases O2.mp hm with hm|hm
     .obtain⟨n,Y,R⟩:=P5 hm;rw[Z0]at Y;rw[U4,ext_at<|by lia]at R;refine⟨c+k+n,by lia,zd Y hxz,?_⟩;rw[<-R,KR_at<|by lia]
     .obtain⟨n,Y,R⟩:=P5 hm;rw[Z0]at Y;rw[U4,ext_at<|by lia]at R;refine⟨c+d+n,A0 (T0 kn _)<|T1 _ _,by lia,?_⟩;rw[<-R,KR_at<|by lia]
    have mf:∀j,j<c+k\/c+d+l<=j->(wb (arrOf st) (c+k) r.toList 0)[j]?=(arrOf st)[j]?:=λj hj=>by rw[gt,Ce<|by omega]
    refine Le<|h _ ⟨?_,Z,M,hP1,?_,?_⟩
    .rw[eA,y7,NL F];have e:(arrOf st).toList=(arrOf st).toList.take (c+k)++(((arrOf st).extract (c+k)<|c+d).toList++((arrOf st).extract (c+d)<|c+d+l).toList)++(arrOf st).toList.drop (c+k+r.toList.length):=by
      rw[Y5,Y5,O4,O4];have e1:(arrOf st).toList.drop (c+d)=((arrOf st).toList.drop<|c+k).drop (d-k):=by rw[xX];congr 1;exact nc h0
      rw[e1,show c+d-(c+k)=d-k by exact BX _ _ _,show c+d+l-(c+d)=l by exact W2 _ _,<-List.take_add,je];have e2:(arrOf st).toList.drop (c+k+(d-k+l))=((arrOf st).toList.drop<|c+k).drop (d-k+l):=by rw[xX]
      rw[e2,u3,Q5,Q5]
     conv=>rhs;rw[e]
     exact(hp.append_left _).append_right _
    .intro j hj;rw[eA];exact mf j (by lia)
    .rw[eA];intro a b t m h3;have kA:∀a,a<c+k->KR rk (wb (arrOf st) (c+k) r.toList 0) a=KR rk (arrOf st) a:=λa G=>NJ<|mf a<|.inl G;have kB:∀a,c+d+l<=a->KR rk (wb (arrOf st) (c+k) r.toList 0) a=KR rk (arrOf st) a:=λa G=>NJ<|mf a<|.inr G;by_cases G:a<c+k
     .rw[kA a G];by_cases mi:b<c+k
      .rw[kA b mi];exact U a b t m<|B0 mi<|T0 kn _
      .by_cases yg:b<c+d+l
       .obtain⟨n,m1,m2,R⟩:=mid b (by lia) yg;rw[R];by_cases Y:n<c+d
        .exact U a n t (N1<|B0 G m1) Y
        .exact A0 (so a t G) (O (c+d) n (P0 rfl) (by lia)<|B0 m2<|T0 ln _)
       .rw[kB b<|A1 yg];exact A0 (so a t G) (O (c+d) b (by lia) (Z1<|A1 yg)<|by lia)
     .by_cases uh:a<c+d+l
      .by_cases yg:b<c+d+l
       .have ha':a-(c+k)<r.toList.length:=qc uh je h0;have hb':b-(c+k)<r.toList.length:=by lia
        have ea:KR rk (wb (arrOf st) (c+k) r.toList 0) a=rk (r.toList[a-(c+k)]'ha'):=by unfold KR;rw[gt,De<|by omega,J0 ha']
        have eb:KR rk (wb (arrOf st) (c+k) r.toList 0) b=rk (r.toList[b-(c+k)]'hb'):=by unfold KR;rw[gt,De<|by lia,J0 hb']
        rw[ea,eb];rcases fQ a b with P|P
        .exact Q4.mp hw _ _ ha' hb' (DX (A1 G) P)
        .have:a=b:=N3 m P;subst this;exact V0 _
       .obtain⟨n,m1,m2,R⟩:=mid a (by lia) uh;rw[R,kB b<|A1 yg];by_cases Y:n<c+d
        .exact A0 (U n (c+d-1) (Z1 m1) (W1 Y)<|ca n1<|P0 rfl) (l2' b (by lia)<|by lia)
        .exact O n b (by lia) (A0 (N1 m2)<|A1 yg) (by lia)
      .rw[kB a<|by lia,kB b<|A0 (A1 uh) m];exact O a b (by lia) m (by lia)
   by_cases di:d-k<=l
   .simp only[De di];exact He<|KA q H Z λr si hg hP=>go r si hg hP
   .simp only[Ce di];exact He<|OA q H Z λr si hg hP=>go r si hg hP
end
noncomputable def Ch(a:Me->Nat)(c:Kn Me):List (Nat×Nat×Nat)->Nat->Nat->Prop
 |[],b,e=>b=e
 |p::l,b,e=>p.1=b/\1<=p.2.1/\Sg a c b p.2.1/\Ch a c l (b+p.2.1) e
theorem Ch.len{a:Me->Nat}{c:Kn Me}:∀{l:List (Nat×Nat×Nat)}{b e:Nat},Ch a c l b e->b+l.length<=e
 |[],b,e,h=>by cases h;simp
 |p::l,b,e,h=>by
  have:=h.2.2.2.len;have:=h.2.1;rw[L1]
  lia
theorem Ch.append{i:Me->Nat}{j:Kn Me}:∀{l d:List (Nat×Nat×Nat)}{b e:Nat},Ch i j (l++d) b e ↔ ∃m,Ch i j l b m/\Ch i j d m e
 |[],d,b,e=>⟨λh=>⟨b,rfl,h⟩,λ⟨m,a,c⟩=>by cases a;exact c⟩
 |p::l,d,b,e=>⟨λ⟨a,c,k,v⟩=>by obtain⟨m,q,t⟩:=Ch.append.mp v;exact⟨m,⟨a,c,k,q⟩,t⟩,λ⟨m,⟨a,c,k,q⟩,t⟩=>⟨a,c,k,Ch.append.mpr ⟨m,q,t⟩⟩⟩
theorem Ch.congr{d:Me->Nat}{m ys:Kn Me}:∀{l:List (Nat×Nat×Nat)}{b e:Nat},(∀i,b<=i->i<e->ys[i]?=m[i]?)->Ch d m l b e->Ch d ys l b e
 |[],_,_,_,h=>h
 |p::l,b,e,k,⟨t,v,w,q⟩=>by have:=q.len;refine⟨t,v,λi j hi a c=>?_,q.congr λi hi x=>k i (Z1 hi) x⟩;rw[NJ<|k i hi<|W0 a<|B0 c<|Z1 this,NJ<|k j (A0 hi a)<|B0 c<|Z1 this];exact w i j hi a c
structure In(κ:Gg)(rk:Me->Nat)(st:Pe)(lo:Nat)(ie:Pe):Prop where
 perm:(arrOf ie).Perm (arrOf st)
 kind:kindOf ie=κ
 failed:Xg ie=none
 ch:Ch rk (arrOf ie) (Se ie).toList 0 lo
theorem In.size{st:Pe}{lo:Nat}(h:In κ rk st lo ie):(arrOf ie).size=(arrOf st).size:=h.perm.size_eq
section
variable {w:Xe}{κ:Gg}{rk:Me->Nat}{S:Me->Prop}{st:Pe}
theorem AllS.perm{ys:Kn Me}(h:AllS S xs)(p:ys.Perm xs):AllS S ys:=λq a=>h q<|(y7.mp p).mem_iff.mp a
theorem vN(q:EK prog w A s κ rk S){i lo:Nat}{a:Pe}{Q:Bool->Pe->Prop}(Z:AllS S (arrOf st))(hI:In κ rk st lo a)(dr:lo<=(arrOf st).size)(hi:i+1<(Se a).size)(h:∀c,In κ rk st lo c->(Se c).size+1=(Se a).size->(∀j,lo<=j->(arrOf c)[j]?=(arrOf a)[j]?)->Q true c):wpS (Ke prog w) A E s (mergeAt' i) Q a:=by
 obtain⟨perm,kind,b,ch⟩:=hI;have hl:(Se a).toList.length=(Se a).size:=Z0;obtain⟨pre,p,B,post,e,d⟩:∃pre p B post,(Se a).toList=pre++p::B::post/\pre.length=i:=by refine⟨(Se a).toList.take i,(Se a).toList[i]'(M7 (S3 _)<|B0 hi<|P0 hl.symm),(Se a).toList[i+1]'(by omega),(Se a).toList.drop<|i+2,?_,by rw[B5];exact o5<|S6<|N1 hi⟩;have v:=M4 (l:=(Se a).toList) (i:=i)<|y9 hi;have x:=M4 (l:=(Se a).toList) (i:=i+1) (by omega);rw[<-x,<-v,Q5]
 rw[e]at ch;obtain⟨m,c1,c2⟩:=Ch.append.mp ch;obtain⟨k,t,L⟩:=p;obtain⟨sb,y,C⟩:=B;obtain⟨O,F,P,R,g2,U,G⟩:=c2;dsimp only at O F P R g2 U G;subst O;subst R;have je:=G.len;have q1:(Se a)[i]?=some (k,t,L):=by rw[<-G5,e,S2<|P0 d,d,VQ];rfl
 have q2:(Se a)[i+1]?=some (k+t,y,C):=by rw[<-G5,e,S2 (by exact K5<|P0 d),d,W2];rfl
 have hz:=perm.size_eq;refine UA q (Z.perm perm) kind b q1 q2 (by lia) F g2 P U λc M=>?_;have Y:(Se c).toList=pre++(k,t+y,L)::post:=by rw[M.pend,Array.toList_eraseIdxIfInBounds,Array.toList_setIfInBounds,e,<-d,List.set_append_right _ _<|V0 _,VQ,List.eraseIdx_append_of_length_le<|T1 _ _,W2];rfl
 refine h c ⟨M.perm.trans perm,M.kind,M.failed,?_⟩ ?_ λj I=>M.keep j (.inr<|by lia)
 .rw[Y];refine Ch.append.mpr ⟨k,c1.congr λj _ I=>M.keep j<|.inl I,rfl,by show 1<=t+y;exact x9 F,M.sg,?_⟩;show Ch rk _ post (k+(t+y)) lo;rw[<-W4];exact G.congr λj I _=>M.keep j (.inr<|by lia)
 .have v:=Te E5 Y;have x:=Te E5 e;rw[Z0]at v x;simp only[R0,L1]at v x
  lia
theorem Ch.modify{a:Kn Me}(c:Nat):∀{l:List (Nat×Nat×Nat)}{i b e:Nat},Ch rk a l b e->Ch rk a (l.modify i λx=>(x.1,x.2.1,c)) b e
 |[],i,_,_,h=>by cases i<;>exact h
 |p::l,0,_,_,h=>h
 |p::l,i+1,_,_,⟨d,j,k,m⟩=>⟨d,j,k,m.modify c (i:=i)⟩
theorem In.put{lo n:Nat}{z:Pe}(h:In κ rk st lo z):In κ rk st lo (El z<|(Se z).modify ((Se z).size-1) λx=>(x.1,x.2.1,pw)) :=
 ⟨h.perm,h.kind,h.failed,by show Ch rk (arrOf z) ((Se z).modify ((Se z).size-1) λx=>(x.1,x.2.1,pw)).toList 0 lo;rw[Array.toList_modify];exact h.ch.modify pw⟩
theorem In.push{lo:Nat}{z:Pe}(h:In κ rk st lo z)(a:1<=n)(b:Sg rk (arrOf z) lo n):In κ rk st (lo+n) (El z<|(Se z).push (lo,n,0)) :=
 ⟨h.perm,h.kind,h.failed,by show Ch rk (arrOf z) ((Se z).push (lo,n,0)).toList 0 (lo+n);rw[o9];exact Ch.append.mpr ⟨lo,h.ch,rfl,a,b,rfl⟩⟩
theorem In.run{lo:Nat}{z:Pe}(h:In κ rk st lo z)(b:Bs κ z lo n z'):In κ rk st lo z' :=
 ⟨b.perm.trans h.perm,b.kind,b.failed,by rw[b.pend];exact h.ch.congr λi _ hi=>b.keep i<|.inl hi⟩
theorem Sg.congr{ys:Kn Me}{lo:Nat}(h:Sg rk xs lo n)(k:∀j,lo<=j->ys[j]?=xs[j]?):Sg rk ys lo n:=λi j hi a b=>by rw[NJ<|k i hi,NJ<|k j<|A0 hi a];exact h i j hi a b
theorem w_sort(q:EK prog w A s κ rk S){Q:Unit->Pe->Prop}(hS:AllS S (arrOf st))(hk:kindOf st=κ)(hF:Xg st=none)(hP:Se st=#[])(h:∀L,(arrOf L).Perm (arrOf st)->Xg L=none->Sg rk (arrOf L) 0 (arrOf st).size->Q () L):wpS (Ke prog w) A E s sortRuns' Q st:=by
 rw[sortRuns'_eq];refine He<|Vh ?_;dsimp only;have I0:In κ rk st 0 st:=⟨Array.Perm.refl _,hk,hF,by rw[hP];rfl⟩;refine He<|Pf (Hf (I:=λx c z=>∃lo,c=(none,lo)/\In κ rk st lo z/\lo<=(arrOf st).size/\(x<=lo\/lo=(arrOf st).size)) (Q:=λc z=>c=(none,(arrOf st).size)/\In κ rk st (arrOf st).size z) ?step ?fin ⟨0,rfl,I0,j4 _,.inl<|V0 _⟩) ?post
 case fin =>
  rintro c z ⟨lo,rfl,e,M,h2⟩;have:lo=(arrOf st).size:=by lia
  subst this;exact⟨rfl,e⟩
 case step =>
  rintro x c z _ hx ⟨lo,rfl,e,M,h2⟩;dsimp only;by_cases t:lo ≥ (arrOf st).size
  .rw[De t];have:lo=(arrOf st).size:=N3 M t;subst this;exact Le ⟨rfl,e⟩
  .rw[Ce t];have hz:=e.size;have gp:AllS S (arrOf z):=AllS.perm hS e.perm;refine He<|Ab q gp (by lia) (t9<|N9 t) ⟨Array.Perm.refl _,e.kind,e.failed,rfl,λ_ _=>rfl⟩ λn v O P R U=>?_;dsimp only;have rest:∀(n:Nat) (v:Pe),In κ rk st lo v->1<=n->lo+n<=(arrOf st).size->Sg rk (arrOf v) lo n->∃c,c=n/\In κ rk st lo v/\Sg rk (arrOf v) lo c/\1<=c/\lo+c<=(arrOf st).size:=λn v a b c d=>⟨n,rfl,a,d,b,c⟩;by_cases G:n<minRun' (arrOf st).size (arrOf st).size 0
   case' pos =>
    rw[De G];refine He<|Yi<|Yf ⟨rfl,?_⟩;refine He<|pR (N:=(arrOf st).size-lo) q gp (n:=min ((arrOf st).size-lo)<|minRun' (arrOf st).size (arrOf st).size 0) (by omega) (T4 _ _) (u6 R<|N1 G) O U λY b2 g2=>?_;simp only[MX,Y4,if_false];have B:=e.run b2;have m1:1<=min ((arrOf st).size-lo) (minRun' (arrOf st).size (arrOf st).size 0):=u6 (A0 P R)<|i5 G;have m2:lo+min ((arrOf st).size-lo) (minRun' (arrOf st).size (arrOf st).size 0)<=(arrOf st).size:=by lia
    clear b2 O U;generalize min ((arrOf st).size-lo) (minRun' (arrOf st).size (arrOf st).size 0)=m at *
   case' neg=>rw[Ce G];have B:=e.run O;have m1:=P;have m2:lo+n<=(arrOf st).size:=A0 (T0 R _)<|P0<|M3 M;have g2:=U;clear O U P R G;generalize n=m at *;generalize v=Y at *
   all_goals
    refine He<|Vh ?_;cases hb:(Se Y).back? with
    |none=>exact He<|Jg<|Le ⟨lo+m,rfl,B.push m1 g2,m2,.inl<|by lia⟩
    |some pb =>
     obtain⟨s1,P,pv⟩:=pb;dsimp only;refine He<|Pf (Hf (I:=λ_ c z=>c=(none,())/\In κ rk st lo z/\∀j,lo<=j->(arrOf z)[j]?=(arrOf Y)[j]?) (Q:=λc z=>c=(none,())/\In κ rk st lo z/\∀j,lo<=j->(arrOf z)[j]?=(arrOf Y)[j]?) ?_ (λ_ _ hh=>hh) ⟨rfl,B,λ_ _=>rfl⟩) ?_
     .rintro y c z _ _ ⟨rfl,k,F⟩;refine He<|Vh ?_;by_cases l:(Se z).size > 1
      .rw[De l];cases hq:(Se z)[(Se z).size-2]? with
       |none=>exact Le ⟨rfl,k,F⟩
       |some pq =>
        obtain⟨u1,u2,older⟩:=pq;dsimp only;split
        .exact Le ⟨rfl,k,F⟩
        .refine He (vN q hS k (by omega) (W9 (E4 l)<|w8 _ _ l) λz4 C _ k4=>?_);simp only[MX,Y4,if_false];exact Le ⟨rfl,C,λj hj=>(k4 j hj).trans<|F j hj⟩
      .rw[Ce l];exact Le ⟨rfl,k,F⟩
     .rintro c z ⟨rfl,k,F⟩;exact He<|Jg<|He<|Jg<|Le ⟨lo+m,rfl,(k.put (n:=0)).push m1<|g2.congr F,m2,.inl<|by lia⟩
 case post =>
  rintro c z ⟨rfl,e⟩;dsimp only;refine He<|Pf (Hf (I:=λx c z=>c=(none,())/\In κ rk st (arrOf st).size z/\(Se z).size+x<=(arrOf st).size) (Q:=λc z=>c=(none,())/\In κ rk st (arrOf st).size z/\(Se z).size<=1) ?_ ?_ ⟨rfl,e,?_⟩) ?_
  .rintro x c z _ hx ⟨rfl,e,wm⟩;refine He<|Vh ?_;by_cases l:(Se z).size<=1
   .rw[De l];exact Le ⟨rfl,e,l⟩
   .rw[Ce l];refine He<|vN q hS e (V0 _) (by (repeat' split)<;>lia) λz4 C hs4 _=>?_;simp only[MX,Y4,if_false];exact Le ⟨rfl,C,by lia⟩
  .rintro c z ⟨rfl,e,wm⟩;exact⟨rfl,e,by lia⟩
  .have:=e.ch.len;rw[Z0]at this;exact J5<|P9<|i5 this
  .rintro c z ⟨rfl,e,l⟩;refine Le<|h z e.perm e.failed ?_;have hc:=e.ch;have hl:(Se z).toList.length<=1:=by rw[Z0];exact l
   match (Se z).toList,hc,hl with
   |[],hc,_ =>
    have:0=(arrOf st).size:=hc;intro i j _ _ hj
    lia
   |[p],⟨M,h2,h3,Z⟩,_=>have Z:0+p.2.1=(arrOf st).size:=Z;rw[Y6]at Z;rw[Z]at h3;exact h3
end
end SG
namespace L2
open PySem.W
section
variable {w:Xe}{κ:Gg}{vs:List Be}{rk:Be->Nat}
theorem fF{p:Me}(h:p∈(Dl vs).toList):p.1=p.2/\p.2∈vs:=by have h:p∈(vs.toArray.zip vs.toArray).toList:=h;rw[Array.toList_zip]at h;obtain⟨i,hi,e⟩:=P5 h;rw[LQ]at e;subst e;exact⟨rfl,X5 _⟩
theorem lD(C:s.heap.get? a=some (Vg "list" vs.toArray n))(R:vs.length<=sizeLine)(hk:2<=vs.length->∀s':Ge,(∀b o,b≠a->s.heap.get? b=some o->s'.heap.get? b=some o)->∀q:Gg->Ge->Prop,q κ s'->Ie (Ke prog w) A (keyKind' vs.toArray) q E s')(se:∀s':Ge,(∀b o,b≠a->s.heap.get? b=some o->s'.heap.get? b=some o)->∀x y,x∈vs->y∈vs->∀q:Bool->Ge->Prop,q (decide<|rk x<rk y) s'->Ie (Ke prog w) A (keyLt' κ x y) q (λ_ _=>Ln) s')(h:∀F:List Be,F.Perm vs->F.Pairwise (λx y=>rk x<=rk y)->P (.done<|.ret .none) {s with heap:=sortedHeap s.heap a vs F.toArray}):Ie (Ke prog w) A (Builtin.«list.sort» ⟨[.ref a],[]⟩) P E s:=by
 rw[list_sort_plain];have U:a<s.heap.objs.size:=Q0 C;refine Ae<|listItems_at C rfl ?_;refine Ae<|Fm C rfl ?_;obtain⟨G,v⟩:∃G,(s.heap.update a<|Q3 λ_=>#[]).get? a=some (Vg "list" #[] G):=⟨_,get?_update_seq C<|λ_=>#[]⟩;refine Ae<|Ym v rfl ?_;refine Ae<|Ol ?_;refine Ae<|wpAny_newList ?_;refine Ye ?_;have d:(((s.heap.update a<|Q3 λ_=>#[]).push<|Vg "tuple" vs.toArray 0).push<|Vg "list" #[] 0).get? a=some (Vg "list" #[] G):=by rw[v9 _ _ _ (by rw[size_push',MQ];exact J1<|yQ U),v9 _ _ _<|by rw[MQ];exact J1 U];exact v
 have kp:∀b o,b≠a->s.heap.get? b=some o->(((s.heap.update a<|Q3 λ_=>#[]).push<|Vg "tuple" vs.toArray 0).push<|Vg "list" #[] 0).get? b=some o:=λb o hb e=>by refine i0 _<|i0 _ ?_;rw[eQ _ _ _ _ hb];exact e
 show Ie (Ke prog w) A _ P E {s with heap:=((s.heap.update a<|Q3 λ_=>#[]).push<|Vg "tuple" vs.toArray 0).push<|Vg "list" #[] 0};dsimp only;have hsz:vs.toArray.size=vs.length:=by simp
 have k:((Dl vs).map (·.2))=vs.toArray:=by apply Array.toList_inj.mp;rw[R9];show (vs.toArray.zip vs.toArray).toList.map (·.2)=_;simp only[Array.toList_zip];exact List.map_snd_zip<|V0 _
 by_cases t:vs.toArray.size<2
 .rw[De t,De t];refine Ae<|Fe ?_;rw[StateT.run_pure];refine Ae<|Fe ?_;dsimp only;refine Ae<|Ym d rfl ?_;refine Ae<|Fm d rfl ?_ (hsz2:=by rw[Array.size_map];show (Dl vs).size<=_;rw[pairsOf_size];exact K5 R);simp only[bne_self_eq_false,Y4,if_false];have h':=h vs (List.Perm.refl _) (by
    cases vs with
    |nil=>exact .nil
    | cons x l=>cases l with
      |nil=>exact P3 _ _
      |cons y z=>simp at t;exact False.elim<|T2 _<|B0 t<|K1 _ _);rw[<-k]at h';exact Fe h'
 .rw[Ce t,Ce t];have I:2<=vs.length:=A1 t;refine Ae<|hk I _ kp _ ?_;have run:=SG.w_sort (prog:=prog) (w:=w) (A:=A) (E:=E) (κ:=κ) (rk:=λp=>rk p.1) (S:=λp=>p.1∈vs) (st:=SortSt.mk' κ (Dl vs) #[] 7 none)
   (s:={s with heap:=((s.heap.update a<|Q3 λ_=>#[]).push<|Vg "tuple" vs.toArray 0).push<|Vg "list" #[] 0})
   (Q:=λ_ c=>(arrOf c).Perm (Dl vs)/\Xg c=none/\SG.Sg (λp=>rk p.1) (arrOf c) 0 (Dl vs).size)
   (λx y hx hy q L=>se _ kp _ _ hx hy q L) (λp B=>by have:=fF B;show p.1∈vs;rw[this.1];exact this.2) rfl rfl rfl λc p1 p2 p3=>⟨p1,p2,p3⟩;refine Ae<|wpAny_mono run ?_ λ_ _ e=>e;rintro⟨⟨⟩,c⟩ s' ⟨rfl,B,hf,Y⟩;dsimp only at B hf Y ⊢;refine Ae<|Ym d rfl ?_;have Z:=y7.mp B;have m:∀p∈(arrOf c).toList,p.1=p.2:=λp h=>(fF<|Z.mem_iff.mp h).1;have hO:((arrOf c).map (·.2)).toList.Perm vs:=by
   rw[R9];have e:(Dl vs).toList.map (·.2)=vs:=by rw[<-R9,k]
   have:=Z.map (·.2);rw[e]at this;exact this
  have hL:((arrOf c).map (·.2)).toList.length=vs.length:=hO.length_eq;rw[Z0]at hL;refine Ae<|Fm d rfl ?_ (hsz2:=by rw[hL];exact K5 R);rw[hf];simp only[bne_self_eq_false,Y4,if_false];refine Fe ?_;have:=h ((arrOf c).map (·.2)).toList hO (by rw[R9,j6,Q4];intro i j hi M rf;rw[Z0]at hi M;have O:(arrOf c).size=(Dl vs).size:=B.size_eq;have:=Y i j (j4 _) (N1 rf)<|B0 M<|Nat.le_add_left_of_le<|P0 O;rw[SG.KR_at hi,SG.KR_at M]at this;rw[U4,U4,<-m _ (by simp),<-m _ (by simp)];exact this);rw[Array.toArray_toList]at this;exact this
theorem uy(hl:s.heap.IsList l vs.toArray)(j:vs.length<=sizeLine)(t:2<=vs.length->∀s':Ge,(∀b o,s.heap.get? b=some o->s'.heap.get? b=some o)->∀(E:Be->Ge->Prop) (a:Gg->Ge->Prop),a κ s'->Ie (Ke prog w) A.in1.in1 (keyKind' vs.toArray) a E s')(c:∀s':Ge,(∀b o,s.heap.get? b=some o->s'.heap.get? b=some o)->∀x y,x∈vs->y∈vs->∀a:Bool->Ge->Prop,a (decide<|rk x<rk y) s'->Ie (Ke prog w) A.in1.in1 (keyLt' κ x y) a (λ_ _=>Ln) s')(h:∀d:List Be,d.Perm vs->d.Pairwise (λx y=>rk x<=rk y)->Q (.ref<|s.heap.objs.size+1) {s with heap:=sortedAll s.heap vs d.toArray}):Ie (Ke prog w) A (call (.builtin "sorted") [.ref l]) Q E s:=by
 refine Calls.call_function_entry kind_sorted plain_sorted entry_sorted (args_sorted1 _) ?_;unfold Builtin.«sorted»;refine Ae (m:=checkCount "sorted" 1 1 _)<|Fe ?_;refine Ae<|collect_list hl ?_ (hsz:=j);refine Ae<|wpAny_newList ?_ j;have hsz:((s.heap.push<|Vg "list" #[] 0).update s.heap.objs.size (Q3 (·++vs.toArray))).objs.size=s.heap.objs.size+1:=by rw[MQ,size_push']
 have i:(((s.heap.push<|Vg "list" #[] 0).update s.heap.objs.size (Q3 (·++vs.toArray))).push<|Vg "list" vs.toArray 0).get? (s.heap.objs.size+1)=some (Vg "list" vs.toArray 0):=by rw[<-hsz];exact U0 _ rfl
 have keep:∀b o,s.heap.get? b=some o->b≠s.heap.objs.size+1/\(((s.heap.push<|Vg "list" #[] 0).update s.heap.objs.size (Q3 (·++vs.toArray))).push<|Vg "list" vs.toArray 0).get? b=some o:=λb o q=>by have c:b<s.heap.objs.size:=Q0 q;refine⟨J1<|yQ c,?_⟩;rw[v9 _ _ _ (by rw[hsz];exact J1<|yQ c),eQ _ _ _ _<|J1 c,v9 _ _ _<|J1 c];exact q
 show Ie _ _ _ _ _ {s with heap:=((s.heap.push<|Vg "list" #[] 0).update s.heap.objs.size (Q3 (·++vs.toArray))).push<|Vg "list" vs.toArray 0};rw[hsz];refine Ae<|Ye<|Jf slot_list_sort ⟨_,i,rfl⟩ entry_list_sort (lD (κ:=κ) (rk:=rk) i j (λv s' k a q=>t v s' (λb o e=>k b o (keep b o e).1 (keep b o e).2) _ a q)
   (λs' k x y hx hy a q=>c s' (λb o e=>k b o (keep b o e).1 (keep b o e).2) x y hx hy a q) λd o1 o2=>⟨_,rfl,?_⟩)<|args_list_sort _;exact Fe ⟨_,rfl,h d o1 o2⟩
end
end L2
namespace SG
structure Wk{α:Type}(lt:α->α->Bool):Prop where
 irr:∀a,lt a a=false
 tr:∀a b c,lt a b=true->lt b c=true->lt a c=true
 nt:∀a b c,lt a b=false->lt b c=false->lt a c=false
theorem Qj{α:Type}{p q:α->Bool}:∀{l:List α},(∀a∈l,p a=true->q a=true)->l.countP p<=l.countP q
 |[],_=>V0 _
 |a::l,h=>by
  have b:=Qj (l:=l) λx hx=>h x<|G0 _ hx;rw[i7,i7];have:=h a L0;cases c:p a
  .simp;exact x9 b
  .rw[this c];simp;omega
theorem UB{α:Type}{p q:α->Bool}:∀{l:List α},(∀a∈l,p a=true->q a=true)->(∃a∈l,p a=false/\q a=true)->l.countP p<l.countP q
 |[],_,⟨_,h,_⟩=>by simp at h
 |a::l,h,⟨x,hx,b,c⟩=>by
  rw[i7,i7];rcases E1.mp hx with rfl|hx
  .have:=Qj (l:=l) λx hx=>h x<|G0 _ hx;rw[b,c];simp;exact Z3 this
  .have d:=UB (l:=l) (λx hx=>h x<|G0 _ hx) ⟨x,hx,b,c⟩;have:=h a L0;cases e:p a
   .simp;exact Nat.lt_add_right _ d
   .rw[this e];simp;omega
theorem rank(W:Wk lt){l:List α}{x y:α}(hx:x∈l)(hy:y∈l):decide (l.countP (λa=>lt a x)<l.countP (λa=>lt a y))=lt x y:=by
 cases h:lt x y
 .rw[decide_eq_false_iff_not,Nat.not_lt];refine Qj λa _ b=>?_;cases c:lt a x
  .rw[W.nt a x y c h]at b;cases b
  .rfl
 .rw[decide_eq_true_eq];exact UB (λa _ b=>W.tr a x y b h) ⟨x,hx,W.irr x,h⟩
theorem lex_wk:Wk HT.lexLt:=by
 refine⟨λa=>?_,λa=>?_,λa=>?_⟩
 .induction a with
  |nil=>rfl
  |cons x a k=>rw[HT.lexLt_cons,De rfl];exact k
 .induction a with
  |nil =>
   intro b c e d;cases c with
   |nil=>cases b<;>cases d
   |cons z c=>rfl
  |cons x a k =>
   intro b c e d;cases b with
   |nil=>cases e
   |cons y b =>
    cases c with
    |nil=>cases d
    |cons z c =>
     rw[HT.lexLt_cons]at e d ⊢;by_cases j:x=y
     .subst j;rw[De rfl]at e;by_cases i:x=z
      .subst i;rw[De rfl]at d ⊢;exact k b c e d
      .rw[Ce i]at d ⊢;exact d
     .rw[Ce j]at e;have e:=Qe e;by_cases i:y=z
      .subst i;rw[Ce j];exact Je e
      .rw[Ce i]at d;have d:=Qe d;rw[Ce<|Int.ne_of_lt<|Int.lt_trans e d];exact Je<|Int.lt_trans e d
 .induction a with
  |nil =>
   intro b c e d;cases b with
   |nil=>exact d
   |cons y b=>cases e
  |cons x a k =>
   intro b c e d;cases c with
   |nil=>rfl
   |cons z c =>
    cases b with
    |nil=>cases d
    |cons y b =>
     rw[HT.lexLt_cons]at e d ⊢;by_cases j:x=y
     .subst j;rw[De rfl]at e;by_cases i:x=z
      .subst i;rw[De rfl]at d ⊢;exact k b c e d
      .rw[Ce i]at d ⊢;exact d
     .rw[Ce j]at e;have e:=Pg e;by_cases i:y=z
      .subst i;rw[Ce j];exact Ve e
      .rw[Ce i]at d;have d:=Pg d;rw[Ce<|by lia];exact Ve<|Y7<|E2 (UQ.1 d)<|UQ.1 e
theorem lex_eq:∀{a b:Qn},HT.lexLt a b=false->HT.lexLt b a=false->a=b
 |[],[],_,_=>rfl
 |[],_::_,h,_=>by cases h
 |_::_,[],_,h=>by cases h
 |x::a,y::b,c,d=>by
  rw[HT.lexLt_cons]at c d;by_cases e:x=y
  .subst e;rw[De rfl]at c d;rw[lex_eq c d]
  .rw[Ce e]at c;rw[Ce<|λz=>e z.symm]at d;have c:=Pg c;have d:=Pg d
   lia
theorem sorted_uniq{lt:α->α->Bool}(c:∀a b,lt a b=false->lt b a=false->a=b):∀{l m:List α},l.Perm m->l.Pairwise (λa b=>lt b a=false)->m.Pairwise (λa b=>lt b a=false)->l=m
 |[],m,p,_,_=>by rw[List.nil_perm.mp p]
 |x::l,[],p,_,_=>by simp at p
 |x::l,y::m,p,d,i=>by
  have e:x=y:=by
   have hx:x∈y::m:=p.mem_iff.mp L0;have hy:y∈x::l:=p.mem_iff.mpr L0;rcases E1.mp hx with e|hx
   .exact e
   .rcases E1.mp hy with e|hy
    .exact e.symm
    .exact c x y ((v7.mp i).1 x hx) ((v7.mp d).1 y hy)
  subst e;rw[sorted_uniq c (List.perm_cons x |>.mp p) (v7.mp d).2 (v7.mp i).2]
end SG
namespace L2
open PySem.W
section
variable {X:Cx}{α:Type}[Inhabited α]
def TW(K:K0)(e:Hp->Ee->α->Prop)(fn:Hp->V->α)(lt:α->α->Bool):List V->Hp->VK->Prop:=λi H Q=>∃(a:Ee) (us:List V),i=[.ref a]/\SqL K H a us/\us.length<=sizeLine /\
 (∀v∈us,∃c x,v=.ref c/\e H c x)/\∀(p:Ee) (d:List V),H p=none->d.Perm us->(d.map<|fn H).Pairwise (λa b=>lt b a=false)->Q (.ref p) (bJ H p<|.lst d)
theorem vy{us:List V}:∀{a:List Be},a.Perm its->Vals us its->∃b:List V,b.Perm us/\Vals b a:=by
 intro a p;induction p generalizing us with
 |nil=>intro h;exact⟨us,List.Perm.refl _,h⟩
 |cons x _ e =>
  intro h;cases h with
  |cons h t=>obtain⟨b,p,r⟩:=e t;exact⟨_,p.cons _,.cons h r⟩
 |swap x y l =>
  intro h;cases h with
  |cons i t=>cases t with|cons j t=>exact⟨_,List.Perm.swap _ _ _,.cons j<|.cons i t⟩
 |trans _ _ c d=>intro h;obtain⟨B,k,m⟩:=d h;obtain⟨q,v,w⟩:=c m;exact⟨q,v.trans k,w⟩
end
section
variable {X:Cx}{α:Type}[Inhabited α]{xr:Hp->Ee->α->Prop}{fn:Hp->V->α}{lt:α->α->Bool}{κ:Gg}
theorem Rq(h:RelV (.ref c) u):u=.ref c:=h
noncomputable def fW(fn:Hp->V->α)(H:Hp):Be->α
 | .ref c=>fn H<|.ref c
 |_=>default
theorem OH(W:SG.Wk lt)(hf:∀H c a,xr H c a->fn H (.ref c)=a)(cn:∀{de:List (Ee×Obj)}{s:Ge}{σ:St}{H:Hp},Inv X de σ H s->∀its:List Be,2<=its.length->(∀u∈its,∃c x,u=.ref c/\xr H c x)->∀(s':Ge),(∀b o,s.heap.get? b=some o->s'.heap.get? b=some o)->∀(E:Be->Ge->Prop) (l:Gg->Ge->Prop),l κ s'->Ie (Ke X.prog X.w) X.A.in1.in1 (keyKind' its.toArray) l E s')(G:∀{de:List (Ee×Obj)}{s:Ge}{σ:St}{H:Hp},Inv X de σ H s->∀(c d:Ee) (x y:α),xr H c x->xr H d y->∀(s':Ge),(∀b o,s.heap.get? b=some o->s'.heap.get? b=some o)->∀l:Bool->Ge->Prop,l (lt x y) s'->Ie (Ke X.prog X.w) X.A.in1.in1 (keyLt' κ (.ref c)<|.ref d) l (λ_ _=>Ln) s'):YZ X (.builtin "sorted") (TW X.K xr fn lt):=by
 intro de s σ H xs us Q I r h;obtain⟨a,vs,rfl,hs,hz,nh,q⟩:=h;obtain⟨u,rfl,B⟩:=wK r;cases B;obtain⟨its,U,⟨o,n,e,c,d1,d2⟩,hz'⟩:=I.list hs;have hl:=U.length;have C:∀u∈its,∃c x,u=.ref c/\xr H c x:=λu t=>by obtain⟨i,hi,rfl⟩:=P5 t;have hi2:i<vs.length:=B0 hi<|P0 hl.symm;obtain⟨c,x,Y,hr⟩:=nh _<|X5 hi2;obtain⟨u,t,B⟩:=U.get<|J0 hi2;rw[Y]at B;rw[J0 hi]at t;have:its[i]=u:=E3 t;rw[this];exact⟨c,x,Rq B,hr⟩
 have key:∀x∈its,∀y∈its,decide ((its.map<|fW fn H).countP (λa=>lt a<|fW fn H x)<(its.map<|fW fn H).countP (λa=>lt a<|fW fn H y))=lt (fW fn H x) (fW fn H y):=λx hx y hy=>SG.rank W (U7 hx)<|U7 hy;refine uy (κ:=κ) (rk:=λv=>(its.map<|fW fn H).countP<|λa=>lt a<|fW fn H v) (vs:=its) ⟨o,e,c,n,by first|exact d2|exact d1⟩ (by lia) (λh2 s' k E' l L=>?_) (λs' k x y hx hy l L=>?_)<|λF o1 o2=>?_
 .exact cn I its h2 C s' k E' l L
 .rw[key x hx y hy]at L;obtain⟨c,Z,rfl,gn⟩:=C x hx;obtain⟨d,y',rfl,M⟩:=C y hy;refine G I c d Z y' gn M s' k l ?_;have e1:fW fn H (.ref c)=Z:=hf H c Z gn;have e2:fW fn H (.ref d)=y':=hf H d y' M;rw[e1,e2]at L;exact L
 .obtain⟨ep,he⟩:=sortedAll_at s.heap its F.toArray;have hn:H (s.heap.objs.size+1)=none:=I.hok.fresh<|n8 _;obtain⟨P,p',r'⟩:=vy o1 U;refine⟨.ref<|s.heap.objs.size+1,bJ H (s.heap.objs.size+1)<|.lst P,I.laid (t':=s.toks) (λb u e=>sortedAll_old e) (n8 _) ?_,rfl,q _ P hn p' ?_⟩
  .exact⟨by rw[p'.length_eq];exact hz,F,ep,r',by rw[he]⟩
  .rw[j6,Q4];intro i j hi hj rf;have R:=r'.length;have o3:=Q4.mp o2 i j (B0 hi<|P0 R) (lt_of_lt_of_eq hj R) rf;have hxm:F[i]'(by lia)∈its:=o1.mem_iff.mp<|X5 _;have hym:F[j]'(by lia)∈its:=o1.mem_iff.mp<|X5 _;have k2:=key _ hym _ hxm;rw[Ve<|Nat.not_lt.mpr o3]at k2;have ev:∀(m:Nat) (O:m<P.length),fn H P[m]=fW fn H (F[m]'(B0 O<|P0 R)):=λm O=>by
    obtain⟨c,x,Y,hr⟩:=nh _<|p'.mem_iff.mp<|X5 O;obtain⟨u,t,B⟩:=r'.get<|J0 O;rw[J0<|lt_of_lt_of_eq O R]at t;have t:F[m]'(by lia)=u:=E3 t;rw[Y]at B ⊢;rw[t,Rq B];rfl
   rw[ev i hi,ev j hj];exact k2.symm
end
section
variable {w:Xe}
theorem OL(b:Bool){n m:Int}{t u:Tok}{Q:Bool->Ge->Prop}{E:Be->Ge->Prop}(h:Q (decide<|n<m) s):Ie (Ke prog w) A (oneLt' b (.int n t)<|.int m u) Q E s:=by
 cases b with
 |true=>exact oneLt_int h
 |false=>exact kat_one _ _<|lt_int h
theorem Tq{b:Bool}{Q:Bool->Ge->Prop}:∀{ns c:Qn}{a ys:List Be} (i:Nat),Ag a ns->Ag ys c->Q (HT.lexLt ns c) s->KatLex prog w A b (decide<|a.length<ys.length) Q (a.zip ys) i s
 |_,_,_,_,i,.nil,.nil,h=>h
 |_,_,_,_,i,.nil,.cons m u r,h=>h
 |_,_,_,_,i,.cons n t r,.nil,h=>h
 |_,_,_,_,i,.cons (vs:=a) (ns:=ns) n t r,.cons (vs:=ys) (ns:=c) m u d,h=>by
  have e:decide ((iQ n t::a).length<(iQ m u::ys).length)=decide (a.length<ys.length):=by simp
  rw[e];rw[HT.lexLt_cons]at h;show KatLex prog w A b _ Q ((iQ n t,iQ m u)::a.zip ys) i s;refine kat_cons<|SeqAt.EqAt.int_int n t m u _ _ _ _ ?_;refine kat_go (λq=>kat_yes ?_)<|λq=>kat_no ?_
  .rw[De<|by simpa using q]at h;exact Tq (i+1) r d h
  .rw[Ce<|by simpa using q]at h;exact OL _ h
end
def wy(H:Hp)(c:Ee)(r:Qn):Prop:=H c=some (.tup<|r.map V.int)/\r≠[]
noncomputable def RD(H:Hp):V->Qn
 | .ref c=>match H c with
  |some (.tup a)=>a.map AA
  |_=>[]
 |_=>[]
theorem mD(H:Hp)(c:Ee)(r:Qn)(h:wy H c r):RD H (.ref c)=r:=by show (match H c with|some (.tup a)=>a.map AA|_=>[])=r;rw[h.1];exact cW r
theorem Rj:YZ X (.builtin "sorted") (TW X.K wy RD HT.lexLt):=by
 refine OH (κ:=tuples' true) SG.lex_wk mD (λ{de s σ H} I its h2 i s' k E' F j=>?_)<|λ{de s σ H} I c d x y hx hy s' k F j=>?_
 .have q:∀(l:List Be),(∀v∈l,∃(c:Ee) (r:Qn),v=.ref c/\wy H c r)->∃fs:List Be,KatTups s'.heap l fs/\fs.length=l.length/\∀v∈fs,Looks (Ke X.prog X.w) s'.heap (Gm v) (.type "int"):=by
   intro l;induction l with
   |nil=>intro _;exact⟨[],.nil,rfl,λv a=>by simp at a⟩
   |cons v l L =>
    intro hl;obtain⟨fs,B,G,C⟩:=L λx hx=>hl x<|G0 _ hx;obtain⟨c,r,rfl,M,O⟩:=hl v L0;obtain⟨_,P,e,ob,R,U,m,Y,_⟩:=(show ObjOk X.prog X.w H s.heap c (.tup<|r.map V.int) from I.hok c _ M);cases r with
    |nil=>exact absurd rfl O
    |cons n r =>
     rw[Y0]at e;cases e with
     |cons Z e =>
      obtain⟨t,rfl⟩:=Z;refine⟨.int n t::fs,.cons (k _ _ R) U Y rfl B,by simp[G],λv a=>?_⟩;rcases E1.mp a with rfl|a
      .exact Looks.of_pure rfl
      .exact C v a
  obtain⟨fs,B,G,C⟩:=q its i;exact kat_kind (T:=.type "int") B (by lia) C (by decide) j
 .obtain⟨_,ic,e,oc,c1,c2,m1,c3,_⟩:=(show ObjOk X.prog X.w H s.heap c (.tup<|x.map V.int) from I.hok c _ hx.1);obtain⟨_,id',rd,od,d1,d2,m2,d3,_⟩:=(show ObjOk X.prog X.w H s.heap d (.tup<|y.map V.int) from I.hok d _ hy.1);refine kat_lt (k _ _ c1) c3 (k _ _ d1) d3 ?_;have:=Tq (prog:=X.prog) (w:=X.w) (A:=X.A.in1.in1) (s:=s') (b:=true) (Q:=F) 0 (JZ e) (JZ rd) j;simpa using this
end L2
namespace L3
open L2
noncomputable def rR:D->(Sl->Prop)->Prop
 | .list e,Q=>∃d:List Qn,e=d.map (λr=>.tuple<|r.map q0)/\d.length<=sizeLine/\(∀r∈d,r≠[])/\∀c:List Qn,c.Perm d->c.Pairwise (λa b=>HT.lexLt b a=false)->Q (.ow<|.list<|c.map λr=>.tuple<|r.map q0)
 |_,_=>Ln
theorem DaAll.mem{K:Fg}{us:List V}(h:DaAll K F us b):∀v∈us,∃d∈b,Da K F v d:=by
 induction h using DaAll.ind with
 |h0=>intro v h;cases h
 |h1 a t c =>
  intro v h;rcases E1.mp h with rfl|h
  .exact⟨_,L0,a⟩
  .obtain⟨d,h1,e⟩:=c v h;exact⟨d,G0 _ h1,e⟩
theorem DaAll.map_of{K:Fg}{F:Hp}{f:V->D}:∀{us:List V},(∀v∈us,Da K F v<|f v)->DaAll K F us (us.map f)
 |[],_=>.nil
 |v::us,h=>.cons (h v L0)<|DaAll.map_of λx hx=>h x<|G0 _ hx
theorem DaAll.map_eq{K:Fg}{F:Hp}{g:α->D}{f:V->α}(b:∀v a,Da K F v (g a)->f v=a):∀{us:List V}{as:List α},DaAll K F us (as.map g)->us.map f=as
 |[],[],_=>rfl
 |_::_,[],h=>by cases h
 |[],_::_,h=>by cases h
 |v::us,a::as,h=>by
  cases h with
  |cons h t=>rw[Y0,b v a h,DaAll.map_eq b t]
theorem CY{K:Fg}{r:Qn}(h:Da K F v (.tuple<|r.map q0)):∃c,v=.ref c/\F c=some (.tup<|r.map V.int):=by
 cases h with
 |tup h t=>have:=t.ints_of;subst this;exact⟨_,rfl,h⟩
theorem PH{K:Fg}:RZ K (TW K wy RD HT.lexLt) (o1 rR):=Bq λG F σ H ρ x d Q Qd R L w k=>by
 cases d<;>first|exact w.elim|skip
 case list ds =>
  obtain⟨B,e,M,O,w⟩:=w;subst e;obtain⟨a,us,rfl,P,m⟩:=L.list R.sub;have hl:=m.length;rw[g0]at hl;have q:∀v∈us,∃c r,v=.ref c/\wy F c r/\r∈B:=λv i=>by obtain⟨d,hd,U⟩:=m.mem v i;obtain⟨r,C,rfl⟩:=M0.mp hd;obtain⟨c,rfl,b⟩:=CY U;exact⟨c,r,rfl,⟨b,O r C⟩,C⟩
  have t:∀v∈us,RD H v=RD F v:=λv i=>by obtain⟨c,r,rfl,b,_⟩:=q v i;rw[mD F c r b,mD H c r ⟨R.sub _ _ b.1,b.2⟩]
  refine⟨a,us,rfl,SqL.of P,le_of_eq_of_le hl M,λv i=>?_,λp j Y y I=>?_⟩
  .obtain⟨c,r,rfl,b,_⟩:=q v i;exact⟨c,r,rfl,R.sub _ _ b.1,b.2⟩
  .have Z:us.map (RD F)=B:=by
    refine DaAll.map_eq (K:=K) (F:=F) (g:=λr:Qn=>O1<|r.map q0) (λv a h=>?_) m;obtain⟨c,rfl,b⟩:=CY h;show (match F c with|some (.tup xs)=>xs.map AA|_=>[])=a;rw[b];exact cW a
   have ee:j.map (RD H)=j.map (RD F):=U1 λv i=>t v<|y.mem_iff.mp i;rw[ee]at I;have l:DaAll K F j ((j.map<|RD F).map λr=>O1<|r.map q0):=by rw[O0];refine DaAll.map_of λv i=>?_;obtain⟨c,r,rfl,b,_⟩:=q v<|y.mem_iff.mp i;show Da K F (.ref c) (.tuple<|(RD F<|.ref c).map q0);rw[mD F c r b];exact .tup b.1<|DaAll.ints r
   obtain⟨R',r'⟩:=R.newOw (o:=.lst j) (d:=.list _) Y l;exact k _ _ F _ (Sub.refl _) R' r'<|w _ (by rw[<-Z];exact y.map _) I
theorem gW{K:Fg}(h:X.K=K):YZ X (.builtin "sorted") (TW K wy RD HT.lexLt):=by subst h;exact Rj
noncomputable def frz(ρ:Ev):Ev:=ρ.map λx=>x.map λs=>Sl.fz s.d
theorem vW{i:Nat}(h:(frz ρ)[i]?=some (some t)):∃s,ρ[i]?=some (some s)/\t=.fz s.d:=by
 unfold frz at h;rw[S1,o6]at h;obtain⟨x,b,a⟩:=h;cases x with
 |none=>cases a
 |some s=>cases a;exact⟨s,b,rfl⟩
theorem At.da{K:Fg}(s:Sub F H)(h:At K F H v d):Da K H v d:=by
 rcases h with h|⟨a,o,rfl,_,b,c⟩
 .exact h.mono s
 .exact(c.mono s).da b
section
variable {K:Fg}{G:Gh}{F:Hp}{σ:L2.St}{a:Ee}{o:HO}{d:D}{v:V}
theorem Rel.all(R:Rel K G F σ H ρ):Rel K ⟨H,H,λ_=>none⟩ H σ H (frz ρ) where
 len:=by rw[frz,g0];exact R.len
 sub:=Sub.refl _
 sub0:=Sub.refl _
 fn:=λ_ _ e=>.inl e
 keep:=λ_ _ e _=>e
 fz:=λi d e=>by obtain⟨s,c,b⟩:=vW e;cases b;obtain⟨v,k⟩:=R.bound c;exact⟨v,k,(R.at c k).da R.sub⟩
 ow:=λi s e w=>by obtain⟨s',_,rfl⟩:=vW e;cases w
 new:=λi d a e _=>by obtain⟨s',_,b⟩:=vW e;cases b
 io:=λi a e=>by cases e
 ioi:=λi d e=>by obtain⟨s',_,b⟩:=vW e;cases b
 ap:=λi j s t a e w=>by obtain⟨s',_,rfl⟩:=vW e;cases w
theorem Rel.more(R:Rel K G F σ H ρ)(s:Sub H H'):Rel K G F σ H' ρ:=R.turn (Sub.refl F) (λ_ _ e=>.inl e) (R.sub.trans s) s
theorem Rel.scrap(R:Rel K G F σ H ρ)(j:F a=none)(k:G.H0 a=none)(l:∀(i:Nat) (s:Sl),ρ[i]?=some (some s)->WZ s=true->σ[i]?≠some (some<|V.ref a)):Rel K G F σ (bJ H a o) ρ where
 len:=R.len
 sub:=λb u e=>by
  have:b≠a:=λz=>by subst z;rw[j]at e;cases e
  rw[pZ this];exact R.sub b u e
 sub0:=R.sub0
 fn:=R.fn
 keep:=λb u e n=>by
  have:b≠a:=λz=>by subst z;rw[k]at e;cases e
  rw[pZ this];exact R.keep b u e n
 fz:=R.fz
 ow:=λi s e w=>by obtain⟨b,u,c,g2,m,q⟩:=R.ow i s e w;have:b≠a:=λz=>l i s e w (by rw[c,z]);exact⟨b,u,c,g2,by rw[pZ this];exact m,q⟩
 new:=R.new
 io:=R.io
 ioi:=R.ioi
 ap:=R.ap
theorem Rel.nobody(R:Rel K G F σ H ρ)(h:H a=none):∀(i:Nat) (s:Sl),ρ[i]?=some (some s)->WZ s=true->σ[i]?≠some (some<|V.ref a):=λi s e w z=>by obtain⟨b,u,c,g2,j,k⟩:=R.ow i s e w;rw[z]at c;cases c;rw[h]at j;cases j
theorem Rel.blank(R:Rel K G F σ H ρ){i:Nat}(hi:ZV ρ i):Rel K G F (σ.set i<|some v) H (ρ.set i none):=by
 have C:∀d,ρ[i]?≠some (some<|Sl.io d):=λd e=>by unfold ZV at hi;rw[e]at hi;exact hi
 have c:=R.drop C;have no:∀{j:Nat}{s:Sl},(ρ.set i none)[j]?=some (some s)->j≠i:=λ{j s} e z=>by
  subst z;rcases sZ e with⟨_,q⟩|⟨n,_⟩
  .cases q
  .exact n rfl
 refine⟨by rw[A6];exact c.len,c.sub,c.sub0,c.fn,c.keep,λj d e=>?_,λj t e I=>?_,λj d b e m=>?_,λj b e=>?_,c.ioi,λj k t u b w L x M y B=>?_⟩
 .obtain⟨O,P,U⟩:=c.fz j d e;exact⟨O,by rw[P1<|G3<|no e];exact P,U⟩
 .obtain⟨b,u,l,g2,Y,Z⟩:=c.ow j t e I;exact⟨b,u,by rw[P1<|G3<|no e];exact l,g2,Y,Z⟩
 .rw[P1<|G3<|no e]at m;exact c.new j d b e m
 .obtain⟨d,l,g2⟩:=c.io j b e;exact⟨d,l,by rw[P1<|G3<|no l];exact g2⟩
 .rw[P1<|G3<|no w]at y;rw[P1<|G3<|no x]at B;exact c.ap j k t u b w L x M y B
end
noncomputable def only(a:Ee)(o:HO):Hp:=λb=>if b=a then some o else none
theorem iU{K:Fg}{ns:Qn}(h:DaAll K F xs (ns.map q0)):xs=ns.map V.int/\DaAll K F' xs (ns.map q0):=by have e:=h.intsV;subst e;exact⟨rfl,DaAll.ints ns⟩
section
variable {K:Fg}{ec:We}{p p1 p2 p3 p4 p5 p6 p7 p8 p9 pa pb pc pd pe pf pg ph pi' pj:Pos}{x y a b:Str}{tc:MW}
end
end L3
namespace L2
theorem PL(l:Ee)(items:Kn Be)(n:Nat)(b:Ee)(a:Kn Be)(c:Nat)(sl:Kn (Jn Be))(k:¬(!items.isEmpty&&S5 (items.size+a.size))=true)(e:items.size<=sizeLine)(i:items.size+a.size<=sizeLine+1):Meets (Builtin.«list.extend» ⟨[.ref l,.ref b],[]⟩) (λ_ R s=>s.heap.get? l=some {cls:=.type "list",dict:=none,data:=.seq items n,slots:=#[]}/\s.heap.get? b=some {cls:=.type "tuple",dict:=none,data:=.seq a c,slots:=sl}/\R (.ok<|.ret S7) {s with heap:=s.heap.update l<|Q3 λx=>x++a}):=.of_wp λprog w A R s h=>by
 obtain⟨m,g,d,q,os⟩:=s;obtain⟨hl,j,h⟩:=h;have t:=AutoSeq1.idx_int;have v:=AutoSeq1.sub_tuple_tuple;have y:=AutoSeq1.sub_list_list;have B:=AutoSeq1.sub_tuple_list;have C:=AutoSeq1.sub_list_tuple;have hz:(items++a).size<=sizeLine+1:=by rw[Array.size_append];exact i
 wp_walk using (Rg hl rfl (hz:=e) (_hz':=hz)),Tg hl,Tg j
 exact⟨_,rfl,h⟩
def Uq:V->List V->Hp->VK->Prop:=λx d H Q=>∃l b a c,x=.ref l/\d=[.ref b]/\H l=some (.lst a)/\H b=some (.tup c)/\a.length+c.length<=sizeLine/\Q .non (bJ H l<|.lst<|a++c)
theorem Sj:xS X "list.extend" Uq:=by
 intro de s σ H x U v us Q I t y h;obtain⟨l,b,Y,B,rfl,rfl,d,hB,Z,q⟩:=h;cases t;obtain⟨u,rfl,C⟩:=y.one;cases C;obtain⟨z,its,n,r,hl,e⟩:=I.lstM d;obtain⟨_,c,i,G,L,j,M,k,m⟩:=(show ObjOk X.prog X.w H s.heap b (.tup B) from I.hok b _ hB);obtain⟨oc,od,O,P⟩:=G;simp only at j k m;subst j k m;have af:=i.length;have a:its.toArray.size+c.toArray.size<=sizeLine:=by rw[S0,S0];lia
 have R:¬(!its.toArray.isEmpty&&S5 (its.toArray.size+c.toArray.size))=true:=by rw[bH a,uX];exact X1
 refine Ng F.slot_list_extend ⟨_,e,rfl⟩ F.entry_list_extend (F.args_list_extend_2 _ _) (PL l its.toArray n b c.toArray M P R (by rw[S0];exact A0 (P0 hl.symm) z)<|K5 a) ⟨e,L,?_⟩;refine⟨.non,_,I.lset (its':=its++c) d e (by simp) (r.append i) ?_,rfl,q⟩;rw[R0];omega
end L2
namespace L3
open L2
noncomputable def VB:List D->List D->(D->D->Prop)->Prop
 |a,[.tuple ys],k=>a.length+ys.length<=sizeLine/\k (.list<|a++ys) .none
 |_,_,_=>Ln
theorem Tj{K:Fg}:KE K Uq VB:=by
 intro F H a b j v c Q k s e i l w q;rcases c with _|⟨d,_|⟨x,c⟩⟩<;>first|exact w.elim|skip
 .cases d<;>first|exact w.elim|skip
  cases l with
  |cons h t =>
   cases t;cases h with
   |tup m t=>exact⟨a,_,b,_,rfl,rfl,e,s _ _ m,by rw[i.length,t.length];exact w.1,q _ (.lst<|b++_) (.list<|j++_) _ (i.append t) .non w.2⟩
 .cases d<;>exact w.elim
theorem FJ{u:IY}{E:DE}(J:Ev->Prop)(b:∀N:Ev->Prop,(∀a,J a->N a)->t {nx:=N,rt:=E.rt,bk:=E.bk,ct:=E.ct} ρ)(c:∀a,J a->u E a):Rv t u E ρ:=b _ c
theorem Bb{Q:Ev->Prop}(h:aB i d ρ Q=Q (ρ.set i<|some<|.fz d))(w:Q (ρ.set i<|some<|.fz d)):aB i d ρ Q:=by rw[h];exact w
end L3
namespace HT
section
open PySem.SeqAt
open PySem.AutoSeq1 (wpAny_loadPart')
open PySem.MeetsSeq PySem.MeetsSeq2 PySem.MeetsSeq3
variable {w:Xe}
theorem whole_tup{lo hi:Jn Int}(a:Jm s.heap t items)(c:s.heap.IsSliceOf sl vl vu .none)(d:Bl vl lo)(e:Bl vu hi)(i:sIx items.size 0 lo=0) (j:sIx items.size items.size hi=items.size) (q:Q (.ref t) s):Ie (Ke prog w) A (Xh (.ref t)<|.ref sl) Q E s:=by
 obtain⟨os,k,g2,v⟩:=id c;have l:s.TypeIs (.ref sl) "slice":=⟨os,k,g2⟩;unfold Xh;try with_reducible refine Ye ?_
 first|refine Ae (Fe ?_)|skip
 refine Ae<|wpAny_sequenceKey a.typeIs (by decide) ?_;refine Ae<|Af (name:=Str.ofString "__getitem__") a.typeIs B6<|Jf B6 a.typeIs Yl ?_<|args_tuple_getitem _ _;show Ie _ _ (mQ (.ref t) >>= _) _ _ s;refine Ae<|tupleItemsOf_ a<|Ae<|Jh l ?_;rw[De<|by decide];refine Ae<|fY c d e ?_;have b:((((sIx items.size 0 lo:Nat):Int)==0&&(1:Int)==1&&(sIx items.size items.size hi-sIx items.size 0 lo)==items.size)=true):=by rw[i,j];simp
 show Ie _ _ (if (((sIx items.size 0 lo:Nat):Int)==0&&(1:Int)==1&&(sIx items.size items.size hi-sIx items.size 0 lo)==items.size)=true then _ else _) _ _ s;rw[De b];refine Ae (m:=Builtin.Tuple.tupleIsExact _)<|Ae<|Jh a.typeIs<|Fe ?_;rw[De<|by decide];exact Ae<|Yf<|Fe ⟨_,rfl,Fe q⟩
end
end HT
namespace L2
def VA(K:K0):V->Jn Int->Jn Int->Hp->VK->Prop:=λx lo hi H Q=>∃a b,x=.ref a/\SqT K H a b /\
 (aH b lo hi=b->Q (.ref a) H)/\∀p,H p=none->Q (.ref p) (bJ H p<|.tup<|aH b lo hi)
theorem QL:ya X (VA X.K):=by
 intro de s σ H x v k l lo hi sl Q I c d e i h;obtain⟨a,b,rfl,hx,m,q⟩:=h;by_cases z:HT.sIx b.length 0 lo=0/\HT.sIx b.length b.length hi=b.length
 .cases c;obtain⟨its,r,j,t⟩:=I.tuple hx;have hl:its.toArray.size=b.length:=by rw[S0];exact r.length.symm
  refine⟨"tuple",_,B6.lookup,j.typeIs,HT.whole_tup j d e i (by rw[hl];exact z.1) (by rw[hl];exact z.2) ⟨.ref a,H,I,rfl,m ?_⟩⟩;unfold aH;rw[z.1,z.2];simp
 .exact nu de s σ H (.ref a) v k l lo hi sl Q I c d e i ⟨a,b,rfl,hx,z,q⟩
theorem Uk(a:List V){i j:Int}(hi:0<=i)(e:0<=j):aH a (some i) (some j)=(a.take j.toNat).drop i.toNat:=by
 unfold aH;have b:HT.sIx a.length 0 (some i)=min i.toNat a.length:=by show (if i<0 then (i+(a.length:Int)).toNat else min i.toNat a.length)=_;rw[Ce<|by omega]
 have c:HT.sIx a.length a.length (some j)=min j.toNat a.length:=by show (if j<0 then (j+(a.length:Int)).toNat else min j.toNat a.length)=_;rw[Ce<|by omega]
 rw[b,c,List.drop_take];by_cases h:i.toNat<=a.length
 .rw[o5 h];by_cases d:j.toNat<=a.length
  .rw[o5 d]
  .rw[J8<|by omega,V4 (by rw[M5];omega),V4<|by rw[M5];omega]
 .rw[t6<|by omega,t6<|by omega];simp
end L2
namespace L3
open L2
def XA(a b c:AD)(f:D->Int->Int->(Sl->Prop)->Prop):TD:=λρ Q=>MJ [a,b] ρ λl e=>UZ e l λm=>match m with
 |[_,.int i]=>MJ [c] e λq k=>UZ k (l.take 1++q) λt=>match t with
  |[d,.int j]=>f d i j λr=>Q r k
  |_=>Ln
 |_=>Ln
def YA(K:Fg)(r:V->Jn Int->Jn Int->Hp->VK->Prop)(f:D->Int->Int->(Sl->Prop)->Prop):Prop :=
 ∀(G:Gh) (F:Hp) (σ:L2.St) (H:Hp) (ρ:Ev) (x:V) (i j:Int) (d:D) (Q:VK) (b:Sl->Prop),Rel K G F σ H ρ->At K F H x d->f d i j b ->
  (∀v H' a s,Sub F a->Rel K G a σ H' ρ->Res K G a H' σ ρ v s->b s->Q v H')->r x (some i) (some j) H Q
theorem f'{K:Fg}{r:V->Jn Int->Jn Int->Hp->VK->Prop}{f:D->Int->Int->(Sl->Prop)->Prop}(ok:YA K r f){σ:L2.St}{H:Hp}{Q:VK}(h:lift K (XA a b c f) σ H Q):wc r (mZ K a) (lu<|mZ K b) (lu<|mZ K c) σ H Q:=by
 obtain⟨G,F,ρ,Qd,R,w,k⟩:=h;have e:vZ ([a,b].map (mZ K)) σ H λl B=>∃x y,l=[x,y]/\∃i,y=.int i/\mZ K c σ B λz C=>∃j,z=.int j/\r x (some i) (some j) C Q:=by
  refine uJ R w λl H' F' xs O P L o m=>?_;obtain⟨ds,U,m⟩:=fK L o m;split at m
  .rename_i dx i;obtain⟨v,u,rfl,h1,Y⟩:=U.two;cases Y.int;refine⟨_,_,rfl,i,rfl,?_⟩;refine nq<|uJ (as:=[c]) (Qv:=λl Z=>∃z,l=[z]/\∃j,z=.int j/\r v (some i) (some j) Z Q) L m λl B F2 ys q M R2 o2 t=>?_;cases o with|cons p1 t1=>?_
   cases t1 with|cons p2 t2=>?_
   cases t2;obtain⟨es,hb,t⟩:=fK R2 (OpdsAt.cons (p1.mono M) o2) t;split at t
   .rename_i d j;cases hb with|cons q1 t3=>?_
    obtain⟨v3,rfl,h3⟩:=t3.one;cases h3.int;exact⟨_,rfl,j,rfl,ok G F2 σ B q v i j d Q _ R2 q1 t λv' C F3 s3 I R3 r3 q3=>k v' C F3 s3 q (P.trans<|M.trans I) R3 r3 q3⟩
   .exact t.elim
  .exact m.elim
 exact Vu e
noncomputable def wN:D->Int->Int->(Sl->Prop)->Prop
 | .tuple a,i,j,Q=>0<=i/\0<=j/\Q (.fz<|.tuple<|(a.take j.toNat).drop i.toNat)
 |_,_,_,_=>Ln
theorem RL{K:Fg}:YA K (VA K) wN:=λG F σ H ρ x i j d Q I R l w k=>by
 cases d<;>first|exact w.elim|skip
 rename_i L;obtain⟨c,e,w⟩:=w;obtain⟨a,us,rfl,m,q,t⟩:=l.tuple R.sub;have b:=(t.take j.toNat).drop i.toNat;refine⟨a,us,rfl,SqT.of q,λz=>?_,λp v=>?_⟩
 .rw[Uk us c e]at z;refine k _ H F (.fz _) (Sub.refl _) R (Da.tup m ?_) w;rw[z]at b;exact b
 .rw[Uk us c e];obtain⟨y,B,C⟩:=R.newTup v b;exact k _ _ _ (.fz _) y B C w
section
variable {K:Fg}{e1 e2 e3:We}{a b c:AD}{p pos p2 wf bf:Pos}{x:Str}
theorem sR(d:X.K=K)(e:WE X e1 (mZ K a))(i:WE X e2 (mZ K b))(j:WE X e3 (mZ K c)):WE X (.Subscript e1 (.Slice (some e2) (some e3) none p2) pos) (lift K<|XA a b c wN):=by subst d;exact⟨nG (bq QL e.h (IF i.h)<|IF j.h) λq=>f' RL q⟩
end
theorem WB(nx:ZV ρ x):ZV (frz ρ) x:=by
 unfold ZV;cases e:(frz ρ)[x]? with
 |none=>unfold ZV at nx;unfold frz at e;rw[S1,Option.map_eq_none_iff]at e;rw[e]at nx;exact nx
 |some y =>
  cases y with
  |none=>trivial
  |some s=>obtain⟨s',_,rfl⟩:=vW e;trivial
section
variable {K:Fg}{ec:We}{p p1 p2 p3 p4 p5 p6 p7 p8 p9 pa pb pc pd pe pf pg ph pi' pj pk pl:Pos}{x y a b c:Str}{tc:MW}
end
section
variable {K:Fg}{e e1:We}{a:AD}{p p2 pos ze:Pos}
end
end L3
namespace L2
open PySem.W
noncomputable abbrev lY:=Qn×Qn
noncomputable def JY(x y:lY):Bool:=if x.1=y.1 then HT.lexLt x.2 y.2 else HT.lexLt x.1 y.1
theorem ltB_wk:SG.Wk JY:=by
 have W:=SG.lex_wk;refine⟨λa=>?_,λa b c i d=>?_,λa b c i d=>?_⟩
 .unfold JY;rw[De rfl];exact W.irr _
 .unfold JY at i d ⊢;by_cases j:a.1=b.1
  .rw[De j]at i;by_cases e:b.1=c.1
   .rw[De e]at d;rw[De<|j.trans e];exact W.tr _ _ _ i d
   .rw[Ce e]at d;rw[Ce (by rw[j];exact e),j];exact d
  .rw[Ce j]at i;by_cases e:b.1=c.1
   .rw[Ce (by rw[<-e];exact j),<-e];exact i
   .rw[Ce e]at d;have k:=W.tr _ _ _ i d;rw[Ce<|λz=>by rw[z,W.irr]at k;cases k];exact k
 .unfold JY at i d ⊢;by_cases j:a.1=b.1
  .rw[De j]at i;by_cases e:b.1=c.1
   .rw[De e]at d;rw[De<|j.trans e];exact W.nt _ _ _ i d
   .rw[Ce e]at d;rw[Ce (by rw[j];exact e),j];exact d
  .rw[Ce j]at i;by_cases e:b.1=c.1
   .rw[Ce (by rw[<-e];exact j),<-e];exact i
   .rw[Ce e]at d;have k:=W.nt _ _ _ i d;by_cases l:a.1=c.1
    .exfalso;rw[<-l]at d;exact j<|SG.lex_eq i d
    .rw[Ce l];exact k
theorem XB(c:JY a b=false)(d:JY b a=false):a=b:=by
 unfold JY at c d;by_cases e:a.1=b.1
 .rw[De e]at c;rw[De e.symm]at d;have:=SG.lex_eq c d;cases a;cases b;cases e;cases this;rfl
 .rw[Ce e]at c;rw[Ce<|λz=>e z.symm]at d;exact absurd (SG.lex_eq c d) e
def DY(H:Hp)(c:Ee)(x:lY):Prop:=∃a b,H c=some (.tup [.ref a,.ref b])/\H a=some (.tup<|x.1.map V.int)/\H b=some (.tup<|x.2.map V.int)
noncomputable def YB(H:Hp):V->lY
 | .ref c=>match H c with
  |some (.tup [x,y])=>(RD H x,RD H y)
  |_=>([],[])
 |_=>([],[])
theorem ZB{r:Qn}(h:H c=some (.tup<|r.map V.int)):RD H (.ref c)=r:=by show (match H c with|some (.tup a)=>a.map AA|_=>[])=r;rw[h];exact cW r
theorem UW(H:Hp)(c:Ee)(x:lY)(h:DY H c x):YB H (.ref c)=x:=by obtain⟨a,b,d,e,i⟩:=h;show (match H c with|some (.tup [x,y])=>(RD H x,RD H y)|_=>([],[]))=x;rw[d];show (RD H<|.ref a,RD H<|.ref b)=x;rw[ZB e,ZB i]
theorem jU{y:Qn}(I:Inv X de σ H s)(L:A.units<Mf)(d:H a=some (.tup<|x.map V.int))(c:H b=some (.tup<|y.map V.int)){s':Ge}(k:∀b o,s.heap.get? b=some o->s'.heap.get? b=some o):SeqAt.EqAt A s' (.ref a) (.ref b) (decide<|x=y):=by
 by_cases e:a=b
 .subst e;rw[d]at c;injection c with c;injection c with c;rw[PB c,Je rfl];exact SeqAt.EqAt.same _
 .have i:Inv X de σ H {s with heap:=s'.heap}:=I.kept (t':=s.toks) k;obtain⟨_,l,m,M⟩:=(show ObjOk X.prog X.w H s'.heap a (.tup<|x.map V.int) from i.hok a _ d);obtain⟨_,q,v,O⟩:=(show ObjOk X.prog X.w H s'.heap b (.tup<|y.map V.int) from i.hok b _ c);have B:=m.length;have C:=v.length;rw[g0]at B C;have h:=SeqAt.RcAt.tuples (A:=A) (s:=s') (e:=λk=>x.getD k 0==y.getD k 0) M.t O.t L λj P R=>by
   obtain⟨t1,U⟩:=sU m (k:=j) (by simpa using P);obtain⟨t2,Y⟩:=sU v (k:=j) (by simpa using R);simp only[List.getElem_toArray];rw[U,Y];exact SeqAt.EqAt.int_int _ _ _ _
  have Z:((G2<|min l.toArray.size q.toArray.size).all (λk=>x.getD k 0==y.getD k 0)&&l.toArray.size==q.toArray.size)=decide (x=y):=by
   simp only[S0,<-B,<-C];by_cases z:x=y
   .subst z;rw[Je rfl];simp
   .rw[Ve z,Bool.eq_false_iff];intro c;rw[A4,L8,beq_iff_eq]at c;refine z<|j7 c.2 λk F G=>?_;have:=c.1 k<|o7.mpr<|u6 F G;rw[beq_iff_eq,X0,X0,J0 F,J0 G]at this;exact this
  rw[<-Z];exact SeqAt.EqAt.of_refs e h
theorem Uj(hu:X.A.units+2<Mf):YZ X (.builtin "sorted") (TW X.K DY YB JY):=by
 have i:X.A.in1.in1.units<Mf:=by show X.A.units+2<Mf;exact hu
 refine OH (κ:=tuples' false) ltB_wk UW (λ{de s σ H} I its h2 C s' k E' Q' e=>?_)<|λ{de s σ H} I c d x y hx hy s' k Q' e=>?_
 .have F:∀(l:List Be),(∀v∈l,∃(c:Ee) (r:lY),v=.ref c/\DY H c r)->∃fs:List Be,KatTups s'.heap l fs/\fs.length=l.length/\∀v∈fs,Looks (Ke X.prog X.w) s'.heap (Gm v) (.type "tuple"):=by
   intro l;induction l with
   |nil=>intro _;exact⟨[],.nil,rfl,λv j=>by simp at j⟩
   |cons v l ih =>
    intro hl;obtain⟨fs,G,U,L⟩:=ih λx hx=>hl x<|G0 _ hx;obtain⟨c,r,rfl,a,b,hc,M,Y⟩:=hl v L0;obtain⟨_,itc,O,ob,e1,e2,m,e3,_⟩:=(show ObjOk X.prog X.w H s.heap c (.tup [.ref a,.ref b]) from I.hok c _ hc);obtain⟨u1,u2,rfl,P,Z⟩:=eY O;cases P;obtain⟨_,itb,rb,oa,g1,g2,_⟩:=(show ObjOk X.prog X.w H s.heap a (.tup<|r.1.map V.int) from I.hok a _ M);refine⟨.ref a::fs,.cons (k _ _ e1) e2 e3 rfl G,by simp[U],λv j=>?_⟩;rcases E1.mp j with rfl|j
    .have:=(show Looks (Ke X.prog X.w) s'.heap (Gm<|.ref a) oa.cls from (Looks.ld<|k _ _ g1).andThen .now);rw[g2]at this;exact this
    .exact L v j
  obtain⟨fs,G,U,L⟩:=F its C;exact kat_kind (T:=.type "tuple") G (by lia) L (by decide) e
 .obtain⟨a1,b1,R,ml,mi⟩:=hx;obtain⟨a2,b2,mh,uh,yg⟩:=hy;obtain⟨_,ic,O,oc,c1,c2,m1,c3,_⟩:=(show ObjOk X.prog X.w H s.heap c (.tup [.ref a1,.ref b1]) from I.hok c _ R);obtain⟨_,id',rd,od,d1,d2,m2,d3,_⟩:=(show ObjOk X.prog X.w H s.heap d (.tup [.ref a2,.ref b2]) from I.hok d _ mh);obtain⟨u1,u2,rfl,P,Z⟩:=eY O;cases P;cases Z;obtain⟨w1,w2,rfl,r3,r4⟩:=eY rd;cases r3;cases r4;have I':Inv X de σ H {s with heap:=s'.heap}:=I.kept (t':=s.toks) k;have B:∀{a b:Ee}{x y:Qn}{Q:Bool->Ge->Prop},H a=some (.tup<|x.map V.int)->H b=some (.tup<|y.map V.int)->Q (HT.lexLt x y) s'->Ie (Ke X.prog X.w) X.A.in1.in1 (oneLt' false (.ref a)<|.ref b) Q (λ_ _=>Ln) s':=λ{a b x y Q} M Y hq=>by
   obtain⟨_,ia,ra,ta⟩:=(show ObjOk X.prog X.w H s'.heap a (.tup<|x.map V.int) from I'.hok a _ M);obtain⟨_,ib,rb,tb⟩:=(show ObjOk X.prog X.w H s'.heap b (.tup<|y.map V.int) from I'.hok b _ Y);exact kat_one _ _<|HT.lt_tupInts ta.t tb.t (JZ ra) (JZ rb) i hq
  refine kat_lt (k _ _ c1) c3 (k _ _ d1) d3<|kat_cons ?_;refine jU I i ml uh k _ _ _ _ ?_;unfold JY at e;refine kat_go (λq=>kat_yes<|kat_cons ?_)<|λq=>kat_no ?_
  .have q:=Qe q;rw[De q]at e;refine jU I i mi yg k _ _ _ _ ?_;refine kat_go (λz=>kat_yes ?_)<|λz=>kat_no ?_
   .have z:=Qe z;rw[z,SG.lex_wk.irr]at e;exact e
   .exact B mi yg e
  .have q:=Pg q;rw[Ce q]at e;exact B ml uh e
end L2
namespace L3
open L2
noncomputable abbrev UJ(b:lY):D:=.tuple [.tuple<|b.1.map q0,.tuple<|b.2.map q0]
noncomputable def tR:D->(Sl->Prop)->Prop
 | .list e,Q=>∃d:List lY,e=d.map UJ/\d.length<=sizeLine/\∀c:List lY,c.Perm d->c.Pairwise (λa b=>JY b a=false)->Q (.ow<|.list<|c.map UJ)
 |_,_=>Ln
theorem nD{K:Fg}{r:lY}(h:Da K F v (UJ r)):∃c,v=.ref c/\DY F c r:=by
 cases h with
 |tup h t =>
  cases t with
  |cons d t =>
   cases t with
   |cons e t=>cases t;obtain⟨a,rfl,i⟩:=CY d;obtain⟨b,rfl,j⟩:=CY e;exact⟨_,rfl,a,b,h,i,j⟩
theorem SL{K:Fg}{r:lY}(h:DY F c r):Da K F (.ref c) (UJ r):=by obtain⟨a,b,d,e,i⟩:=h;exact .tup d<|.cons (.tup e<|DaAll.ints _)<|.cons (.tup i<|DaAll.ints _) .nil
theorem aC{K:Fg}:RZ K (TW K DY YB JY) (o1 tR):=Bq λG F σ H ρ x d Q Qd R q w k=>by
 cases d<;>first|exact w.elim|skip
 case list ds =>
  obtain⟨I,e,M,w⟩:=w;subst e;obtain⟨a,us,rfl,O,t⟩:=q.list R.sub;have hl:=t.length;rw[g0]at hl;have y:∀v∈us,∃c r,v=.ref c/\DY F c r/\r∈I:=λv j=>by obtain⟨d,hd,P⟩:=t.mem v j;obtain⟨r,U,rfl⟩:=M0.mp hd;obtain⟨c,rfl,i⟩:=nD P;exact⟨c,r,rfl,i,U⟩
  have up:∀{c:Ee}{r:lY},DY F c r->DY H c r:=λ{c r} ⟨a,b,q,Y,Z⟩=>⟨a,b,R.sub _ _ q,R.sub _ _ Y,R.sub _ _ Z⟩;have B:∀v∈us,YB H v=YB F v:=λv j=>by obtain⟨c,r,rfl,i,_⟩:=y v j;rw[UW F c r i,UW H c r<|up i]
  refine⟨a,us,rfl,SqL.of O,le_of_eq_of_le hl M,λv j=>?_,λp l hp C L=>?_⟩
  .obtain⟨c,r,rfl,i,_⟩:=y v j;exact⟨c,r,rfl,up i⟩
  .have em:us.map (YB F)=I:=by
    refine DaAll.map_eq (K:=K) (F:=F) (g:=UJ) (λv a h=>?_) t;obtain⟨c,rfl,i⟩:=nD h;exact UW F c a i
   have ee:l.map (YB H)=l.map (YB F):=U1 λv j=>B v<|C.mem_iff.mp j;rw[ee]at L;have m:DaAll K F l ((l.map<|YB F).map UJ):=by rw[O0];refine DaAll.map_of λv j=>?_;obtain⟨c,r,rfl,i,_⟩:=y v<|C.mem_iff.mp j;show Da K F (.ref c) (UJ<|YB F<|.ref c);rw[UW F c r i];exact SL i
   obtain⟨R',r'⟩:=R.newOw (o:=.lst l) (d:=.list _) hp m;exact k _ _ F _ (Sub.refl _) R' r'<|w _ (by rw[<-em];exact C.map _) L
theorem Vq{K:Fg}(h:X.K=K)(a:X.A.units+2<Mf):YZ X (.builtin "sorted") (TW K DY YB JY):=by subst h;exact Uj a
end L3
namespace L2
noncomputable def kU(e l:Nat->Bool)(b:Bool):Nat->Nat->Bool
 |_,0=>b
 |k,m+1=>if e k=true then kU e l b (k+1) m else l k
section
open PySem.SeqAt
open PySem.AutoSeq1 (wpAny_loadPart')
open PySem.MeetsSeq PySem.MeetsSeq2 PySem.MeetsSeq3
theorem EV(l b:Ee)(items a:Kn Be)(n L:Nat)(M O:Jn Ee)(sl P:Kn (Jn Be))(e lt:Nat->Bool):Meets (Builtin.«tuple.__lt__» ⟨[.ref l,.ref b],[]⟩) (λA R s=>s.heap.get? l=some {cls:=.type "tuple",dict:=M,data:=.seq items n,slots:=sl}/\s.heap.get? b=some {cls:=.type "tuple",dict:=O,data:=.seq a L,slots:=P} /\ (∀(k:Nat) (x y:Be),items[k]?=some x->a[k]?=some y->SeqAt.EqAt A.in1 s x y (e k)) /\ (∀(k:Nat) (x y:Be),items[k]?=some x->a[k]?=some y->e k=false->∀(prog:Cf) (w:Xe) (E:Be->Ge->Prop) (Q:Be->Ge->Prop),Q (.bool<|lt k) s->Ie (Ke prog w) A.in1 (Ji .Lt x y) Q E s) /\ R (.ok<|.ret<|.bool<|kU e lt (decide<|items.size<a.size) 0<|min items.size a.size) s):=.of_wp λprog w A R s h=>by
 obtain⟨t,g,d,v,os⟩:=s;obtain⟨hl,U,Y,hL,h⟩:=h;have f2:=AutoSeq1.sub_tuple_tuple
 wp_walk using Tg hl,Tg U,Zi _ (λrest b s'=>b.1=none/\s'=⟨t,g,d,v,os⟩/\∃k,rest=(items.toList.zip a.toList).drop k/\k<=min items.size a.size/\R (.ok<|.ret<|.bool<|kU e lt (decide<|items.size<a.size) k<|min items.size a.size-k) ⟨t,g,d,v,os⟩) _
 case turn =>
  rintro⟨y,x⟩ rest b s' ⟨i,rfl,k,j,Z,c⟩;have B:k<(items.toList.zip a.toList).length:=by
   by_cases q:k<(items.toList.zip a.toList).length
   .exact q
   .rw[t6<|A1 q]at j;cases j
  rw[M4 B]at j;injection j with hyx hrest;rw[LQ]at hyx;injection hyx with hy hx;rw[P2,Z0,Z0]at B;have G:items[k]?=some y:=by rw[hy,<-G5];exact J0 _
  have g2:a[k]?=some x:=by rw[hx,<-G5];exact J0 _
  obtain⟨m,I⟩:∃m,min items.size a.size-k=m+1:=⟨min items.size a.size-k-1,HX (t9 B) rfl⟩;rw[I]at c;refine Ae<|Y k y x G g2 prog w _ _ ?_;have c:R (.ok<|.ret<|.bool<|if e k=true then kU e lt (decide<|items.size<a.size) (k+1) m else lt k) ⟨t,g,d,v,os⟩:=c;cases C:e k with
  |true =>
   rw[C,De rfl]at c
   wp_walk
   exact⟨rfl,rfl,k+1,hrest,B,by rw[show min items.size a.size-(k+1)=m by exact ba I];exact c⟩
  |false =>
   rw[C,Ce X1]at c;have F:=hL k y x G g2 C prog w
   wp_walk using F
   exact⟨_,rfl,by simpa using c⟩
 case fin =>
  rintro⟨b1,b2⟩ s' ⟨i,rfl,k,j,Z,c⟩;simp only at i;subst i;have eg:min items.size a.size-k=0:=by have:=Te E5 j;rw[M5,P2,Z0,Z0]at this;simp at this;exact this.symm
  rw[eg]at c;have c:R (.ok<|.ret<|.bool<|decide<|items.size<a.size) ⟨t,g,d,v,os⟩:=c
  wp_walk
  exact⟨_,rfl,by simpa [B9]using c⟩
 case h=>exact⟨rfl,rfl,0,rfl,j4 _,h⟩
end
section
variable {w:Xe}{R:Fn->Ge->Prop}{I:Ee}{wr:List Ee}{P:Nat->Be->Prop}{St:Nat->Gf->Prop}{base:Gf}
end
end L2
namespace L3
open L2
end L3
namespace L2
open PySem.W
theorem uR(I:Inv X de σ H s)(q:A.units+1<Mf)(hx:DY H c x)(hy:DY H d y):SeqAt.EqAt A s (.ref c) (.ref d) (decide<|x=y):=by
 by_cases e:c=d
 .subst e;have:=(UW H c x hx).symm.trans<|UW H c y hy;rw[Je this];exact SeqAt.EqAt.same _
 .obtain⟨b,i,l,v,B⟩:=hx;obtain⟨m,b2,C,F,G⟩:=hy;obtain⟨_,ic,L,M⟩:=(show ObjOk X.prog X.w H s.heap c (.tup [.ref b,.ref i]) from I.hok c _ l);obtain⟨_,O,rd,P⟩:=(show ObjOk X.prog X.w H s.heap d (.tup [.ref m,.ref b2]) from I.hok d _ C);obtain⟨u1,u2,rfl,R,U⟩:=eY L;obtain⟨w1,w2,rfl,Y,Z⟩:=eY rd;cases R;cases U;cases Y;cases Z;have a:A.in1.units<Mf:=q;have h:=SeqAt.RcAt.tuples (A:=A) (s:=s) (e:=λk=>if k=0 then decide (x.1=y.1) else decide (x.2=y.2)) M.t P.t (E4 q) λj h1 h2=>by
   rcases j with _|_|j
   .exact jU I a v F λ_ _ z=>z
   .exact jU I a B G λ_ _ z=>z
   .exact absurd h1 (by simp)
  have hv:((G2<|min #[B2 b,B2 i].size #[B2 m,B2 b2].size).all (λk=>if k=0 then decide (x.1=y.1) else decide (x.2=y.2))&&#[B2 b,B2 i].size==#[B2 m,B2 b2].size)=decide (x=y):=by show ((G2 2).all (λk=>if k=0 then decide (x.1=y.1) else decide (x.2=y.2))&&true)=_;rw[show G2 2=[0,1] from rfl,G7];cases x;cases y;simp
  rw[<-hv];exact SeqAt.EqAt.of_refs e h
noncomputable def ce(H:Hp)(x:lY)(y:Be):Bool:=@decide (∃c,y=.ref c/\DY H c x)<|Classical.propDecidable _
end L2
namespace L3
open L2
noncomputable abbrev bxP(p:lY):D:=.tuple [.tuple<|p.1.map q0,.tuple<|p.2.map q0]
section
variable {K:Fg}{e1 e2:We}{a b:AD}{pos:Pos}
end
end L3
namespace L2
section
variable {P:Cf}{w:Xe}{κ:Type}[DecidableEq κ]{kd:KeyKind P w κ}
end
end L2
namespace L3
open L2
section
variable {K:Fg}{e e1:We}{a:AD}{p pos p2:Pos}
theorem qD(b:Room k A):A.units+6<Mf:=W0 (T0 (by decide:6<=64) _) b.units
end
end L3
namespace L2
section
variable {w:Xe}
end
theorem TL{R:α->β->Prop}{m:List β}(p:Paired R l m):∀{i:Nat}{x:α},l[i]?=some x->∃y,m[i]?=some y/\R x y:=by
 induction p with
 |nil=>intro i x h;cases h
 |cons r t a =>
  intro i x h;cases i with
  |zero=>cases h;exact⟨_,rfl,r⟩
  |succ i=>exact a h
section
variable {κ:Type}{hs:κ->Int}
theorem bC(e:ObjOk P w H h d (CK hs d' ep xs)):d'=d:=by
 obtain⟨f,⟨o,l⟩,st⟩:=e;by_cases z:d'=d
 .exact z
 exfalso;obtain⟨⟨m,t,v,x,b,y,B,C⟩,_⟩:=id f;obtain⟨⟨c,_,o2,i,a,g2,_⟩,_⟩:=st h (h.update d' λ_=>{cls:=.type "tuple",data:=.seq #[]}) f λq j=>by rw[eQ _ d d' _<|G3 z];exact j
 have k:(h.update d' λ_=>{cls:=.type "tuple",data:=.seq #[]}).get? d'=some {cls:=.type "tuple",data:=.seq #[]}:=J4 _ b rfl;rw[k]at a;injection a with a;rw[<-a]at g2;exact absurd g2.1 (by decide)
theorem ext_at(I:Inv X de σ H s)(e:H d=some (CK hs d' ep xs)):∃(b:List (κ×Ee×Be)) (o:Obj) (a:Kn DictEntry),Paired (λx v=>x.1=v.1/\x.2.1=v.2.1/\RelV x.2.2 v.2.2) xs b/\s.heap.get? d=some o/\o.ExactDict/\o.data=.dict a ep/\(a.toList=b.map λx=>⟨hs x.1,.ref x.2.1,x.2.2⟩)/\a.size=xs.length/\(xs.map (·.1)).Nodup/\xs.length<=sizeLine/\(d==Vf)=false:=by
 have j:=bC<|show ObjOk X.prog X.w H s.heap d (CK hs d' ep xs) from I.hok d _ e;subst j;obtain⟨⟨⟨b,c,o,a,k,l,m,i⟩,q,hl,t⟩,_⟩:=(show ObjOk X.prog X.w H s.heap d' (CK hs d' ep xs) from I.hok d' _ e);refine⟨b,o,a,c,k,l,m,i,?_,q,hl,t⟩;have:=Te E5 i;rw[g0,<-c.length]at this;simpa using this
end
theorem iW{P:Cf}{w:Xe}:∀{ks:Qn}{us:List Be},Vals (ks.map V.int) us->ItemsAre (Ih P w) ks us
 |[],_,r=>by cases r;exact .nil
 |k::ks,_,r=>by
  cases r with
  |cons h t=>obtain⟨a,rfl⟩:=h;exact .cons (by show sX k (.int k a)=true;simp[sX])<|iW t
theorem Wq{R:α->β->Prop}{x:α}{y:β}{l:List α}{m:List β}(p:Paired R l m)(r:R x y):Paired R (l++[x]) (m++[y]):=by
 induction p with
 |nil=>exact .cons r .nil
 |cons a t b=>exact .cons a b
theorem NK{a:List (κ×Ee×V)}{b:List (κ×Ee×Be)}(p:Paired (λx v=>x.1=v.1/\x.2.1=v.2.1/\RelV x.2.2 v.2.2) a b):b.map (·.1)=a.map (·.1):=by
 induction p with
 |nil=>rfl
 |cons r t c=>simp only[Y0,c,r.1]
theorem Vk{R:α->β->Prop}{l:List α}{m:List β}(p:Paired R l m):l.length=m.length:=by
 induction p with
 |nil=>rfl
 |cons _ t a=>rw[L1,L1,a]
theorem NU{R:α->β->Prop}{l:List α}{m:List β}(p:Paired R l m):∀y∈m,∃x∈l,R x y:=by
 induction p with
 |nil=>intro y h;cases h
 |cons r t a =>
  intro y h;rcases E1.mp h with z|z
  .subst z;exact⟨_,L0,r⟩
  .obtain⟨x,hx,b⟩:=a y z;exact⟨x,G0 _ hx,b⟩
theorem vR[DecidableEq κ]{a:List (κ×Ee×Be)}{k:κ}(h:k∉a.map (·.1)):Xi a k=none:=atKey_none_of_get λj p e=>h<|M0.mpr ⟨_,O3 e,rfl⟩
theorem cC{l:List α}{x:α}(h:l[i]?=some x):l.take (i+1)=l.take i++[x]:=by have hi:=(Y1.mp h).1;have e:=(Y1.mp h).2;rw[List.take_add_one,h];rfl
theorem xy{c:Type}{a:List (c×Ee×V)}{x:c×Ee×V}(k:(a.map (·.1)).Nodup)(h:a[i]?=some x):x.1∉(a.take i).map (·.1):=λz=>by
 obtain⟨y,hy,e⟩:=M0.mp z;obtain⟨j,b⟩:=E7.mp hy;rw[List.getElem?_take]at b;split at b
 .rename_i l;have d:(a.map (·.1))[j]?=some x.1:=by rw[S1,b,U6,e]
  have m:(a.map (·.1))[i]?=some x.1:=by rw[S1,h];rfl
  have:=(List.getElem?_inj (Y1.mp d).1 k).mp<|d.trans m.symm;exact T2 _<|B0 l<|P0 this.symm
 .cases b
theorem wR(I:Inv X de σ H s){b:Ee}{a:List V}(e:H b=some (.tup a)):∃its,Vals a its/\∃o,s.heap.get? b=some o/\o.cls=.type "tuple"/\∃n,o.data=.seq its.toArray n:=by obtain⟨_,its,r,o,c,d,n,i,_⟩:=(show ObjOk X.prog X.w H s.heap b (.tup a) from I.hok b _ e);exact⟨its,r,o,c,d,n,i⟩
end L2
namespace L3
open L2
noncomputable abbrev tI(k:Qn):D:=.tuple<|k.map q0
noncomputable abbrev b2(k:Qn×Qn):D:=.tuple [tI k.1,tI k.2]
section
variable {K:Fg}{F:Hp}
theorem Xk:∀{ks:Qn}{a:List V},DaAll K F a (ks.map q0)->a=ks.map V.int
 |[],_,h=>by cases h;rfl
 |k::ks,_,h=>by
  cases h with
  |cons h t=>rw[Xk t];cases h;rfl
theorem xN(h:Da K F v (tI k)):∃b,v=.ref b/\F b=some (.tup<|k.map V.int):=by
 cases h with
 |tup e t=>have:=Xk t;subst this;exact⟨_,rfl,e⟩
theorem UL{c:D}(h:Da K F v (.dict [(.bool false,c)])):(∃a,v=.ref a/\c=.none/\F a=some (oT a))\/(∃a m l e i,v=.ref a/\F a=some (CK hL m l e)/\DaPd K F e i/\c=.list (i.map λp=>.tuple [tI p.1,p.2])) \/ ∃a l e i,v=.ref a/\F a=some (CK hB a l e)/\DaBd K F e i/\c=.tuple (i.map λp=>.tuple [b2 p.1,p.2]):=by
 generalize b:(PyData.dict [(.bool false,c)])=d at h;cases h with
 |opq q=>cases b;exact .inl ⟨_,rfl,rfl,q⟩
 |pd q t=>injection b with b;injection b with b _;injection b with _ b;exact .inr<|.inl ⟨_,_,_,_,_,rfl,q,t,b⟩
 |bd q t=>injection b with b;injection b with b _;injection b with _ b;exact .inr<|.inr ⟨_,_,_,_,rfl,q,t,b⟩
 |dk q t =>
  injection b with b;subst b;generalize j:([(W5 false,c)]:List (D×D))=es at t;cases t with
  |nil=>cases j
  |@cons k _ _ _ _ _ _=>cases k<;>cases j
 |dt q t =>
  injection b with b;subst b;generalize j:([(W5 false,c)]:List (D×D))=es at t;cases t with
  |nil=>cases j
  |cons _ _=>cases j
 |_=>cases b
end
section
variable {K:Fg}{e e1 e2:We}{a b:AD}{p pos ze p2 kg wf bf:Pos}
end
end L3
namespace L2
open PySem.W
theorem xR(x y:lY)(f:Bool)(hf:f=false):kU (λj=>if j=0 then decide (x.1=y.1) else decide (x.2=y.2)) (λj=>if j=0 then HT.lexLt x.1 y.1 else HT.lexLt x.2 y.2) f 0 2=JY x y:=by
 unfold JY;subst hf;by_cases a:x.1=y.1
 .by_cases b:x.2=y.2
  .simp[kU,a,b,SG.lex_wk.irr]
  .simp[kU,a,b]
 .simp[kU,a]
theorem eC{r:List V}(I:Inv X de σ H s)(k:∀b o,s.heap.get? b=some o->s'.heap.get? b=some o)(M:A.units+1<Mf)(hc:H c=some (.tup (.ref l::.ref b1::r))) (O:H l=some (.tup<|x.1.map V.int)) (P:H b1=some (.tup<|x.2.map V.int)) (hd:H d=some (.tup [.ref a2,.ref b2])) (R:H a2=some (.tup<|y.1.map V.int)) (U:H b2=some (.tup<|y.2.map V.int)) (h:Q (.bool<|JY x y) s'):Ie (Ke prog w) A (Ji .Lt (.ref c)<|.ref d) Q E s':=by
 have Y:Inv X de σ H {s with heap:=s'.heap}:=I.kept (t':=s.toks) k;obtain⟨_,ic,m,⟨oc1,B,oc3,C⟩,Z,c2,m1,c3,_⟩:=(show ObjOk X.prog X.w H s.heap c (.tup (.ref l::.ref b1::r)) from I.hok c _ hc);obtain⟨_,id',rd,⟨od1,G,od3,L⟩,d1,d2,m2,d3,_⟩:=(show ObjOk X.prog X.w H s.heap d (.tup [.ref a2,.ref b2]) from I.hok d _ hd);obtain⟨w1,w2,rfl,r3,r4⟩:=eY rd;cases m with
 |cons r1 m =>
  cases m with
  |cons r2 m =>
   rename_i us;cases r1;cases r2;cases r3;cases r4;simp only at c2 c3 d2 d3;subst c2 c3 d2 d3;have e:A.in1.units<Mf:=by show A.units+1<Mf;exact M
   have i:∀{prog:Cf}{w:Xe}{a b:Ee}{x y:Qn}{Q E:Be->Ge->Prop},H a=some (.tup<|x.map V.int)->H b=some (.tup<|y.map V.int)->Q (.bool<|HT.lexLt x y) s'->Ie (Ke prog w) A.in1 (Ji .Lt (.ref a)<|.ref b) Q E s':=λ{prog w a b x y Q E} ha hb q=>by obtain⟨_,ia,ra,ta⟩:=(show ObjOk X.prog X.w H s'.heap a (.tup<|x.map V.int) from Y.hok a _ ha);obtain⟨_,ib,rb,tb⟩:=(show ObjOk X.prog X.w H s'.heap b (.tup<|y.map V.int) from Y.hok b _ hb);exact HT.lt_tupInts (prog:=prog) (w:=w) ta.t tb.t (JZ ra) (JZ rb) e q
   refine Lh (op:=.Lt) ⟨_,k _ _ Z,rfl⟩ ⟨_,k _ _ d1,rfl⟩ PySem.F.slot_tuple_lt PySem.F.entry_tuple_lt (PySem.F.args_tuple_lt_2 _ _)
    (EV c d _ _ m1 m2 B G C L (λj=>if j=0 then decide (x.1=y.1) else decide (x.2=y.2))<|λj=>if j=0 then HT.lexLt x.1 y.1 else HT.lexLt x.2 y.2) ⟨k _ _ Z,k _ _ d1,λj u v hx hy=>?_,λj u v hx hy he prog w E Q q=>?_,?_⟩ (E4 M)
   .rcases j with _|_|j
    .cases hx;cases hy;rw[De rfl];exact jU I e O R k
    .cases hx;cases hy;rw[Ce<|by decide];exact jU I e P U k
    .simp at hy
   .rcases j with _|_|j
    .cases hx;cases hy;exact i O R q
    .cases hx;cases hy;exact i P U q
    .simp at hy
   .have es:min (B2 l::B2 b1::us).toArray.size [B2 a2,B2 b2].toArray.size=2:=by
     simp only[S0,L1,U5];exact J8<|K1 _ _
    rw[es];have hf:decide ((B2 l::B2 b1::us).toArray.size < [B2 a2,B2 b2].toArray.size)=false:=by refine Ve ?_;simp only[S0,L1,U5];exact L9<|K1 _ _
    rw[xR x y _ hf];exact⟨(λz=>by cases z),h⟩
theorem yR(I:Inv X de σ H s)(q:A.units+2<Mf)(U:H c=some (.tup [.ref a1,t])) (B:DY H a1 x) (hd:H d=some (.tup [.ref a2])) (C:DY H a2 y) (h:Q (.bool<|JY x y) s):Ie (Ke prog w) A (Ji .Lt (.ref c)<|.ref d) Q E s:=by
 obtain⟨_,ic,Y,⟨Z,i,oc3,k⟩,G,L,m1,M,_⟩:=(show ObjOk X.prog X.w H s.heap c (.tup [.ref a1,t]) from I.hok c _ U);obtain⟨_,id',rd,⟨od1,l,od3,m⟩,O,P,m2,R,_⟩:=(show ObjOk X.prog X.w H s.heap d (.tup [.ref a2]) from I.hok d _ hd);obtain⟨u1,u2,rfl,r1,r2⟩:=eY Y;cases rd with
 |cons r3 rd =>
  cases rd;cases r1;cases r3;simp only at L M P R;subst L M P R;have a:A.in1.units+1<Mf:=by show A.units+1+1<Mf;exact q
  refine Lh (op:=.Lt) ⟨_,G,rfl⟩ ⟨_,O,rfl⟩ PySem.F.slot_tuple_lt PySem.F.entry_tuple_lt (PySem.F.args_tuple_lt_2 _ _)
   (EV c d _ _ m1 m2 i l k m (λ_=>decide<|x=y)<|λ_=>JY x y) ⟨G,O,λj u v hx hy=>?_,λj u v hx hy he prog w E Q hq=>?_,?_⟩ (E4<|E4 q)
  .rcases j with _|j
   .cases hx;cases hy;exact uR I a B C
   .simp at hy
  .rcases j with _|j
   .cases hx;cases hy;obtain⟨p1,q1,g1,g2,g3⟩:=B;obtain⟨p2,q2,f1,f2,f3⟩:=C;exact eC I (λb o e=>e) a g1 g2 g3 f1 f2 f3 hq
   .simp at hy
  .have e:kU (λ_=>decide<|x=y) (λ_=>JY x y) (decide<|(2:Nat)<1) 0 1=JY x y:=by
    by_cases z:x=y
    .subst z;simp[kU,ltB_wk.irr]
    .simp[kU,z]
   show OX (kU _ _ (decide<|(2:Nat)<1) 0 1)≠EX/\Q (.bool<|kU _ _ (decide<|(2:Nat)<1) 0 1) s;rw[e];exact⟨(λz=>by cases z),h⟩
def A':R2:=λp q H Q=>∃(c d:Ee) (x y:lY),p=.ref c/\q=.ref d/\((∃(a e b b2:Ee) (r:List V),H c=some (.tup (.ref a::.ref e::r))/\H a=some (.tup<|x.1.map V.int)/\H e=some (.tup<|x.2.map V.int)/\H d=some (.tup [.ref b,.ref b2])/\H b=some (.tup<|y.1.map V.int)/\H b2=some (.tup<|y.2.map V.int)) \/
  (∃(a b:Ee) (t:V),H c=some (.tup [.ref a,t])/\DY H a x/\H d=some (.tup [.ref b])/\DY H b y))/\Q (.bl<|JY x y) H
theorem zR(k:X.A.units+2<Mf):OpR X (Ef .Lt) A':=by
 intro de s σ H p q v u Q I m w h;obtain⟨c,d,x,y,rfl,rfl,h,l⟩:=h;cases m;cases w;rcases h with⟨B,L,C,b2,r,a,g2,i,j,F,G⟩|⟨B,C,t,a,g2,i,j⟩
 .exact eC I (λb o e=>e) (E4 k) a g2 i j F G ⟨.bl<|JY x y,H,I,rfl,l⟩
 .exact yR I k a g2 i j ⟨.bl<|JY x y,H,I,rfl,l⟩
end L2
namespace L3
open L2
def Cb:D->D->(Sl->Prop)->Prop:=λd e Q=>∃x y:lY,((∃r,d=.tuple (.tuple (x.1.map q0)::.tuple (x.2.map q0)::r)/\e=UJ y)\/(∃t,d=.tuple [UJ x,t]/\e=.tuple [UJ y]))/\Q (.fz<|.bool<|JY x y)
theorem AR{K:Fg}:RZ K (dU A') (o2 Cb):=Yv λG F σ H ρ p q d e Q Qd R l m w k=>by
 obtain⟨x,y,w,Y⟩:=w;have fin:Q (.bl<|JY x y) H:=k _ H F (.fz _) (Sub.refl _) R (Da.bl _) Y;have up:∀{c:Ee}{r:lY},DY F c r->DY H c r:=λ{c r} ⟨a,b,l,m,Z⟩=>⟨a,b,R.sub _ _ l,R.sub _ _ m,R.sub _ _ Z⟩;rcases w with⟨r,rfl,rfl⟩|⟨t,rfl,rfl⟩
 .obtain⟨c,us,rfl,_,v,i⟩:=l.tuple R.sub;obtain⟨d,vs,rfl,_,B,j⟩:=m.tuple R.sub;cases i with
  |cons C i =>
   cases i with
   |cons U i =>
    cases j with
    |cons I j =>
     cases j with
     |cons p4 j=>cases j;obtain⟨L,rfl,M⟩:=CY C;obtain⟨b1,rfl,mi⟩:=CY U;obtain⟨O,rfl,P⟩:=CY I;obtain⟨b2,rfl,yg⟩:=CY p4;exact⟨c,d,x,y,rfl,rfl,.inl ⟨L,b1,O,b2,_,v,R.sub _ _ M,R.sub _ _ mi,B,R.sub _ _ P,R.sub _ _ yg⟩,fin⟩
 .obtain⟨c,us,rfl,_,v,i⟩:=l.tuple R.sub;obtain⟨d,vs,rfl,_,B,j⟩:=m.tuple R.sub;cases i with
  |cons C i =>
   cases i with
   |cons U i =>
    cases i;cases j with
    |cons I j=>cases j;obtain⟨L,rfl,M⟩:=nD C;obtain⟨O,rfl,P⟩:=nD I;exact⟨c,d,x,y,rfl,rfl,.inr ⟨L,O,_,v,up M,B,up P⟩,fin⟩
end L3
namespace L2
noncomputable def AW{α:Type}(a:List (Qn×Ee×α))(k:Qn)(b:Ee)(v:α):List (Qn×Ee×α):=if k∈a.map (·.1) then a.map (λx=>if x.1=k then (x.1,x.2.1,v) else x) else a++[(k,b,v)]
theorem Xq:storedH vs k b u=AW vs k b u:=by
 unfold storedH AW;have e:(Xi vs k).isSome=true↔k∈vs.map (·.1):=by
  unfold Xi;rw[tQ,List.find?_isSome];constructor
  .rintro⟨x,hx,e⟩;exact M0.mpr ⟨x,hx,Qe e⟩
  .intro h;obtain⟨x,hx,e⟩:=M0.mp h;exact⟨x,hx,Je e⟩
 by_cases z:k∈vs.map (·.1)
 .rw[De<|e.mpr z,De z];rfl
 .rw[Ce<|λy=>z<|e.mp y,Ce z]
theorem gC(a:List (Qn×Ee×α))(k:Qn)(b:Ee)(v:α):(AW a k b v).length<=a.length+1:=by
 unfold AW;split
 .rw[g0];exact T1 _ _
 .rw[R0];simp
theorem Vj{d:List (Qn×Ee×α)}{v:α}(h:(d.map (·.1)).Nodup):((AW d k b v).map (·.1)).Nodup:=by
 unfold AW;split
 .rw[O0];have e:((λx:Qn×Ee×α=>x.1)∘λx=>if x.1=k then (x.1,x.2.1,v) else x)=λx=>x.1:=by
   funext x;show (if x.1=k then (x.1,x.2.1,v) else x).1=x.1;split<;>rfl
  rw[e];exact h
 .rename_i z;rw[U2,m9];refine⟨h,by simp,λa i b c e=>?_⟩;have c:b=k:=by simpa using c
  rw[e,c]at i;exact z i
theorem iC(h:Paired (λx v=>x.1=v.1/\x.2.1=v.2.1/\RelV x.2.2 v.2.2) xs vs)(r:RelV v u):Paired (λx v=>x.1=v.1/\x.2.1=v.2.1/\RelV x.2.2 v.2.2) (AW xs k b v) (AW vs k b u):=by
 unfold AW;rw[NK h];split
 .rename_i z;clear z;induction h with
  |nil=>exact .nil
  |@cons x y l m e t i =>
   refine .cons ?_ i;obtain⟨a,d,j⟩:=e;by_cases z:x.1=k
   .have c:y.1=k:=a.symm.trans z;dsimp only;rw[De z,De c];exact⟨a,d,r⟩
   .have c:¬y.1=k:=λq=>z<|a.trans q;dsimp only;rw[Ce z,Ce c];exact⟨a,d,j⟩
 .exact Wq h ⟨rfl,rfl,r⟩
theorem Wj{Q:Unit->Ge->Prop}(L:A.units+1<Mf)(I:Inv X de σ H s)(e:H d=some (CK hL d' M a)) (i:∀x∈a,H x.2.1=some (.tup<|x.1.map V.int)) (O:H b=some (.tup<|k.map V.int)) (P:RelV v u) (hl:a.length<sizeLine)(q:∀R s',Inv X de σ (bJ H d<|CK hL d R<|AW a k b v) s'->Q () s'):Ie (Ke X.prog X.w) A (Zm (.ref d) (.ref b) u) Q E s:=by
 obtain⟨U,o,Y,c,Z,e2,e3,e4,hz,B,_,hm⟩:=ext_at I e;have key:∀{k:Qn}{b:Ee},H b=some (.tup<|k.map V.int)->(Uf<|Ih X.prog X.w).is s.heap k b:=λ{k b} hb=>by obtain⟨_,its,r,o,C,F,n,h3,_⟩:=(show ObjOk X.prog X.w H s.heap b (.tup<|k.map V.int) from I.hok _ _ hb);exact⟨o,its.toArray,n,C,F,h3,by simpa using iW r⟩
 have hvl:=Vk c;refine wpAny_setItem_heap (hsz:=by lia) (knd:=Uf<|Ih X.prog X.w) (Zf L) (key O) ⟨o,Y,M,Z,e2,e3,e4,λx hx=>?_,by rw[NK c];exact B⟩ λh' tm sb=>?_
 .obtain⟨y,hy,r1,r2,_⟩:=NU c x hx;have:=key<|i y hy;rw[r1,r2]at this;exact this
 .obtain⟨o2,j,l,m,g2,g3,G,_,g5⟩:=tm;rw[Xq]at G;have je:=gC a k b v;refine q l _<|HU I (by rw[e];exact True.intro) sb ⟨o2,m⟩ ⟨⟨⟨AW U k b u,iC c P,o2,j,m,g2,g3,G⟩,Vj B,A0 je hl,hm⟩,⟨o2,m⟩,λC F z k'=>?_⟩;obtain⟨⟨t,r',o',lp,f1,f2⟩,f3⟩:=z;exact⟨⟨t,r',o',lp,k' _ f1,f2⟩,f3⟩
def yN(e ty i:TE):TS:=λE σ H=>i σ H λv j=>e σ j λx l=>ty σ l λy a=>∃(d m b:Ee) (q:Nat) (c:List (Qn×Ee×V)) (k:Qn),x=.ref d/\y=.ref b/\a d=some (CK hL m q c)/\(∀z∈c,a z.2.1=some (.tup<|z.1.map V.int)) /\
 a b=some (.tup<|k.map V.int)/\c.length<sizeLine/\∀t,E.nx σ (bJ a d<|CK hL d t<|AW c k b v)
theorem VL{o:We}(a:X.A.units+1<Mf)(c:PE X o td)(hi:PE X i ty)(e:PE X value tv)(j:Nh value (some<|.Subscript o i ze) pos.line X.env=pure false):PS X (.Assign [.Subscript o i ze] value pos) (yN td ty tv):=by
 intro de s σ H D I h;refine Il (vJ (e de s σ H _ I h) λr l ⟨v,m,q,t,w⟩=>vJ (c de l σ m _ q w) λu B ⟨x,C,F,G,L⟩=>vJ (hi de B σ C _ F L) λM s3 O=>?_) j;obtain⟨y,H3,P,R,d,d',b,ep,xs,k,ex,U,Y,Z,e3,e4,q3⟩:=O;subst ex U;obtain rfl:u=B2 d:=G;obtain rfl:M=B2 b:=R;exact Wj a P Y Z e3 t e4 λam s4 I4=>⟨σ,_,I4,q3 am⟩
end L2
namespace L3
open L2
noncomputable def QH(a:List (Qn×D))(k:Qn)(d:D):List (Qn×D):=if k∈a.map (·.1) then a.map (λx=>if x.1=k then (x.1,d) else x) else a++[(k,d)]
theorem DaPd.keys{K:Fg}(h:DaPd K F a ps):a.map (·.1)=ps.map (·.1):=by
 induction a generalizing ps with
 |nil=>cases h;rfl
 |cons x a b=>cases h with|cons _ _ t=>simp only[Y0,b t]
theorem DaPd.at{K:Fg}(h:DaPd K F xs ps):∀z∈xs,F z.2.1=some (.tup<|z.1.map V.int):=by
 induction xs generalizing ps with
 |nil=>intro z h;cases h
 |cons x xs a =>
  cases h with
  |cons e _ t =>
   intro z h;rcases E1.mp h with q|q
   .subst q;exact e
   .exact a t z q
theorem DaPd.snoc{K:Fg}(j:F b=some (.tup<|k.map V.int))(l:Da K F v d){a:List (Qn×Ee×V)}{c:List (Qn×D)}(i:DaPd K F a c):DaPd K F (a++[(k,b,v)]) (c++[(k,d)]):=by
 induction a generalizing c with
 |nil=>cases i;exact .cons j l .nil
 |cons x a m=>cases i with|cons e h t=>exact .cons e h<|m t
theorem DaPd.repl{K:Fg}(j:Da K F v d){a:List (Qn×Ee×V)}{b:List (Qn×D)}(i:DaPd K F a b):DaPd K F (a.map λx=>if x.1=k then (x.1,x.2.1,v) else x) (b.map λx=>if x.1=k then (x.1,d) else x):=by
 induction a generalizing b with
 |nil=>cases i;exact .nil
 |cons x a c =>
  cases i with
  |@cons l m q w a b e h t =>
   have c:=c t;rw[Y0,Y0];by_cases z:l=k
   .dsimp only;rw[De z,De z];exact .cons e j c
   .dsimp only;rw[Ce z,Ce z];exact .cons e h c
theorem DaPd.put{K:Fg}(h:DaPd K F xs ps)(c:F b=some (.tup<|k.map V.int))(a:Da K F v d):DaPd K F (AW xs k b v) (QH ps k d):=by
 unfold AW QH;rw[h.keys];split
 .exact h.repl a
 .exact h.snoc c a
noncomputable def zN(j:Nat)(i:AD)(l:TD):IY:=λE ρ=>l ρ λr b=>match b[j]? with
 |some (some _)=>MJ [i] b λe a=>match qJ a e with
  |true=>Ln
  |false=>UZ a e λm=>match a[j]? with
   |some (some s)=>∃(k:Qn) (c:List (Qn×D)),m=[tI k]/\s.d=rH c/\WZ s=true/\c.length<sizeLine/\E.nx (a.set j<|some<|s.put<|rH<|QH c k r.d)
   |_=>Ln
 |_=>Ln
theorem BR{K:Fg}{E:Ends}(h:qZ K (zN j ak te) E σ H):yN (IK j) (mZ K ak) (lift K te) E σ H:=by
 obtain⟨G,F,ρ,D,R,w,n,r,b,c⟩:=h;refine⟨G,F,ρ,_,R,w,λv H1 F1 x ρ1 s1 R1 r1 Y=>?_⟩;obtain⟨F2,s2,R2,d2⟩:=r1.frz R1;split at Y
 .rename_i s0 e0;obtain⟨u,Z⟩:=R2.bound e0;refine⟨u,Z,nq (P:=λy C=>∃(d d' b:Ee) (ep:Nat) (I:List (Qn×Ee×V)) (k:Qn),u=.ref d/\y=.ref b/\C d=some (CK hL d' ep I)/\(∀z∈I,C z.2.1=some (.tup<|z.1.map V.int)) /\
    C b=some (.tup<|k.map V.int)/\I.length<sizeLine/\∀am,E.nx σ<|bJ C d<|CK hL d am<|AW I k b v)<|uJ R2 Y λvs C U I ρ3 s3 L o3 i=>?_⟩;split at i
  .exact i.elim
  rename_i m;obtain⟨ds,ha,i⟩:=rJ L m o3 i;split at i
  .rename_i s e;obtain⟨k,l,rfl,p1,p2,p3,i⟩:=i;cases ha with
   |cons hk ht =>
    cases ht;obtain⟨kb,rfl,hb⟩:=CY hk;obtain⟨a,o,g1,g2,g3,M⟩:=L.ow j s e p2;rw[Z]at g1;cases g1;rw[p1]at M;cases o with
    |ext φ =>
     obtain⟨a',ep,ys,qs,z,B,t⟩:=M.ext;have t:DaPd K U ys l:=by
      have e2:l.map (λp=>O1 [O1<|p.1.map q0,p.2])=qs.map (λp=>O1 [O1<|p.1.map q0,p.2]):=by injection B with B;injection B with B _;injection B with _ B;injection B
      have e3:l=qs:=(X8<|λx y q=>by injection q with q;injection q with q1 q2;injection q2 with q2 _;injection q1 with q1;exact Prod.ext ((X8<|λx y z=>by injection z).mp q1) q2).mp e2;rw[e3];exact t
     rw[z]at g3;refine⟨_,rfl,a,a',kb,ep,ys,k,rfl,rfl,g3,λq hq=>L.sub _ _<|t.at q hq,L.sub _ _ hb,by have:=Te E5 t.keys;rw[g0,g0]at this;exact lt_of_eq_of_lt this p3,λam=>?_⟩;have R4:=L.change (o':=CK hL a am<|AW ys k kb v) (d':=rH<|QH l k x.d) e p2 Z<|Own1.pd<|t.put hb<|d2.mono s3;exact n σ _ U _ (s1.trans<|s2.trans s3) R4 i
    |dK fe =>
     exfalso;have h:DaKV K U fe [(W5 false,Y2<|l.map λp=>O1 [O1<|p.1.map q0,p.2])]:=M;generalize O:[(W5 false,Y2<|l.map λp=>O1 [O1<|p.1.map q0,p.2])]=es at h;cases h with
     |nil=>cases O
     |@cons k _ _ _ _ _ _=>cases k<;>cases O
    |dT fe =>
     exfalso;have h:DaKT K U fe [(W5 false,Y2<|l.map λp=>O1 [O1<|p.1.map q0,p.2])]:=M;generalize O:[(W5 false,Y2<|l.map λp=>O1 [O1<|p.1.map q0,p.2])]=es at h;cases h with
     |nil=>cases O
     |cons _ _=>cases O
    |_=>exact M.elim
  .exact i.elim
 .exact Y.elim
section
variable {K:Fg}{e e1 e2:We}{a:AD}{td:TD}{pos ze:Pos}
theorem DR{j:Nat}(b:X.A.units+1<Mf)(c:WE X e1 (mZ K<|.inl j))(hi:WE X e2 (mZ K a))(d:WE X e (lift K td))(i:wY e=true:=by rfl):WS X (.Assign [.Subscript e1 e2 ze] e pos) (qZ K<|zN j a td):=⟨ly (VL b c.h hi.h d.h<|WY i) BR⟩
end
end L3
namespace L2
end L2
namespace L3
open L2
theorem AN{K:Fg}{L:List D}(s:Sub F H)(l:At K F H v (.dict [(.bool false,.list L)])):∃(b x:Ee) (e:Nat) (ys:List (Qn×Ee×V)) (d:List (Qn×D)),v=.ref b/\H b=some (CK hL x e ys)/\DaPd K F ys d/\L=d.map λp=>.tuple [tI p.1,p.2]:=by
 rcases l with l|⟨b,o,rfl,w,g2,j⟩
 .rcases UL l with⟨_,_,z,_⟩|⟨c,m,e,ys,d,rfl,y,w,z⟩|⟨_,_,_,_,_,_,_,z⟩
  .cases z
  .injection z with z;exact⟨c,m,e,ys,d,rfl,s _ _ y,w,z⟩
  .cases z
 .cases o with
  |ext B=>obtain⟨m,e,ys,d,z,a,t⟩:=j.ext;rw[z]at g2;refine⟨b,m,e,ys,d,rfl,g2,t,?_⟩;injection a with a;injection a with a _;injection a with _ a;injection a
  |dK q =>
   exfalso;have h:DaKV K F q [(W5 false,Y2 L)]:=j;generalize i:[(W5 false,Y2 L)]=es at h;cases h with
   |nil=>cases i
   |@cons k _ _ _ _ _ _=>cases k<;>cases i
  |dT q =>
   exfalso;have h:DaKT K F q [(W5 false,Y2 L)]:=j;generalize i:[(W5 false,Y2 L)]=es at h;cases h with
   |nil=>cases i
   |cons _ _=>cases i
  |_=>exact j.elim
noncomputable abbrev rwD(a:List (Qn×Int)):D:=rH<|a.map λq=>(q.1,q0 q.2)
theorem jC(a:rH ps=rH b):ps=b:=by
 have c:ps.map (λp=>O1 [O1<|p.1.map q0,p.2])=b.map (λp=>O1 [O1<|p.1.map q0,p.2]):=by injection a with a;injection a with a _;injection a with _ a;injection a
 exact(X8<|λx y q=>by injection q with q;injection q with q1 q2;injection q2 with q2 _;injection q1 with q1;exact Prod.ext ((X8<|λx y z=>by injection z).mp q1) q2).mp c
theorem DaAll.both{K:Fg}(h:DaAll K F xs [d,e]):∃u v,xs=[u,v]/\Da K F u d/\Da K F v e:=by
 cases h with
 |cons a h =>
  cases h with
  |cons b h=>cases h;exact⟨_,_,rfl,a,b⟩
section
variable {K:Fg}{p p1 p2 p3 p4 pos ze:Pos}{f a x y:Str}
end
end L3
namespace L2
def BN:R2:=λx y H Q=>∃(d e b:Ee) (i:Nat) (a:List (Qn×Ee×V)) (k:Qn) (c:Ee) (v:V),x=.ref d/\y=.ref b/\H d=some (CK hL e i a)/\(∀z∈a,H z.2.1=some (.tup<|z.1.map V.int))/\H b=some (.tup<|k.map V.int)/\(k,c,v)∈a/\Q v H
theorem WL{o:We}(R:X.A.units+6<Mf)(U:PE X o td)(hi:PE X i ty)(Y:Bu i):PE X (.Subscript o i pos) (dI BN td ty):=by
 intro de s σ H Q I h;refine uk PySem.F.slot_dict_getitem.lookup Y<|vJ (U de s σ H _ I h) λu Z ⟨x,H1,I1,rx,q1⟩=>vJ (hi de Z σ H1 _ I1 q1) λiv l ⟨y,m,t,ry,q2⟩=>?_;obtain⟨d,d',b,ep,xs,k,c,v,ex,ey,hd,hk,B,hm,q⟩:=q2;subst ex ey;obtain rfl:u=B2 d:=rx;obtain rfl:iv=B2 b:=ry;obtain⟨G,L,es,C,M,O,e3,e4,hz,zr,_,_⟩:=ext_at t hd;have key:∀{k:Qn}{b:Ee},m b=some (.tup<|k.map V.int)->(Uf<|Ih X.prog X.w).is l.heap k b:=λ{k b} B=>by obtain⟨_,its,r,o,h1,h2,n,h3,_⟩:=(show ObjOk X.prog X.w m l.heap b (.tup<|k.map V.int) from t.hok _ _ B);exact⟨o,its.toArray,n,h1,h2,h3,by simpa using iW r⟩
 refine⟨⟨L,M,O.1⟩,?_⟩;obtain⟨j,hj⟩:=E7.mp hm;obtain⟨⟨k',b',w'⟩,hv,a,P,r3⟩:=TL C hj;have a:k=k':=a;subst a;have e:(G.map (·.1)).Nodup:=by rw[NK C];exact zr
 have eh:∀x∈G,(Uf<|Ih X.prog X.w).is l.heap x.1 x.2.1:=λx hx=>by obtain⟨x',gn,a,P,_⟩:=NU C x hx;have:=key<|hk x' gn;rw[a,P]at this;exact this
 exact wpAny_getItem_heap (knd:=Uf<|Ih X.prog X.w) (Zf<|show X.A.units+1<Mf by exact W0 (T0 (K1 _ _) _) R) (key B) ⟨L,es,ep,M,O,e3,e4,eh,e⟩ (atKey_of_get e hv) ⟨v,m,t.tok _,r3,q⟩
end L2
namespace L3
open L2
noncomputable def kC:D->D->(Sl->Prop)->Prop
 | .dict [(.bool false,.list L)],.tuple b,Q=>∃(a:List (Qn×D)) (k:Qn) (d:D),L=a.map (λp=>.tuple [tI p.1,p.2])/\b=k.map q0/\(k,d)∈a/\Q (.fz d)
 |_,_,_=>Ln
theorem DaPd.has{K:Fg}(h:DaPd K F a ps)(z:(k,d)∈ps):∃b v,(k,b,v)∈a/\Da K F v d:=by
 induction a generalizing ps with
 |nil=>cases h;cases z
 |cons x a c =>
  cases h with
  |cons e h t =>
   rcases E1.mp z with q|q
   .cases q;exact⟨_,_,L0,h⟩
   .obtain⟨b,v,i,j⟩:=c t q;exact⟨b,v,G0 _ i,j⟩
theorem YL{K:Fg}:RZ K (dU BN) (o2 kC):=Yv λG F σ H ρ x y d e Q Qd R j l w k=>by
 unfold kC at w;split at w
 rotate_left
 .exact w.elim
 rename_i L ds w;obtain⟨m,kk,q,a,rfl,B,w⟩:=w;obtain⟨b,C,I,ys,M,rfl,O,t,P⟩:=AN R.sub j;have U:m=M:=jC (by unfold rH;rw[<-a,P]);subst U;obtain⟨c,us,rfl,Y,i,hd⟩:=l.tuple R.sub;rw[hd.intsV]at i;obtain⟨Z,v,hv,dv⟩:=t.has B;exact⟨b,C,c,I,ys,kk,Z,v,rfl,rfl,O,λz hz=>R.sub _ _<|t.at z hz,i,hv,k _ _ F (.fz q) (Sub.refl _) R dv w⟩
section
variable {K:Fg}{e1 e2:We}{a b:AD}{pos:Pos}
theorem lC(c:X.A.units+6<Mf)(d:WE X e1 (mZ K a))(e:WE X e2 (mZ K b))(i:Bu e2:=by exact λ_ _=>rfl):WE X (.Subscript e1 e2 pos) (lift K<|zW [a,b]<|o2 kC):=⟨QT YL<|WL c d.h e.h i⟩
end
end L3
namespace L2
def Yk(K:K0):List V->Hp->VK->Prop:=λb H Q=>∃(p:Ee) (ys:List V) (a:List (Qn×Ee×V)),b=[.ref p]/\SqL K H p ys/\ys.length=a.length /\
 (∀(i:Nat) x,a[i]?=some x->∃q,ys[i]?=some (.ref q)/\H q=some (.tup [.ref x.2.1,x.2.2]))/\(∀x∈a,H x.2.1=some (.tup<|x.1.map V.int)) /\
 (a.map (·.1)).Nodup/\∀l c,H l=none->Q (.ref l) (bJ H l<|CK hL l c a)
theorem Yq(hc:X.calm=true)(hu:X.A.units+6<Mf):YZ X (.type "dict") (Yk X.K):=by
 intro de s σ H c us Q I r h;obtain⟨p,ys,t,rfl,P,hyl,hp,hk,R,q⟩:=h;obtain⟨u,rfl,rx⟩:=wK r;cases rx;obtain⟨its,r',⟨o,n,e1,e2,e3,e4⟩,hz⟩:=I.list P;have je:=r'.length;have key:∀{x:Qn×Ee×V}{h':Gf},x∈t->(∀b M,s.heap.get? b=some M->h'.get? b=some M)->(Uf<|Ih X.prog X.w).is h' x.1 x.2.1:=λ{x h'} hx kk=>by obtain⟨_,its,r,o,F,B,n,G,_⟩:=(show ObjOk X.prog X.w H s.heap x.2.1 (.tup<|x.1.map V.int) from I.hok _ _<|hk x hx);exact⟨o,its.toArray,n,kk _ _ F,B,G,by simpa using iW r⟩
 have hb:(s.heap.objs.size==Vf)=false:=beq_eq_false_iff_ne.mpr<|G3<|J1 I.big;have U:t.length<=sizeLine:=by lia
 refine DU (λi h=>∃c:List (Qn×Ee×Be),Paired (λx v=>x.1=v.1/\x.2.1=v.2.1/\RelV x.2.2 v.2.2) (t.take i) c/\∃o d j,h.get? s.heap.objs.size=some o/\o.ExactDict/\o.data=.dict d j/\d.toList=c.map λx=>⟨hL x.1,.ref x.2.1,x.2.2⟩) (I.ok.hd hc) e1 e2 e4 e3 ?_ ?_ ?_ ?_
 .intro h' _ e;exact⟨[],.nil,_,#[],0,e,⟨rfl,rfl,rfl⟩,rfl,rfl⟩
 .rintro i F B ⟨c,a,C,d,j,Y,rest⟩ kp;exact⟨c,a,C,d,j,kp _ _ (S3 _) Y,rest⟩
 .rintro i v s' Q' E' hv ⟨c,a,C,d,j,Y,a1,a2,a3⟩ kk oo;have hi:i<its.length:=(Y1.mp<|by simpa using hv).1;obtain⟨⟨k,b,w'⟩,l⟩:∃x,t[i]?=some x:=⟨_,J0<|by lia⟩;obtain⟨qq,ey,eq⟩:=hp i _ l;obtain⟨y,L,ry⟩:=r'.getV (by simpa using hv);rw[ey]at L;cases L;cases ry;have Z:(k,b,w')∈t:=O3 l;obtain⟨kf,r2,M,F,B,m,G⟩:=wR I eq;obtain⟨u1,u2,rfl,ru1,ru2⟩:=eY r2;cases ru1;have hvl:=Vk a;rw[B5]at hvl;have hz2:c.length<=sizeLine:=by lia
  have O:=xy R l;rw[<-NK a]at O;have hvn:(c.map (·.1)).Nodup:=by rw[NK a,List.map_take];exact R.sublist<|sQ _ _
  refine⟨qq,.ref b,u2,rfl,⟨M,kk _ _ F,B,m,G⟩,wpAny_dictSet_heap (hsz:=hz2) (knd:=Uf<|Ih X.prog X.w) (Zf (A:=X.A.in1)<|show X.A.units+1+1<Mf by lia) (key Z kk) ⟨C,d,j,Y,a1,a2,a3,λu hu'=>?_,hvn⟩ λh' tm sb=>oo h' _ ⟨c++[(k,b,u2)],?_,?_⟩ sb⟩
  .obtain⟨x',gn,r1,r2,_⟩:=NU a u hu';have:=key (X9 gn) kk;rw[r1,r2]at this;exact this
  .rw[cC l];exact Wq a ⟨rfl,rfl,ru2⟩
  .obtain⟨q,d,j,P,B,G,h4,_,h5⟩:=tm;rw[storedH_new<|vR O]at h4;exact⟨q,d,j,P,B,G,h4⟩
 .rintro h' tk ⟨c,a,C,d,j,f1,f2,f3,f4⟩ kp;have et:t.take its.toArray.size=t:=by rw[V4];simp only[S0];lia
  rw[et]at a;have O:H s.heap.objs.size=none:=I.hok.fresh<|V0 _;refine⟨.ref s.heap.objs.size,_,I.laid (t':=tk) kp (V0 _)<|show ObjOk X.prog X.w _ h' _ (CK hL s.heap.objs.size j t) from ⟨⟨⟨c,a,C,d,f1,f2,f3,f4⟩,R,U,hb⟩,⟨C,f1⟩,λF B z k=>?_⟩,rfl,q _ j O⟩;obtain⟨⟨c,r,o,d,g1,g2⟩,g3⟩:=z;exact⟨⟨c,r,o,d,k _ g1,g2⟩,g3⟩
def B':R2:=λx y H Q=>∃(d c b:Ee) (e:Nat) (a:List (Qn×Ee×V)) (k:Qn),x=.ref b/\y=.ref d/\H d=some (CK hL c e a)/\(∀z∈a,H z.2.1=some (.tup<|z.1.map V.int))/\H b=some (.tup<|k.map V.int)/\Q (.bl (decide (k∈a.map (·.1)))) H
theorem ER(l:X.A.units+6<Mf):OpR X (Ef .In) B':=by
 intro de s σ H x y v u Q I m t h;obtain⟨d,d',b,B,C,k,rfl,rfl,hd,F,a,q⟩:=h;cases m;cases t;obtain⟨c,G,L,i,M,O,P,R,hz,U,_,Y⟩:=ext_at I hd;have key:∀{k:Qn}{b:Ee},H b=some (.tup<|k.map V.int)->(Uf<|Ih X.prog X.w).is s.heap k b:=λ{k b} a=>by obtain⟨_,its,r,o,Z,h2,n,h3,_⟩:=(show ObjOk X.prog X.w H s.heap b (.tup<|k.map V.int) from I.hok _ _ a);exact⟨o,its.toArray,n,Z,h2,h3,by simpa using iW r⟩
 have j:(c.map (·.1)).Nodup:=by rw[NK i];exact U
 have eh:∀x∈c,(Uf<|Ih X.prog X.w).is s.heap x.1 x.2.1:=λx hx=>by obtain⟨x',gn,r1,r2,_⟩:=NU i x hx;have:=key<|F x' gn;rw[r1,r2]at this;exact this
 refine wpAny_in_heap (knd:=Uf<|Ih X.prog X.w) (Zf<|show X.A.units+1<Mf by exact W0 (T0 (K1 _ _) _) l) (key a) Y ⟨G,L,B,M,O,P,R,eh,j⟩ ?_;have e:(Xi c k).isSome=decide (k∈C.map (·.1)):=by
  rw[<-NK i];unfold Xi;rw[tQ,G7,List.find?_isSome,decide_eq_true_eq,M0];constructor
  .rintro⟨x,hx,e⟩;exact⟨x,hx,Qe e⟩
  .rintro⟨x,hx,e⟩;exact⟨x,hx,Je e⟩
 rw[e];exact⟨.bl _,H,I.tok _,rfl,q⟩
end L2
namespace L3
open L2
noncomputable def aw:D->(Sl->Prop)->Prop
 | .list b,Q=>∃a:List (Qn×D),(b=a.map λp=>.tuple [tI p.1,p.2])/\(a.map (·.1)).Nodup/\Q (.ow<|rH a)
 |_,_=>Ln
theorem mC{K:Fg}{F:Hp}:∀{c:List (Qn×D)}{ys:List V},DaAll K F ys (c.map λp=>.tuple [tI p.1,p.2]) -> ∃a:List (Qn×Ee×V),ys.length=a.length/\(∀(i:Nat) x,a[i]?=some x->∃q,ys[i]?=some (.ref q)/\F q=some (.tup [.ref x.2.1,x.2.2]))/\DaPd K F a c
 |[],_,h=>by cases h;exact⟨[],rfl,λi x e=>by simp at e,.nil⟩
 |p::c,_,h=>by
  cases h with
  |@cons v _ _ _ h t =>
   obtain⟨a,d,j,k⟩:=mC t;cases h with
   |@tup q us _ eq tt =>
    obtain⟨y,u,rfl,hy,l⟩:=tt.both;obtain⟨b,rfl,m⟩:=xN hy;refine⟨(p.1,b,u)::a,by simp[d],λi x ex=>?_,.cons m l k⟩;cases i with
    |zero=>cases ex;exact⟨q,rfl,eq⟩
    |succ i=>exact j i x ex
theorem yy{K:Fg}:RZ K (Yk K) (o1 aw):=Bq λG F σ H ρ x d Q P R j w k=>by
 cases d<;>first|exact w.elim|skip
 rename_i U;obtain⟨m,e,t,w⟩:=w;subst e;obtain⟨a,us,rfl,v,y⟩:=j.list R.sub;obtain⟨c,g2,B,b⟩:=mC y;refine⟨a,us,c,rfl,SqL.of v,g2,λi x ex=>?_,λx hx=>R.sub _ _<|b.at x hx,by rw[b.keys];exact t,λl C hl=>?_⟩
 .obtain⟨q,I,L⟩:=B i x ex;exact⟨q,I,R.sub _ _ L⟩
 .obtain⟨M,O⟩:=R.newOw (o:=CK hL l C c) (d:=rH m) hl<|Own1.pd b;exact k _ _ F _ (Sub.refl _) M O w
noncomputable def FR:D->D->(Sl->Prop)->Prop
 | .tuple b,.dict [(.bool false,.list L)],Q=>∃(a:List (Qn×D)) (k:Qn),L=a.map (λp=>.tuple [tI p.1,p.2])/\b=k.map q0/\Q (.fz (.bool (decide (k∈a.map (·.1)))))
 |_,_,_=>Ln
theorem GR{K:Fg}:RZ K (dU B') (o2 FR):=Yv λG F σ H ρ x y d e Q U R j l w k=>by
 unfold FR at w;split at w
 rotate_left
 .exact w.elim
 rename_i Y L w;obtain⟨m,kk,a,rfl,w⟩:=w;obtain⟨b,q,v,ys,B,rfl,C,t,I⟩:=AN R.sub l;have M:m=B:=jC (by unfold rH;rw[<-a,I]);subst M;obtain⟨c,us,rfl,O,i,hd⟩:=j.tuple R.sub;rw[hd.intsV]at i;rw[<-t.keys]at w;exact⟨b,q,c,v,ys,kk,rfl,rfl,C,λz P=>R.sub _ _<|t.at z P,i,k _ _ F (.fz<|.bool _) (Sub.refl _) R (Da.bl _) w⟩
section
variable {K:Fg}{e e1 e2:We}{a b:AD}{p pos:Pos}
theorem nC(c:X.K=K)(d:X.calm=true)(i:X.A.units+6<Mf)(j:X.mg "dict"=none)(k:Qf "dict"=some (.type "dict"))(l:WA X [e] (vZ<|[a].map (mZ K)))(m:Gl X "dict":=by rfl)(q:xZ e=true:=by rfl) :
  WE X (.Call (.Name "dict" p) [e] [] pos) (lift K<|zW [a]<|o1 aw):=by
 subst c;exact WK yy (Yq d i) j k l m (by decide) (by decide) q rfl
theorem G'(c:X.A.units+6<Mf)(d:WE X e1 (mZ K a))(i:WE X e2 (mZ K b))(j:Rh .In e2=false:=by rfl):WT X (.Compare e1 [.In] [e2] pos) (yZ K<|oq<|zW [a,b]<|o2 FR):=⟨Cc GR<|Yx (ER c) d.h i.h j⟩
end
noncomputable def cY(F:Hp):Hp:=λb=>match F b with
 |some (.tup a)=>some<|.tup a
 |_=>none
theorem gF{o:HO}(h:cY F b=some o):F b=some o/\∃a,o=.tup a:=by
 unfold cY at h;split at h
 .rename_i a e;cases h;exact⟨e,a,rfl⟩
 .cases h
theorem SH(h:F b=some (.tup zs)):cY F b=some (.tup zs):=by unfold cY;rw[h]
theorem rD{K:Fg}(h:Da K F v (tI p)):Da K (cY F) v (tI p):=by obtain⟨b,rfl,a⟩:=xN h;exact .tup (SH a)<|DaAll.ints p
theorem ZL{K:Fg}(h:Da K F v (.tuple [tI p,tI q])):Da K (cY F) v (.tuple [tI p,tI q]):=by
 cases h with
 |tup e t=>obtain⟨c,d,rfl,a,b⟩:=t.both;exact .tup (SH e)<|.cons (rD a)<|.cons (rD b) .nil
theorem zy{K:Fg}{g:Ee}{o:HO}(s:Sub F0 H)(c:F0 g=none)(k:H g=some o)(l:Own1 K F0 o d1)(m:Da K F0 v0 d0)(q:Da K F0 v2 d2)(v:Da K F0 v3 b):Rel K ⟨H,F0,λi=>if i=1 then some g else none⟩ F0 [some v0,some<|.ref g,some v2,some v3] H [some<|.fz d0,some<|.io d1,some<|.fz d2,some<|.fz b]:=by
 refine⟨rfl,s,Sub.refl _,λ_ _ e=>.inl e,λ_ _ e _=>e,λi d e=>?_,λi t e w=>?_,λi d a e F=>?_,λi a e=>?_,λi d e=>?_,λi j t u a x y B C _ _=>?_⟩
 .match i,e with
  |0,e=>cases e;exact⟨_,rfl,m⟩
  |1,e=>cases e
  |2,e=>cases e;exact⟨_,rfl,q⟩
  |3,e=>cases e;exact⟨_,rfl,v⟩
  |i+4,e=>simp at e
 .match i,e with
  |0,e=>cases e;cases w
  |1,e=>cases e;exact⟨g,o,rfl,c,k,l⟩
  |2,e=>cases e;cases w
  |3,e=>cases e;cases w
  |i+4,e=>simp at e
 .match i,e with
  |0,e=>cases e
  |1,e=>cases e
  |2,e=>cases e
  |3,e=>cases e
  |i+4,e=>simp at e
 .by_cases z:i=1
  .subst z;cases e;exact⟨_,rfl,rfl⟩
  .have e:(if i=1 then some g else none)=some a:=e;rw[Ce z]at e;cases e
 .match i,e with
  |0,e=>cases e
  |1,e=>exact⟨g,rfl⟩
  |2,e=>cases e
  |3,e=>cases e
  |i+4,e=>simp at e
 .have own:∀{i:Nat}{t:Sl},([some<|.fz d0,some<|.io d1,some<|.fz d2,some<|.fz b]:Ev)[i]?=some (some t)->WZ t=true->i=1:=λ{i t} e w=>by
   match i,e with
   |0,e=>cases e;cases w
   |1,e=>rfl
   |2,e=>cases e;cases w
   |3,e=>cases e;cases w
   |i+4,e=>simp at e
  rw[own x y,own B C]
noncomputable def oC(x i j m n:Nat)(a:Con)(c:MW):IY:=λE ρ=>∃(sd st lo hi:Qn) (k:Int),ρ[i]?=some (some<|.fz<|tI sd)/\ρ[j]?=some (some<|.ow<|.list<|st.map .int)/\ρ[m]?=some (some<|.fz<|.tuple [tI lo,tI hi])/\ρ[n]?=some (some<|.fz<|.int k)/\ZV ρ x /\
 a [.fz<|tI sd,.io<|.list<|st.map .int,.fz<|.tuple [tI lo,tI hi],.fz<|.int k] λr o=>o[1]?=some (some<|.io<|.list<|st.map .int)/\∃d l1:List D,r=.fz (.tuple [.list d,.list l1])/\d.length<sizeLine /\
  c ((frz ρ).set x<|some<|.fz<|.tuple [.list d,.list l1]) λb _=>if b=true then E.rt (.fz<|.bool false) (ρ.set x none) else E.nx (ρ.set x none)
theorem aM{K:Fg}{E:Ends}(h:qZ K (oC x i j m n con c) E σ H):cv (eV (VU (iZ K con) [] E0<|DW (IK i)<|DW (IK j)<|DW (IK m)<|DW (IK n) sv)<|FY x) (cv (YE (yZ K c) (fv<|tC<|.bl false) Ux)<|cv (XD<|Ba K "list" MF (dI (vv K) (IK x)<|tC<|.int 0)<|DW (tC<|.int 0) sv)<|XD<|BO K "list" wu<|dI (vv K) (IK x)<|tC<|.int 1) E σ H:=by
 obtain⟨G,F,ρ,D,R,⟨sd,st,lo,hi,k,ei,ej,em,en,nx,w⟩,nn,r,b,ct⟩:=h;obtain⟨v0,hv0,d0⟩:=R.fz i _ ei;obtain⟨g,og,hvj,fg,hg,a⟩:=R.ow j _ ej rfl;obtain⟨v2,hv2,d2⟩:=R.fz m _ em;obtain⟨v3,hv3,d3⟩:=R.fz n _ en;cases d3;cases og with
 |lst ys =>
  have a:DaAll K F ys (st.map q0):=a;have sF:Sub (cY F) F:=λb o e=>(gF e).1;have f0g:cY F g=none:=by
   cases z:cY F g with
   |none=>rfl
   |some o=>rw[sF _ _ z]at fg;cases fg
  have Rc:=zy (K:=K) (d1:=.list<|st.map q0) (sF.trans R.sub) f0g hg (show DaAll K (cY F) ys (st.map q0) from (iU a).2) (rD d0) (ZL d2)<|Da.int k;refine⟨_,hv0,_,hvj,_,hv2,_,hv3,⟨_,_,_,_,Rc,w,λv H1 F1 r1 ρ1 s1 B wo ⟨o1,l0,l1,er,je,w1⟩=>?_⟩⟩;subst er;have wo:Da K F1 v (.tuple [.list l0,.list l1]):=wo;obtain⟨g',og',gv,fg1,hg1,ip⟩:=B.ow 1 _ o1 rfl;cases gv;have hH:Sub H H1:=λq u e=>by
   by_cases z:q=g
   .subst z;rw[hg]at e;cases e;cases og' with
    |lst xh=>have ip:DaAll K F1 xh (st.map q0):=ip;rw[hg1,(iU (F':=F) ip).1,(iU (F':=F) a).1]
    |_=>exact(ip:Ln).elim
   .refine B.keep q u e λk L=>?_;have L:(if k=1 then some g else none)=some q:=L;split at L
    .cases L;exact z rfl
    .cases L
  have Rm:=R.more hH;have Rb:=Rm.blank (v:=v) nx;have hda:Da K H1 v (.tuple [.list l0,.list l1]):=wo.mono B.sub;have Rt:=Rm.all.asg (s:=.fz<|.tuple [.list l0,.list l1]) (WB nx) hda;refine⟨_,_,_,_,Rt,w1,λb2 H2 F2 ρ2 s2 R2 q2=>?_⟩;have d:Sub H1 H2:=s2.trans R2.sub;have M:=Rb.more d;have hlx:x<σ.length:=by
   unfold ZV at nx;cases e:ρ[x]? with
   |none=>rw[e]at nx;exact nx.elim
   |some y=>rw[R.len];exact wJ e
  have sx:(σ.set x<|some v)[x]?=some (some v):=UK hlx;cases b2 with
  |true=>exact r (.bl false) _ H2 F (.fz<|.bool false) _ (Sub.refl _) M (Da.bl false) q2
  |false =>
   cases wo with
   |tup hta O =>
    rename_i P xs';obtain⟨u0,u1,rfl,e0,e1⟩:=O.both;cases e0 with
    |lst hb0 db0 =>
     rename_i C l;cases e1 with
     |lst mi db1 =>
      rename_i U vs1;have fresh:∀{b:Ee}{vs:List V},F1 b=some (.lst vs)->H b=none:=λ{b vs} hb=>by
       rcases B.fn b _ hb with z|z
       .obtain⟨_,zs,z⟩:=gF z;cases z
       .exact z
      have n0:=fresh hb0;have n1:=fresh mi;have uo:=d _ _<|B.sub _ _ hta;have I:=d _ _<|B.sub _ _ hb0;have hc1:=d _ _<|B.sub _ _ mi;have t:∀{q:Ee},H q=none->∀(k:Nat) (s:Sl),(ρ.set x none)[k]?=some (some s)->WZ s=true->(σ.set x<|some<|V.ref P)[k]?≠some (some<|V.ref q):=λ{q} hq k s e w' z=>by
       rcases sZ e with⟨rfl,u⟩|⟨nk,u⟩
       .cases u
       .rw[P1<|G3 nk]at z;exact R.nobody hq k s u w' z
      have hl0:l.length<sizeLine:=by rw[db0.length];exact je
      have Rc1:=M.scrap (o:=.lst<|l++[.int 0]) (R.f0 n0) (R.h0 n0)<|t n0;refine⟨_,sx,P,_,0,.ref C,rfl,rfl,SqT.of uo,rW (j:=0) rfl,.inl ⟨rfl,_,SqL.of I⟩,C,_,_,rfl,rfl,I,hl0,?_⟩;have nt:P≠C:=λz=>by rw[z,I]at uo;cases uo
      have Y:bJ H2 C (.lst<|l++[.int 0]) P=some (.tup [.ref C,.ref U]):=by rw[pZ nt];exact uo
      obtain⟨Z,mh⟩:∃Z,bJ H2 C (.lst<|l++[.int 0]) U=some (.lst Z):=by
       by_cases z:U=C
       .rw[z];exact⟨_,HZ⟩
       .rw[pZ z];exact⟨_,hc1⟩
      have Rc2:=Rc1.scrap (o:=.lst []) (R.f0 n1) (R.h0 n1)<|t n1;refine⟨_,sx,P,_,1,.ref U,rfl,rfl,SqT.of Y,rW (j:=1) rfl,.inl ⟨rfl,_,SqL.of mh⟩,U,_,rfl,rfl,mh,?_⟩;exact nn _ _ F _ (Sub.refl _) Rc2 q2
 |_=>exact(a:Ln).elim
section
variable {K:Fg}{ec:We}{p p1 p2 p3 p4 p5 p6 p7 p8 p9 pa pb pc pd pe pf pg ph pi' pj pk pl pm pn:Pos}{x y a b c d:Str}{tc:MW}
theorem bM{i j m l k:Nat}{kk q t v:Nat}{I:List Str}{e:Con}(C:Cal X.prog X.w X.K X.mg X.base k y I (iZ K e))(L:Room k X.A)(M:X.K=K)(hi:WE X (.Name a p1) (mZ K<|.inl i))(O:WE X (.Name b p2) (mZ K<|.inl j))(P:WE X (.Name c p3) (mZ K<|.inl m))(hl:WE X (.Name d p4) (mZ K<|.inl l))
  (hN:X.N.Nodup) (R:X.N[n]?=some x) (hx:HE X.env.scope x) (U:WE X (.Name x p5) (mZ K<|.inl n)) (B:WE X (.Name x p6) (mZ K<|.inl n)) (G:WT X ec (yZ K tc))
  (hf:X.fn x=true\/X.env.scope.names.lookup x=some .local:=by first|exact .inl rfl|exact .inr rfl|assumption) (Y:Gl X y:=by rfl) (Z:(y==("__debug__":Str))=false:=by decide)
  (mi:Kg (.Subscript (.Name x p5) (.Constant (.int 0) q p7) p8) "append" X.env (Rf (.Subscript (.Name x p5) (.Constant (.int 0) q p7) p8) X.env)=Rf (.Subscript (.Name x p5) (.Constant (.int 0) q p7) p8) X.env:=by rfl)
  (yg:Kg (.Subscript (.Name x p6) (.Constant (.int 1) t p9) pa) "clear" X.env (Rf (.Subscript (.Name x p6) (.Constant (.int 1) t p9) pa) X.env)=Rf (.Subscript (.Name x p6) (.Constant (.int 1) t p9) pa) X.env:=by rfl)
  (xm:((Wf pc<|Re [.Constant (.int 0) v pb] X.env).all (λx=>!x.1)&&(Mm pc<|Li [] X.env).all (λx=>x.1.isSome)&&decide (([.Constant (.int 0) v pb]:List We).length+([]:List Qh).length+(if ([]:List Qh).isEmpty then 0 else 1)<30))=true:=by rfl)
  (gf:(pd.endLine==pc.line)=true:=by rfl) (af:(pe.endLine==pf.line)=true:=by rfl) :
  WSs X [.Assign [.Name x pg] (.Call (.Name y ph) [.Name a p1,.Name b p2,.Name c p3,.Name d p4] [] pi') pj,.If ec [.Return (some<|.Constant (.bool false) kk pk) pl] [] pm,
    .Expr (.Call (.Attribute (.Subscript (.Name x p5) (.Constant (.int 0) q p7) p8) "append" pd) [.Constant (.int 0) v pb] [] pc) p,.Expr (.Call (.Attribute (.Subscript (.Name x p6) (.Constant (.int 1) t p9) pa) "clear" pe) [] [] pf) pn] (qZ K<|oC n i j m l e tc):=by
 subst M;exact⟨zP (cV (Yz hN R hx (Lu C L (cK hi.h<|cK O.h<|cK P.h<|cK hl.h TV) Y Z) rfl hf)<|cV (TM G.h (EF<|Xz SM) Vx)
   (cV (FF<|WM PySem.F.plainAttrs_list PySem.F.slot_list_append PySem.F.type_list_append WJ (ou ij U.h RV<|λ_ _=>rfl) (cK RV TV) mi xm gf)
     (EF<|FF<|tu PySem.F.plainAttrs_list PySem.F.slot_list_clear PySem.F.type_list_clear xu (ou ij B.h RV<|λ_ _=>rfl) yg af))) aM⟩
end
end L3
namespace RM
noncomputable def GZ:Nat->(Nat->Int)->Int
 |0,g=>g 0
 |n+1,g=>GZ n g+g (n+1)
theorem BJ:∀(n:Nat) {g h:Nat->Int},(∀i,i<=n->g i=h i)->GZ n g=GZ n h
 |0,g,h,e=>e 0<|V0 _
 |n+1,g,h,e=>by show GZ n g+g (n+1)=GZ n h+h (n+1);rw[BJ n λi hi=>e i<|by omega,e (n+1)<|V0 _]
theorem iF:∀(n:Nat) (g h:Nat->Int),GZ n (λi=>g i-h i)=GZ n g-GZ n h
 |0,g,h=>rfl
 |n+1,g,h=>by show GZ n (λi=>g i-h i)+(g (n+1)-h (n+1))=GZ n g+g (n+1)-(GZ n h+h (n+1));rw[iF n g h];omega
theorem TH:∀n:Nat,GZ n (λ_=>0)=0
 |0=>rfl
 |n+1=>by show GZ n (λ_=>0)+0=0;rw[TH n];rfl
noncomputable def prodN:Qn->Nat
 |[]=>1
 |a::r=>a.toNat*prodN r
theorem prodN_pos:∀{l:Qn},(∀c∈l,1<=c)->1<=prodN l
 |[],_=>V0 _
 |a::r,h=>by have e:=h a L0;have b:=prodN_pos (l:=r) λc d=>h c<|G0 _ d;exact yX (show 1<=a.toNat by omega) b
noncomputable def pre:Qn->(Nat->Int)->Nat->Int
 |[],f,k=>f k
 |_::r,f,k=>GZ (k / prodN r) λi=>pre r (λa=>f<|i*prodN r+a)<|k % prodN r
noncomputable def dif:Qn->(Nat->Int)->Nat->Int
 |[],f,k=>f k
 |_::r,f,k=>dif r (λa=>f<|k / prodN r*prodN r+a) (k % prodN r)-(if k / prodN r=0 then 0 else dif r (λa=>f<|(k / prodN r-1)*prodN r+a) (k % prodN r))
theorem pre_congr:∀(sd:Qn),(∀c∈sd,1<=c)->∀{f g:Nat->Int} (k:Nat),k<prodN sd->(∀i,i<prodN sd->f i=g i)->pre sd f k=pre sd g k
 |[],_,f,g,k,b,e=>e k b
 |a::r,j,f,g,k,b,e=>by have d:∀c∈r,1<=c:=λc l=>j c<|G0 _ l;have t:=prodN_pos d;have m:k<a.toNat*prodN r:=b;have v:k / prodN r<a.toNat:=t8 (by rw[G4];exact m);refine BJ _ λi hi=>pre_congr r d _ (Z7 _<|by omega) λq w=>e _ ?_;show i*prodN r+q<a.toNat*prodN r;have:(i+1)*prodN r<=a.toNat*prodN r:=P7 _ (by omega);rw[F8]at this;omega
theorem dif_congr:∀(sd:Qn),(∀c∈sd,1<=c)->∀{f g:Nat->Int} (k:Nat),k<prodN sd->(∀i,i<prodN sd->f i=g i)->dif sd f k=dif sd g k
 |[],_,f,g,k,j,e=>e k j
 |a::r,q,f,g,k,j,e=>by
  have l:∀c∈r,1<=c:=λc t=>q c<|G0 _ t;have y:=prodN_pos l;have v:k<a.toNat*prodN r:=j;have m:k / prodN r<a.toNat:=t8 (by rw[G4];exact v);have row:∀i,i<a.toNat->∀b,b<prodN r->i*prodN r+b<a.toNat*prodN r:=λi hi b d=>by have:(i+1)*prodN r<=a.toNat*prodN r:=P7 _ (by omega);rw[F8]at this;omega
  have w:=dif_congr r l (f:=λb=>f<|k / prodN r*prodN r+b) (g:=λb=>g<|k / prodN r*prodN r+b) (k % prodN r) (Z7 _<|by omega) λb d=>e _<|row _ m _ d;have x:=dif_congr r l (f:=λb=>f<|(k / prodN r-1)*prodN r+b) (g:=λb=>g<|(k / prodN r-1)*prodN r+b) (k % prodN r) (Z7 _<|by omega) λb d=>e _<|row _ (W0 (R7 _ _) m) _ d;show dif r _ _-_=dif r _ _-_;rw[w,x]
theorem bw:∀(sd:Qn) (f g:Nat->Int) (k:Nat),pre sd (λi=>f i-g i) k=pre sd f k-pre sd g k
 |[],f,g,k=>rfl
 |a::r,f,g,k=>by show GZ _ (λi=>pre r (λb=>f (i*prodN r+b)-g (i*prodN r+b))<|k % prodN r)=_;rw[show (λi=>pre r (λb=>f (i*prodN r+b)-g (i*prodN r+b))<|k % prodN r)=λi=>pre r (λb=>f<|i*prodN r+b) (k % prodN r)-pre r (λb=>g<|i*prodN r+b) (k % prodN r) from funext λi=>bw r _ _ _];exact iF _ _ _
theorem Zq:∀(sd:Qn) (k:Nat),pre sd (λ_=>0) k=0
 |[],k=>rfl
 |a::r,k=>by show GZ _ (λi=>pre r (λ_=>0)<|k % prodN r)=0;rw[show (λi:Nat=>pre r (λ_=>0)<|k % prodN r)=λ_=>0 from funext λi=>Zq r _];exact TH _
theorem sD:∀(sd:Qn) (f g:Nat->Int) (k:Nat),dif sd (λi=>f i+g i) k=dif sd f k+dif sd g k
 |[],f,g,k=>rfl
 |a::r,f,g,k=>by show dif r (λb=>f (k / prodN r*prodN r+b)+g (k / prodN r*prodN r+b)) _-(if k / prodN r=0 then 0 else dif r (λb=>f ((k / prodN r-1)*prodN r+b)+g ((k / prodN r-1)*prodN r+b)) _)=(dif r _ _-_)+(dif r _ _-_);rw[sD r,sD r];split<;>omega
theorem jF(sd:Qn):∀(n:Nat) (f:Nat->Nat->Int) (k:Nat),dif sd (λi=>GZ n λj=>f j i) k=GZ n λj=>dif sd (f j) k
 |0,f,k=>rfl
 |n+1,f,k=>by show dif sd (λi=>GZ n (λj=>f j i)+f (n+1) i) k=_;rw[sD,jF sd n];rfl
theorem dif_pre:∀(sd:Qn),(∀c∈sd,1<=c)->∀(f:Nat->Int) (k:Nat),k<prodN sd->dif sd (pre sd f) k=f k
 |[],_,f,k,_=>rfl
 |a::r,w,f,k,y=>by
  have m:∀c∈r,1<=c:=λc x=>w c<|G0 _ x;have B:=prodN_pos m;have row:∀i b,b<prodN r->pre (a::r) f (i*prodN r+b)=GZ i λj=>pre r (λe=>f<|j*prodN r+e) b:=λi b l=>by show GZ ((i*prodN r+b) / prodN r) (λj=>pre r _<|(i*prodN r+b) % prodN r)=_;rw[G4 i,Z9<|by omega,m7 l,hX,L6 l,b8]
  have t:=Z7 k (show 0<prodN r by omega);have val:∀i,dif r (λb=>pre (a::r) f<|i*prodN r+b) (k % prodN r)=GZ i λj=>f (j*prodN r+k % prodN r):=λi=>by rw[dif_congr r m (g:=λb=>GZ i λj=>pre r (λe=>f<|j*prodN r+e) b) _ t λb l=>row i b l,jF];refine BJ _ λj _=>?_;exact dif_pre r m (λe=>f<|j*prodN r+e) _ t
  show dif r _ _-_=f k;rw[val,val];have d:k / prodN r*prodN r+k % prodN r=k:=by rw[G4];exact T8 k<|prodN r
  cases v:k / prodN r with
  |zero=>rw[v]at d;rw[De rfl];show f (0*prodN r+k % prodN r)-0=f k;rw[d];omega
  |succ q=>rw[v]at d;rw[Ce<|by omega,Nat.add_sub_cancel];show GZ q _+f ((q+1)*prodN r+k % prodN r)-GZ q _=f k;rw[d];omega
theorem pre_dif:∀(sd:Qn),(∀c∈sd,1<=c)->∀(f:Nat->Int) (k:Nat),k<prodN sd->pre sd (dif sd f) k=f k
 |[],_,f,k,_=>rfl
 |a::r,t,f,k,B=>by
  have e:∀c∈r,1<=c:=λc v=>t c<|G0 _ v;have C:=prodN_pos e;have l:=Z7 k (show 0<prodN r by omega);have row:∀i b,b<prodN r->dif (a::r) f (i*prodN r+b)=dif r (λd=>f<|i*prodN r+d) b-(if i=0 then 0 else dif r (λd=>f<|(i-1)*prodN r+d) b):=λi b j=>by
   have w:(i*prodN r+b) / prodN r=i:=by rw[G4 i,Z9<|by omega,m7 j,b8]
   have x:(i*prodN r+b) % prodN r=b:=by rw[G4 i,hX,L6 j]
   show dif r (λd=>f<|(i*prodN r+b) / prodN r*prodN r+d) ((i*prodN r+b) % prodN r)-(if (i*prodN r+b) / prodN r=0 then 0 else dif r (λd=>f<|((i*prodN r+b) / prodN r-1)*prodN r+d) ((i*prodN r+b) % prodN r))=_;rw[w,x]
  have val:∀i,pre r (λb=>dif (a::r) f<|i*prodN r+b) (k % prodN r)=f (i*prodN r+k % prodN r)-(if i=0 then 0 else f ((i-1)*prodN r+k % prodN r)):=λi=>by
   rw[pre_congr r e (g:=λb=>dif r (λd=>f<|i*prodN r+d) b-(if i=0 then 0 else dif r (λd=>f<|(i-1)*prodN r+d) b)) _ l λb j=>row i b j,bw,pre_dif r e (λd=>f<|i*prodN r+d) _ l];by_cases h0:i=0
   .simp only[De h0];rw[Zq]
   .simp only[Ce h0];rw[pre_dif r e (λd=>f<|(i-1)*prodN r+d) _ l]
  have m:∀q,GZ q (λi=>pre r (λb=>dif (a::r) f<|i*prodN r+b)<|k % prodN r)=f (q*prodN r+k % prodN r):=by
   intro q;induction q with
   |zero=>show pre r (λb=>dif (a::r) f<|0*prodN r+b) _=_;rw[val 0];simp
   |succ q y=>show GZ q _+pre r (λb=>dif (a::r) f<|(q+1)*prodN r+b) _=_;rw[y,val<|q+1,Ce<|by omega,Nat.add_sub_cancel];omega
  show GZ (k / prodN r) _=f k;rw[m];congr 1;rw[G4];exact T8 k<|prodN r
noncomputable def prodI:Qn->Int
 |[]=>1
 |a::r=>a*prodI r
theorem prodI_append(l r:Qn):prodI (l++r)=prodI l*prodI r:=by
 induction l with
 |nil=>show prodI r=1*prodI r;rw[Z4]
 |cons a l b=>show a*prodI (l++r)=a*prodI l*prodI r;rw[b,x5]
theorem prodI_rev:∀l:Qn,prodI l.reverse=prodI l
 |[]=>rfl
 |a::r=>by rw[List.reverse_cons,prodI_append,prodI_rev r];show prodI r*(a*1)=a*prodI r;rw[Z8,X6]
noncomputable def rowP(a:Qn)(n:Nat):List Qn:=(G2 n).map λi:Nat=>a++[(i:Int)]
noncomputable def stepP(a:List Qn)(n:Int):List Qn:=a.flatMap λb=>rowP b n.toNat
noncomputable def placesOf(sd:Qn):List Qn:=sd.foldl stepP [[]]
theorem pC(a:Qn)(n:Nat):(rowP a n).length=n:=by simp[rowP]
theorem Ay(b:List Qn)(n:Int):(stepP b n).length=b.length*n.toNat:=by
 induction b with
 |nil=>simp[stepP]
 |cons a r c =>
  have:stepP (a::r) n=rowP a n.toNat++stepP r n:=by simp[stepP]
  rw[this,R0,c,pC,L1,o8];lia
theorem kF:∀(sd:Qn) (f:List Qn),(∀c∈sd,1<=c)->((sd.foldl stepP f).length:Int)=f.length*prodI sd
 |[],f,_=>by show (f.length:Int)=f.length*1;lia
 |a::r,f,h=>by have b:=h a L0;rw[S4,kF r _ λc d=>h c<|G0 _ d,Ay];show ((f.length*a.toNat:Nat):Int)*prodI r=f.length*(a*prodI r);rw[K7,W6<|Q1<|X2.1<|G1 b,x5]
noncomputable def Db(p:Qn)(o:Qn):List Bool:=(o.zip p).map λa=>decide<|a.1<=a.2
noncomputable def leq(p:Qn)(o:Qn):Bool:=(Db p o).all id
noncomputable def tot(p:Qn)(c:List (Qn×Int)):Int:=c.foldl (λa b=>if leq p b.1=true then a+b.2 else a) 0
noncomputable def runOf(sd cs:Qn):Qn:=(placesOf sd).map λp=>tot p<|(placesOf sd).zip cs
noncomputable def addT(b step:Int)(a:Qn)(i:Nat):Qn:=if 0<(i:Int) / step % b then a.set i (a.getD i 0+a.getD (i-step.toNat) 0) else a
noncomputable def addN(a step:Int)(b:Qn):Nat->Qn
 |0=>b
 |j+1=>addT a step (addN a step b j)<|step.toNat+j
theorem qC(b step:Int)(a:Qn)(i:Nat):(addT b step a i).length=a.length:=by unfold addT;split<;>simp
theorem addN_len(b step:Int)(a:Qn):∀j,(addN b step a j).length=a.length
 |0=>rfl
 |j+1=>by show (addT _ _ _ _).length=_;rw[qC,addN_len b step a j]
noncomputable def addAlong(b step:Int)(a:Qn):Qn:=addN b step a<|a.length-step.toNat
noncomputable def runProg:Qn->Int->Qn->Qn
 |[],_,b=>b
 |a::r,st,b=>runProg r (st*a)<|addAlong a st b
theorem addAlong_len(a st:Int)(b:Qn):(addAlong a st b).length=b.length:=addN_len _ _ _ _
theorem runProg_len:∀(l:Qn) (st:Int) (b:Qn),(runProg l st b).length=b.length
 |[],_,_=>rfl
 |a::r,st,b=>by show (runProg r _ _).length=_;rw[runProg_len r,addAlong_len]
theorem FV:∀(l:Qn) (a st:Int) (c:Qn),runProg (l++[a]) st c=addAlong a (st*prodI l) (runProg l st c)
 |[],a,st,c=>by show addAlong a st c=addAlong a (st*1) c;rw[Z8]
 |b::r,a,st,c=>by show runProg (r++[a]) (st*b) (addAlong b st c)=_;rw[FV r a (st*b)<|addAlong b st c];show _=addAlong a (st*(b*prodI r)) (runProg r (st*b)<|addAlong b st c);rw[x5]
theorem VW:∀(n:Nat) (g:Nat->Int),GZ (n+1) g=g 0+GZ n λt=>g<|t+1
 |0,g=>rfl
 |n+1,g=>by show GZ (n+1) g+g (n+1+1)=g 0+(GZ n (λt=>g<|t+1)+g (n+1+1));rw[VW n g];exact CQ _ _ _
theorem lF:∀(n:Nat) (g:Nat->Int),GZ n (λt=>g<|n-t)=GZ n g
 |0,g=>rfl
 |n+1,g=>by
  rw[VW];have e:GZ n (λt=>g<|n+1-(t+1))=GZ n (λt=>g<|n-t):=BJ n λi _=>by rw[Nat.add_sub_add_right]
  rw[e,lF n g];show g (n+1-0)+GZ n g=GZ n g+g (n+1);rw[gQ];exact Int.add_comm _ _
theorem prodN_I:∀{l:Qn},(∀c∈l,1<=c)->prodI l=(prodN l:Int)
 |[],_=>rfl
 |a::r,h=>by have b:=h a L0;show a*prodI r=((a.toNat*prodN r:Nat):Int);rw[prodN_I λc d=>h c<|G0 _ d,K7,W6<|Q1 b]
theorem pre_congrU:∀(sd:Qn) {f g:Nat->Int} (k:Nat),(∀i,f i=g i)->pre sd f k=pre sd g k
 |[],f,g,k,e=>e k
 |a::r,f,g,k,e=>BJ _ λi _=>pre_congrU r _ λb=>e _
theorem az{a st:Nat}(w:1<=a)(B:1<=st)(b:Qn):∀(j:Nat),j<=b.length-st->∀k,k<b.length -> (addN (a:Int) (st:Int) b j).getD k 0=if k<st+j then GZ (k / st % a) (λt=>b.getD (k-t*st) 0) else b.getD k 0
 |0,_,k,x=>by
  show b.getD k 0=_;split
  .rename_i h;rw[m7<|by omega,Nat.zero_mod];show _=b.getD (k-0*st) 0;rw[g9,gQ]
  .rfl
 |j+1,G,k,x=>by
  have y:=az w B b j<|N1 G;have M:=addN_len (a:Int) (st:Int) b j;have hi:st+j<b.length:=B7 G;show (addT (a:Int) (st:Int) (addN (a:Int) (st:Int) b j)<|(st:Int).toNat+j).getD k 0=_;rw[B4];have d:((st+j:Nat):Int) / (st:Int) % (a:Int)=(((st+j) / st % a:Nat):Int):=by rw[Int.natCast_emod,Int.natCast_ediv]
  have m:(st+j) / st=j / st+1:=by rw[B8,Nat.add_div_right _ B]
  unfold addT;rw[d,B4,W2];by_cases I:k=st+j
  .subst I;rw[De (by lia:st+j<st+(j+1))];by_cases l:0<(st+j) / st % a
   .rw[De (by exact E8.2 l),X0,h8 (by exact lt_of_lt_of_eq x M.symm),q5,y _ hi,Ce (by exact T2 _),y j (by exact i5 x),De<|by exact A9 B];obtain⟨q,c⟩:∃q,(st+j) / st % a=q+1:=⟨(st+j) / st % a-1,HX l rfl⟩;have C:j / st % a=q:=by
     rw[m]at c;have v:=Z7 (j / st) (show 0<a by exact w);rw[Nat.add_mod]at c;by_cases F:a=1
     .subst F;rw[Nat.mod_one]at c;exact False.elim<|T2 _<|B0 (Z7 _ w) l
     .rw[L6<|show 1<a by exact W0 l<|Z7 _ w]at c;by_cases L:j / st % a+1<a
      .rw[L6 L]at c;exact Nat.add_right_cancel c
      .have:j / st % a+1=a:=N3 v<|A1 L;rw[this,Nat.mod_self]at c;lia
    rw[c,C,VW];show _=b.getD (st+j-0*st) 0+_;rw[g9,gQ];congr 1;refine BJ q λi _=>?_;congr 1;rw[o8];lia
   .rw[Ce (by exact Y7<|c8.2<|A1 l),y _ hi,Ce<|by lia];have:(st+j) / st % a=0:=N3 (A1 l)<|j4 _;rw[this];show _=b.getD (st+j-0*st) 0;rw[g9,gQ]
  .have e:(if 0<(((st+j) / st % a:Nat):Int) then (addN (a:Int) (st:Int) b j).set (st+j) ((addN (a:Int) (st:Int) b j).getD (st+j) 0+(addN (a:Int) (st:Int) b j).getD j 0) else addN (a:Int) (st:Int) b j).getD k 0=(addN (a:Int) (st:Int) b j).getD k 0:=by
    split
    .rw[X0,P1<|G3 I,<-X0]
    .rfl
   rw[e,y k x];by_cases v:k<st+j
   .rw[De v,De<|by exact Z3<|N1 v]
   .rw[Ce v,Ce<|by lia]
theorem cM{b st:Nat}(c:1<=b)(d:1<=st)(a:Qn)(k:Nat)(e:k<a.length):(addAlong (b:Int) (st:Int) a).getD k 0=GZ (k / st % b) (λt=>a.getD (k-t*st) 0):=by
 unfold addAlong;rw[B4,az c d a _ (V0 _) k e];by_cases h:k<st+(a.length-st)
 .rw[De h]
 .lia
theorem prog_val:∀(sd:Qn),(∀c∈sd,1<=c)->∀(cs:Qn) (q:Nat),cs.length=q*prodN sd->∀k,k<cs.length -> (runProg sd.reverse 1 cs).getD k 0=pre sd (λd=>cs.getD (k / prodN sd*prodN sd+d) 0) (k % prodN sd)
 |[],_,cs,q,hl,k,j=>by show cs.getD k 0=cs.getD (k / 1*1+k % 1) 0;rw[Nat.div_one,Nat.mul_one,Nat.mod_one,b8]
 |a::r,h,cs,q,hl,k,j=>by
  have e:=h a L0;have l:∀c∈r,1<=c:=λc G=>h c<|G0 _ G;have v:=prodN_pos l;obtain⟨b,rfl⟩:∃b:Nat,a=(b:Int):=⟨a.toNat,eZ<|W6<|Q1 e⟩;have w:1<=b:=c8.1 e;have I:prodN ((b:Int)::r)=b*prodN r:=by show (b:Int).toNat*prodN r=_;rw[B4]
  rw[I]at hl ⊢;rw[List.reverse_cons,FV,Z4,prodI_rev,prodN_I l];have L:=prog_val r l cs (q*b) (by rw[hl,S8]);rw[cM w v _ k<|by rw[runProg_len];exact j];show _=GZ (k % (b*prodN r) / prodN r) λi=>pre r (λd=>cs.getD (k / (b*prodN r)*(b*prodN r)+(i*prodN r+d)) 0)<|k % (b*prodN r) % prodN r;generalize prodN r=m at *;have M:k % (b*m) / m=k / m % b:=by rw[G4 b m,Nat.mod_mul_right_div_self]
  have O:k % (b*m) % m=k % m:=Nat.mod_mul_left_mod k b m;have P:k / (b*m)=k / m / b:=by rw[G4 b m,Nat.div_div_eq_div_mul]
  rw[M,O,P,<-lF];refine BJ _ λt x=>?_;have hq:k / m % b<=k / m:=Nat.mod_le _ _;have y:=T8 (k / m) b;rw[G4 b]at y;obtain⟨u,B⟩:∃u,u=k / m % b-t:=⟨_,rfl⟩;rw[<-B];have R:u*m<=k:=A0 (P7 m<|show u<=k / m by lia)<|Nat.div_mul_le_self k m;rw[L (k-u*m)<|O9 j];have e8:k=(k / m-u)*m+k % m+u*m:=by
   have e:=T8 k m;rw[G4]at e;have h2:k / m*m=(k / m-u)*m+u*m:=by rw[<-o8,Nat.sub_add_cancel<|by lia]
   lia
  have C:k-u*m=k % m+m*(k / m-u):=by rw[G4 m];omega
  have F:=Z7 k (show 0<m by exact v);have U:(k-u*m) / m=k / m-u:=by rw[C,Nat.add_mul_div_left _ _ v,m7 F,Y6]
  have Y:(k-u*m) % m=k % m:=by rw[C,Nat.add_mul_mod_self_left,L6 F]
  rw[U,Y];refine pre_congrU r _ λd=>?_;congr 1;have Z:k / m-u=k / m / b*b+t:=jd y B x;rw[Z,o8,S8];exact W4 _ _ _
noncomputable def T(p:Qn):List Qn->(Nat->Int)->Nat->Int
 |[],_,_=>0
 |o::os,f,s=>(if leq p o=true then f s else 0)+T p os f (s+1)
theorem bz(p:Qn)(f:Nat->Int):∀(a ys:List Qn) (s:Nat),T p (a++ys) f s=T p a f s+T p ys f (s+a.length)
 |[],ys,s=>by show T p ys f s=0+T p ys f (s+0);rw[b8];lia
 |o::os,ys,s=>by show _+T p (os++ys) f (s+1)=_+T p os f (s+1)+T p ys f (s+(os.length+1));rw[bz p f os ys<|s+1,show s+1+os.length=s+(os.length+1) by exact M6 _ _];exact eZ<|CQ _ _ _
theorem cw(p:Qn)(f:Nat->Int):∀(a:List Qn) (s d:Nat),T p a f (d+s)=T p a (λk=>f<|d+k) s
 |[],_,_=>rfl
 |o::os,s,d=>by show (if leq p o=true then f (d+s) else 0)+T p os f (d+s+1)=(if leq p o=true then f (d+s) else 0)+T p os _ (s+1);rw[show d+s+1=d+(s+1) by exact W4 _ _ _,cw p f os (s+1) d]
theorem CN(p:Qn):∀(b:List Qn) (cs:Qn) (f:Nat->Int) (s:Nat) (a:Int),b.length=cs.length->(∀i,i<cs.length->f (s+i)=cs.getD i 0) -> (b.zip cs).foldl (λa d=>if leq p d.1=true then a+d.2 else a) a=a+T p b f s
 |[],_,f,s,a,_,_=>by show a=a+0;lia
 |o::os,[],f,s,a,h,_=>by simp at h
 |o::os,c::cs,f,s,a,h,hf=>by
  show (os.zip cs).foldl _ (if leq p o=true then a+c else a)=a+((if leq p o=true then f s else 0)+T p os f (s+1));have h0:=hf 0 (by simp);rw[b8]at h0;have h0:f s=c:=h0;rw[CN p os cs f (s+1) _ (by simpa using h) λi hi=>by have:=hf (i+1) (by simp;omega);rw[show s+1+i=s+(i+1) by exact M6 _ _,this];rfl];rw[h0];split<;>lia
theorem GV:∀(sd:Qn) (f g:List Qn),sd.foldl stepP (f++g)=sd.foldl stepP f++sd.foldl stepP g
 |[],f,g=>rfl
 |a::r,f,g=>by rw[S4,S4,S4,show stepP (f++g) a=stepP f a++stepP g a by simp[stepP],GV r]
theorem UH(c:Int):∀(sd:Qn) (f:List Qn),sd.foldl stepP (f.map (c::·))=(sd.foldl stepP f).map (c::·)
 |[],f=>rfl
 |a::r,f=>by rw[S4,S4,<-UH c r];congr 1;simp[stepP,rowP,NQ,M8];rfl
theorem mF:∀sd:Qn,sd.foldl stepP []=[]
 |[]=>rfl
 |a::r=>by rw[S4];exact mF r
theorem cz(a:Int)(r:Qn):placesOf (a::r)=(G2 a.toNat).flatMap λi:Nat=>(placesOf r).map ((i:Int)::·):=by
 have go:∀is:List Nat,r.foldl stepP (is.map λi:Nat=>[(i:Int)])=is.flatMap λi:Nat=>(placesOf r).map ((i:Int)::·):=by
  intro is;induction is with
  |nil=>exact mF r
  |cons i is b=>rw[Y0,V2,<-b];have:r.foldl stepP ([(i:Int)]::is.map λi:Nat=>[(i:Int)])=r.foldl stepP ([[(i:Int)]]++is.map λi:Nat=>[(i:Int)]):=rfl;rw[this,GV];congr 1;exact UH (i:Int) r [[]]
 have e:stepP [[]] a=(G2 a.toNat).map λi:Nat=>[(i:Int)]:=by simp[stepP,rowP]
 show r.foldl stepP (stepP [[]] a)=_;rw[e,go]
theorem leq_cons(i a:Int)(p o:Qn):leq (i::p) (a::o)=(decide (a<=i)&&leq p o):=rfl
theorem DN(i:Int)(a:Int)(p:Qn)(f:Nat->Int):∀(b:List Qn) (s:Nat),T (i::p) (b.map (a::·)) f s=if a<=i then T p b f s else 0
 |[],s=>by simp[T]
 |o::os,s=>by
  show (if leq (i::p) (a::o)=true then f s else 0)+T (i::p) (os.map (a::·)) f (s+1)=_;rw[leq_cons,DN i a p f os<|s+1];by_cases h:a<=i
  .rw[De h,De h];simp[h,T]
  .rw[Ce h,Ce h];simp[h]
theorem rC(i:Nat)(p:Qn)(f:Nat->Int)(a:List Qn):∀A:Nat,T ((i:Int)::p) ((G2 A).flatMap λj:Nat=>a.map ((j:Int)::·)) f 0 = if A=0 then 0 else GZ (min i<|A-1) λj=>T p a (λk=>f<|j*a.length+k) 0
 |0=>by simp[T]
 |A+1=>by
  rw[j8,V7,bz,rC i p f a A,c7,DN];have c:((G2 A).flatMap λj:Nat=>a.map ((j:Int)::·)).length=A*a.length:=by
   induction A with
   |zero=>simp
   |succ A d=>rw[j8,V7,R0,d,c7,g0,o8];lia
  rw[c,Y6,Ce (by lia:¬A+1=0)];have e:=cw p f a 0<|A*a.length;rw[b8]at e;by_cases b:A=0
  .subst b;rw[De rfl,De (by exact X4 _),show min i (0+1-1)=0 by lia];show 0+T p a f (0*a.length)=T p a (λk=>f<|0*a.length+k) 0;rw[<-e];exact i9 _
  .rw[Ce b];by_cases hi:A<=i
   .rw[De<|c8.2 hi,show min i (A+1-1)=(A-1)+1 by lia,show min i (A-1)=A-1 by lia];show _+T p a f (A*a.length)=GZ (A-1) _+T p a (λk=>f<|(A-1+1)*a.length+k) 0;rw[show A-1+1=A by lia,<-e]
   .rw[Ce<|by lia,show min i (A+1-1)=i by lia,show min i (A-1)=i by exact o5<|Nat.le_sub_one_of_lt<|N9 hi];exact Int.add_zero _
theorem XW(h:∀c∈sd,1<=c):(placesOf sd).length=prodN sd:=by have a:=kF sd [[]] h;rw[prodN_I h]at a;have b:(([[]]:List Qn).length:Int)=1:=rfl;rw[b]at a;unfold placesOf;lia
theorem dz{a:List Qn}{i j:Nat}(c:j<a.length):∀A:Nat,i<A->((G2 A).flatMap λt:Nat=>a.map ((t:Int)::·))[i*a.length+j]?=some ((i:Int)::a[j])
 |0,h=>False.elim<|T2 _<|zQ h
 |A+1,h=>by
  have b:((G2 A).flatMap λj:Nat=>a.map ((j:Int)::·)).length=A*a.length:=by
   clear h;induction A with
   |zero=>simp
   |succ A d=>rw[j8,V7,R0,d,c7,g0,o8];lia
  rw[j8,V7,c7];by_cases hi:i<A
  .rw[A3,dz c A hi];rw[b];have:=P7 a.length (show i+1<=A by exact hi);rw[o8]at this;lia
  .have:i=A:=Nat.eq_of_lt_succ_of_not_lt h hi;subst this;rw[S2 (by rw[b];exact T1 _ _),b,W2,S1,J0 c];rfl
theorem dw:∀(sd:Qn),(∀c∈sd,1<=c)->∀(f:Nat->Int) (k:Nat) (p:Qn),(placesOf sd)[k]?=some p->T p (placesOf sd) f 0=pre sd f k
 |[],_,f,k,p,b=>by
  have b:([[]]:List Qn)[k]?=some p:=b;cases k with
  |zero =>
   have:[]=p:=by simpa using b
   subst this;show (if leq [] []=true then f 0 else 0)+0=f 0;rw[De<|show leq [] []=true from rfl];exact Int.add_zero _
  |succ k=>simp at b
 |a::r,h,f,k,p,b=>by
  have w:=h a L0;have j:∀c∈r,1<=c:=λc m=>h c<|G0 _ m;have q:=prodN_pos j;have hl:=XW j;have d:k<(placesOf (a::r)).length:=(Y1.mp b).1;rw[XW h]at d;have d:k<a.toNat*prodN r:=d;have hi:k / prodN r<a.toNat:=t8 (by rw[G4];exact d);have l:k % prodN r<(placesOf r).length:=by rw[hl];exact Z7 _ q
  have t:k=k / prodN r*(placesOf r).length+k % prodN r:=by rw[hl,G4];exact(T8 k _).symm
  rw[cz]at b ⊢;have e:=dz (i:=k / prodN r) l a.toNat hi;rw[<-t,b]at e;have e:=E3 e;subst e;rw[rC,Ce (by exact V3<|zQ hi),show min (k / prodN r) (a.toNat-1)=k / prodN r by exact o5<|W1 hi];show _=GZ (k / prodN r) λi=>pre r (λv=>f<|i*prodN r+v)<|k % prodN r;refine BJ _ λi _=>?_;rw[hl];exact dw r j _ _ _<|J0 l
theorem runEq{cs:Qn}(b:∀c∈sd,1<=c)(d:cs.length=(placesOf sd).length):runProg sd.reverse 1 cs=runOf sd cs:=by
 have hl:=XW b;have w:=prodN_pos b;have l1:(runProg sd.reverse 1 cs).length=cs.length:=runProg_len _ _ _;have l2:(runOf sd cs).length=cs.length:=by unfold runOf;rw[g0,d]
 refine j7 (by rw[l1,l2]) λk l m=>?_;have e:k<cs.length:=B0 m<|P0 l2;have a:k<prodN sd:=lt_of_lt_of_eq e<|UX d hl;have j:=prog_val sd b cs 1 (by rw[d,hl,r8]) k e;rw[X0,J0 l,q5,m7 a,L6 a]at j;rw[j];have q:k<(placesOf sd).length:=B0 a<|P0 hl.symm;have t:(runOf sd cs)[k]=tot (placesOf sd)[k] ((placesOf sd).zip cs):=by simp[runOf]
 rw[t];have v:=CN (placesOf sd)[k] (placesOf sd) cs (λi=>cs.getD i 0) 0 0 d.symm λi _=>by rw[Y6]
 unfold tot;rw[v,dw sd b _ k _<|J0 q,i9];exact pre_congrU sd k λi=>by rw[g9,Y6]
end RM
namespace L3
open L2
section
variable {K:Fg}{e e1 e2:We}{es:List We}{a b:AD}{as:List AD}{td te:TD}{tc:MW}{t:IY}{p pos ze:Pos}{x y:Str}
theorem oZ:WE X (.Constant (.int i) k pos) (mZ K<|.inr<|dC<|.int i):=wx OZ
theorem IZ(i:Nat)(c:WA X es (vZ<|as.map<|mZ K))(hN:X.N[i]?=some x:=by rfl)(d:UE X.env.scope x:=by first|exact Or.inl rfl|exact Or.inr (Or.inl rfl)|exact Or.inr<|Or.inr rfl)(hd:(x==("__debug__":Str))=false:=by decide)(j:(x==("__classdict__":Str))=false:=by decide):WA X (.Name x pos::es) (vZ<|(Sum.inl i::as).map<|mZ K):=LU (wn i hN d hd j) c
theorem tZ(i:Nat)(hN:X.N[i]?=some x:=by rfl)(c:UE X.env.scope x:=by first|exact Or.inl rfl|exact Or.inr (Or.inl rfl)|exact Or.inr<|Or.inr rfl)(hd:(x==("__debug__":Str))=false:=by decide)(d:(x==("__classdict__":Str))=false:=by decide):WA X [.Name x pos] (vZ<|[Sum.inl i].map (mZ K)):=LU (wn i hN c hd d) jK
theorem LZ(h:WE X e (lift K td))(c:WA X es (vZ<|as.map<|mZ K))(d:xZ e=true:=by rfl):WA X (e::es) (vZ<|(Sum.inr td::as).map<|mZ K):=LU (wx h) c d
theorem lZ(h:WE X e (lift K td))(c:xZ e=true:=by rfl):WA X [e] (vZ<|[Sum.inr td].map (mZ K)):=LU (wx h) jK c
theorem Xj{k:Nat}(c:Room k X.A)(d:WE X e1 (mZ K a))(i:WE X e2 (mZ K b))(j:X.K=K:=by rfl):WT X (.Compare e1 [.Eq] [e2] pos) (yZ K<|oq<|zW [a,b]<|o2 Va):=SJ fN (zB j c.units) d i
theorem tD{k:Nat}(c:Room k X.A)(d:WE X e1 (mZ K a))(i:WE X e2 (mZ K b))(j:X.K=K:=by rfl):WT X (.Compare e1 [.NotEq] [e2] pos) (yZ K<|oq<|zW [a,b]<|o2 Wa):=SJ bA (ZP j c.units) d i
theorem BW(c:X.mg "len"=none)(d:WA X (e::es) (vZ<|as.map<|mZ K))(i:X.K=K:=by rfl)(j:Gl X "len":=by rfl)(k:xZ e=true:=by rfl)(l:es.all xZ=true:=by rfl):WE X (.Call (.Name "len" p) (e::es) [] pos) (lift K<|zW as<|o1 AT):=BZ pP (Lv i) c boot_len d j (by decide) (by decide) k l
theorem YW(c:X.mg "tuple"=none)(d:WA X (e::es) (vZ<|as.map<|mZ K))(i:X.K=K:=by rfl)(j:Gl X "tuple":=by rfl)(k:xZ e=true:=by rfl)(l:es.all xZ=true:=by rfl):WE X (.Call (.Name "tuple" p) (e::es) [] pos) (lift K<|zW as<|o1 lB):=WK mB (lq i) c Ei d j (by decide) (by decide) k l
theorem PZ(h:WE X e (lift K td)):WSs X [.Return (some e) pos] (qZ K<|JI td):=TZ<|rA h
theorem uD(i:Nat)(hN:X.N[i]?=some x:=by rfl)(c:UE X.env.scope x:=by first|exact Or.inl rfl|exact Or.inr (Or.inl rfl)|exact Or.inr<|Or.inr rfl)(hd:(x==("__debug__":Str))=false:=by decide)(d:(x==("__classdict__":Str))=false:=by decide):WSs X [.Return (some<|.Name x p) pos] (qZ K<|tq i):=TZ<|fR<|wn i hN c hd d
theorem SZ(i:Nat)(hN:decide X.N.Nodup=true:=by kernel_rfl)(hi:X.N[i]?=some x:=by rfl)(hx:HE X.env.scope x:=by first|exact Or.inl rfl|exact Or.inr rfl)(hf:X.fn x=true\/X.env.scope.names.lookup x=some .local:=by first|exact .inl rfl|exact .inr rfl|assumption):WG X (.Name x pos) (QZ K<|aB i):=dR (Qe hN) hi hx hf
theorem FZ(i:Nat)(c:WE X e (lift K td))(hN:decide X.N.Nodup=true:=by kernel_rfl)(hi:X.N[i]?=some x:=by rfl)(hx:HE X.env.scope x:=by first|exact Or.inl rfl|exact Or.inr rfl)(d:wY e=true:=by rfl)(hf:X.fn x=true\/X.env.scope.names.lookup x=some .local:=by first|exact .inl rfl|exact .inr rfl|assumption):WS X (.Assign [.Name x ze] e pos) (qZ K<|rq i td):=uA (Qe hN) hi hx c d hf
section
variable {ti:vq}{g:uY}
theorem Eb(own:List Str)(fr:List Nat)(hi:WI X tg we (iJ K ti))(c:∀C s H ex,WG (CZ X own fr sc C s H ex) tg<|QZ K g)(d:∀C s H ex,WIf (CZ X own fr sc C s H ex) ng<|yZ K tc)(i:∀C s H ex,WE (CZ X own fr sc C s H ex) ig<|lift K te)(S:LW X.env.scope X.N fr sc=true:=by kernel_rfl)(j:X.calm=true:=by rfl)(k:fr.Nodup:=by decide)(l:VY we=true:=by rfl):WE X (.ListComp ig [⟨tg,we,ng,0⟩] sc pos) (lift K<|yY ti own fr g tc te):=Ej j S hi c d i k l
theorem Yj(own:List Str)(fr:List Nat)(hi:WI X tg we (iJ K ti))(c:∀C s H ex,WG (CZ X own fr sc C s H ex) tg<|QZ K g)(d:∀C s H ex,WE (CZ X own fr sc C s H ex) ig<|lift K te)(S:LW X.env.scope X.N fr sc=true:=by kernel_rfl)(i:X.calm=true:=by rfl)(j:fr.Nodup:=by decide)(k:VY we=true:=by rfl):WE X (.ListComp ig [⟨tg,we,[],0⟩] sc pos) (lift K<|yY ti own fr g VF te):=Ej i S hi c (λ_ _ _ _=>pA) d j k
theorem SK(own:List Str)(fr:List Nat)(hi:WI X (.Name x p) we (iJ K ti))(c:∀C s H ex,WE (CZ X own fr sc C s H ex) ig<|lift K te)(d:∀C s H ex,WG (CZ X own fr sc C s H ex) (.Name x p) (QZ K<|aB 0):=by exact λ_ _ _ _=>SZ 0)(S:LW X.env.scope X.N fr sc=true:=by kernel_rfl)(i:X.calm=true:=by rfl)(j:fr.Nodup:=by decide)(k:VY we=true:=by rfl):WE X (.ListComp ig [⟨.Name x p,we,[],0⟩] sc pos) (lift K<|yY ti own fr (aB 0) VF te):=Ej i S hi d (λ_ _ _ _=>pA) c j k
theorem jW{c:List Ah}(ks:List Nat)(hi:WI X tg we (iJ K ti))(d:WG X tg (QZ K g))(i:WSs X c (qZ K t))(hx:X.xe=(λ_ _=>Ln):=by rfl)(j:X.calm=true:=by rfl)(k:VY we=true:=by rfl):WS X (.For tg we c [] pos) (qZ K<|Kq ks ti g t):=sA ks (hx ▸ PassesOwn.never) j hi d i k
end
theorem MZ(c:WE X e1 (mZ K a))(d:WE X e2 (mZ K b))(i:X.K=K:=by rfl)(j:JF e2:=by exact λ_ _=>rfl):WE X (.Subscript e1 e2 pos) (lift K<|zW [a,b]<|o2 Ma):=bb i c d j
theorem bK(c:WE X e1 (mZ K a))(d:WE X e2 (mZ K b)):WE X (.BinOp e1 .Add e2 pos) (lift K<|zW [a,b]<|o2 RI):=w_bin nP wL c d
theorem mY(c:WE X e1 (mZ K a))(d:WE X e2 (mZ K b)):WE X (.BinOp e1 .Mult e2 pos) (lift K<|zW [a,b]<|o2 yT):=w_bin oP xL c d
theorem ZW(c:WE X e1 (mZ K a))(d:WE X e2 (mZ K b)):WE X (.BinOp e1 .Sub e2 pos) (lift K<|zW [a,b]<|o2<|JE λi j=>.int<|i-j):=w_bin WP sO c d
end
end L3
namespace R34
open L2 L3
abbrev Co(K:Fg)(x:Str)(st:Stmt)(f:Addr)(fd:FuncData):=Fun K x x st f fd
noncomputable abbrev Zt(d:D):Jn Sl:=some<|.fz d
noncomputable abbrev Yt(d:D):Jn Sl:=some<|.ow d
noncomputable def top(i:Nat):Ah:=PySem.Challenge.pw_boxsums_k34_whole_boxes_lifted.main.body.getD i<|.Pass ⟨0,0,0,0⟩
structure Txt(mg:Str->Jn Be):Prop where
 Qo:mg "len"=none
 Qr:mg "isinstance"=none
 Qs:mg "int"=none
 Qt:mg "bool"=none
 Xn:mg "list"=none
 Xo:mg "tuple"=none
 Xp:mg "range"=none
 Xr:mg "zip"=none
 Xs:mg "all"=none
 Xt:mg "sum"=none
 Zn:mg "sorted"=none
 Zo:mg "repr"=none
 Zp:mg "enumerate"=none
 Zr:mg "reversed"=none
 Zs:mg "min"=none
 Jo:mg "abs"=none
 Jp:mg "max"=none
 Jr:mg "dict"=none
 Js:∃t,mg "MOST_WAYS"=some (.int 3 t)
 Jt:∃t,mg "MOST_CELLS"=some (.int 120 t)
local macro_rules | `(tactic| walk_at "po")=>`(tactic| first | (show (0:Int)<_; decide) | (show (0:Int)<_; omega) | exact⟨by decide,by decide⟩ | exact Or.inl ⟨by decide,by decide⟩ | exact Or.inr ⟨by decide,by decide⟩ | exact⟨by omega,by omega⟩ | exact Or.inl ⟨by omega,by omega⟩ | exact Or.inr ⟨by omega,by omega⟩ | decide | omega | assumption)
section
variable {P:Cf}{w:Xe}{K:K0}{mg:Str->Jn Be}{base:Gf}
noncomputable abbrev VH(ns:Qn)(k l:Int):List (Oe×Oe):=[(.str "script",JJ ns),(.str "at",.int k),(.str "left",.int l)]
noncomputable abbrev cJ(ns:Qn)(k l:Int):Oe:=.dict<|VH ns k l
theorem sC(ns:Qn)(k l:Int):iy (VH ns k l) (.str "script")=some (JJ ns):=by rfl
theorem Fb(ns:Qn)(k l:Int):iy (VH ns k l) (.str "at")=some (.int k):=by rfl
theorem Zj(ns:Qn)(k l:Int):iy (VH ns k l) (.str "left")=some (.int l):=by rfl
theorem Ud(ns:Qn)(k l a:Int):VG (VH ns k l) (.inr "at") (.int a)=VH ns a l:=by rfl
theorem Gb(ns:Qn)(k l a:Int):VG (VH ns k l) (.inr "left") (.int a)=VH ns k a:=by rfl
theorem Hb(ns:Qn)(k l:Int):(eU (VH ns k l)<|.inr "at").isSome=true:=by rfl
theorem uC(ns:Qn)(k l:Int):(eU (VH ns k l)<|.inr "left").isSome=true:=by rfl
theorem z3(ns:Qn)(k l:Int):(VH ns k l).length<sizeLine:=by show 3<sizeLine;decide
def vC:Con:=λa Q=>∃ns:Qn,a=[.fz<|JJ ns]/\∀o,Q (.ow<|cJ ns 0 0) o
theorem wC(F:Co K "_law_begin" (top 51) f fd):FnOk P w K mg base VJ 1 f fd ["_law_script"] (iZ K vC):=by
 have S:FnScope ["_law_script"] ["_law_script"] (kZ<|top 51):={};refine cb F S (λc A outer s H E d=>PZ<|cR [(.inr "script",.inl 0),(.inr "at",.inr<|.int 0),(.inr "left",.inr<|.int 0)] (by decide +kernel) (by decide) (by simp)<|vI (gH DF (pv 0)<|gH DF RV<|gH DF RV uI) rfl rfl (by simp)<|by simp) ?_ ?_
 .rintro a b ⟨ns,rfl,_⟩;rfl
 .rintro a b ⟨ns,rfl,q⟩;exact⟨uW rfl,q _⟩
def xC:Con:=λb Q=>∃a k:Int,b=[.fz<|.int a,.fz<|.int k]/\∀r o,0<=r->Q (.fz<|.int r) o
theorem yC(F:Co K "_law_mixed" (top 52) f fd):FnOk P w K mg base VJ 1 f fd ["_law_cell","_law_k"] (iZ K xC):=by have S:FnScope ["_law_cell","_law_k","_law_one","_law_two"] ["_law_cell","_law_k"] (kZ<|top 52):={};refine GK F S (λc A outer s H E d=>hZ (FZ 2<|w_bin xY pY (wx<|mY (wx<|bK (wx<|bK (wx<|w_bin xY pY (wn 0) oZ)<|wx<|mY oZ<|wn 1) oZ) oZ) oZ)<|hZ (FZ 3<|w_bin xY pY (wx<|bK (wx<|bK (wx<|mY (wn 2)<|wn 2)<|wx<|mY oZ<|wn 2)<|wn 1) oZ)<|PZ<|w_bin tW qW (wx<|w_bin xY pY (wx<|bK (wx<|bK (wx<|mY (wn 3)<|wn 3)<|wx<|mY oZ<|wn 3)<|wx<|mY oZ<|wn 1) oZ) oZ) ?_;rintro b e ⟨a,k,rfl,q⟩;refine⟨by walk_at "po",.inl ⟨by decide,by decide⟩,.inr ⟨by decide,by decide⟩,by walk_at "po",?_⟩;refine⟨.inl ⟨by lia,by lia⟩,.inl ⟨by decide,by decide⟩,by walk_at "po",?_⟩;refine⟨.inl ⟨by lia,by lia⟩,.inl ⟨by decide,by decide⟩,.inl ⟨by decide,by decide⟩,by walk_at "po",⟨by decide,by decide⟩,?_⟩;exact q _ _ (by lia)
variable (P w K mg base) in
structure CalsA:Prop where
 Ko:Cal P w K mg base 1 "_law_mixed" ["_law_cell","_law_k"] (iZ K xC)
def oF:Con:=λa Q=>∃(ns:Qn) (k l m:Int),a=[.io<|cJ ns k l,.fz<|.int m]/\0<=k/\0<=l/\0<m/\m<1000000 /\
 ∀(r b c:Int) (o:Ev),0<=r->r<m->0<=b->0<=c->Q (.fz<|.int r) (some (.io<|cJ ns b c)::o)
theorem dM(F:Co K "_law_take" (top 53) f fd)(T:Txt mg)(C:CalsA P w K mg base):FnOk P w K mg base VJ 2 f fd ["_law_state","_law_most"] (iZ K oF):=by
 have S:FnScope ["_law_state","_law_most","_law_k","_law_script","_law_cell","_law_found"] ["_law_state","_law_most"] (kZ<|top 53):={};refine GK F S (λL A outer s H E b=>hZ (FZ 2<|BH (mV b) (wn 0)<|wx pU)<|hZ (FZ 3<|BH (mV b) (wn 0)<|wx pU)<|hZ (aK (Xj b (wx<|BH (mV b) (wn 0)<|wx pU) oZ) (hZ (JB (mV b) (wn 0) (wx pU)<|bK (wn 2) oZ)<|hZ (FZ 4 OZ)<|hZ (aK (SJ Iq ZD (wx<|BW T.Qo<|tZ 3) oZ) (TZ<|FZ 4<|MZ (wn 3)<|wx<|w_bin xY pY (wn 2)<|wx<|BW T.Qo<|tZ 3) sJ)<|hZ (aK (ME<|CH (SJ eN VM (wn 2)<|wx<|BW T.Qo<|tZ 3)<|qU<|SJ oU fV (wx<|BZ nB aq T.Jo boot_abs<|tZ 4)<|wx<|w_bin yB au oZ oZ) (PZ<|w_bin xY pY (wx<|KZ C.Ko b.m<|IZ 4<|tZ 2)<|wn 1) sJ)<|TZ<|JB (mV b) (wn 0) (wx pU)<|BZ nB aq T.Jo boot_abs<|tZ 4) sJ)<|hZ (FZ 5<|w_bin xY pY (wx<|BH (mV b) (wn 0)<|wx pU)<|wn 1)<|hZ (JB (mV b) (wn 0) (wx pU)<|w_bin tW qW (wx<|BH (mV b) (wn 0)<|wx pU)<|wn 1)<|uD 5) ?_;rintro x O ⟨ns,k,l,m,rfl,i,hl,d,R,q⟩;with_reducible refine FJ (λρ=>ρ=[some<|.io<|cJ ns k l,Zt<|.int m,Zt<|.int k,none,none,none]) ?_ ?_
 .intro M a;exact⟨_,Fb ns k l,a _ rfl⟩
 rintro _ rfl;with_reducible refine FJ (λρ=>ρ=[some<|.io<|cJ ns k l,Zt<|.int m,Zt<|.int k,Zt<|JJ ns,none,none]) ?_ ?_
 .intro M a;exact⟨_,sC ns k l,a _ rfl⟩
 rintro _ rfl;with_reducible refine FJ (λρ=>∃(e l1:Int) (c:Jn Sl),0<=e/\0<=l1/\ρ=[some<|.io<|cJ ns e l1,Zt<|.int m,Zt<|.int k,Zt<|JJ ns,c,none]) ?_ ?_
 rotate_left
 .rintro _ ⟨e,l1,c,y,B,rfl⟩;exact⟨_,Zj ns e l1,d,_,Zj ns e l1,⟨d,by lia⟩,z3 ns e l1,uC ns e l1,q _ _ _ _ (iX _<|b9 d) (kQ _ d) y<|Int.ediv_nonneg B<|Q1 d⟩
 intro N hN;refine⟨_,Zj ns k l,?_⟩;refine HJ (λU=>?_)<|λ_=>hN _ ⟨k,l,none,i,hl,rfl⟩;with_reducible refine FJ (λρ=>ρ=[some<|.io<|cJ ns (k+1) l,Zt<|.int m,Zt<|.int k,Zt<|JJ ns,none,none]) ?_ ?_
 .intro M a;exact⟨z3 ns k l,Hb ns k l,a _ rfl⟩
 rintro _ rfl;with_reducible refine FJ (λρ=>ρ=[some<|.io<|cJ ns (k+1) l,Zt<|.int m,Zt<|.int k,Zt<|JJ ns,Zt<|.int 0,none]) ?_ ?_
 .intro M a;exact a _ rfl
 rintro _ rfl;with_reducible refine FJ (λρ=>∃c:Int,ρ=[some<|.io<|cJ ns (k+1) l,Zt<|.int m,Zt<|.int k,Zt<|JJ ns,Zt<|.int c,none]) ?_ ?_
 .intro M a;refine⟨ns,rfl,?_⟩;refine HJ (λG=>?_)<|λ_=>a _ ⟨0,rfl⟩;have t:(0:Int)<(ns.length:Int):=Qe G;have Y:=kQ k t;obtain⟨j,I⟩:=Z5 (iX k<|show (ns.length:Int)≠0 by exact b9 t);have v:j<ns.length:=by lia
  refine⟨ns,rfl,t,ns,ns[j],rfl,?_,a _ ⟨_,rfl⟩⟩;rw[I];exact rW<|J0 v
 rintro _ ⟨c,rfl⟩;with_reducible refine FJ (λρ=>ρ=[some<|.io<|cJ ns (k+1) l,Zt<|.int m,Zt<|.int k,Zt<|JJ ns,Zt<|.int c,none]) ?_ ?_
 .intro M a;refine⟨ns,rfl,?_⟩;refine HJ (λ_=>?_)<|λ_=>?_
  rotate_left
  refine⟨⟨by decide,by decide,by decide⟩,?_⟩;refine HJ (λ_=>?_)<|λ_=>a _ rfl;all_goals exact⟨c,k,rfl,λr _ b=>⟨d,q _ _ _ _ (iX _<|b9 d) (kQ _ d) (Q1<|O7 i) hl⟩⟩
 rintro _ rfl;exact⟨z3 ns (k+1) l,uC ns (k+1) l,hN _ ⟨k+1,_,_,Q1<|O7 i,by split<;>lia,rfl⟩⟩
variable (P w K mg base) in
structure CalsB:Prop where
 Kp:Cal P w K mg base 2 "_law_take" ["_law_state","_law_most"] (iZ K oF)
def OU:Con:=λa Q=>∃(ns:Qn) (k l:Int),a=[.io<|cJ ns k l]/\0<=k/\0<=l/\∀(r b c:Int) (o:Ev),0<=b->0<=c->-(10 ^ 30)<r->r<10 ^ 30->Q (.fz<|.int r) (some (.io<|cJ ns b c)::o)
theorem By(F:Co K "_law_number" (top 55) f fd)(C:CalsB P w K mg base):FnOk P w K mg base VJ 3 f fd ["_law_state"] (iZ K OU):=by
 have S:FnScope ["_law_state","_law_way"] ["_law_state"] (kZ<|top 55):={};refine GK F S (λR A outer s H E a=>hZ (FZ 1<|jJ C.Kp a.m<|IZ 0<|lZ OZ)<|hZ (aK (SJ oU fV (wn 1) oZ) (PZ<|ZW (wx<|jJ C.Kp a.m<|IZ 0<|lZ OZ) oZ) sJ)<|hZ (aK (SJ oU fV (wn 1) oZ) (PZ OZ) sJ)<|hZ (aK (SJ oU fV (wn 1) oZ) (PZ<|ZW (wx<|jJ C.Kp a.m<|IZ 0<|lZ OZ) oZ) sJ)<|PZ<|mY (wx<|ZW oZ<|wx<|mY oZ<|wx<|jJ C.Kp a.m<|IZ 0<|lZ OZ)<|wx<|ZW (wx<|ZW (wx<|w_bin yB au oZ oZ) oZ)<|wx<|jJ C.Kp a.m<|IZ 0<|lZ OZ) ?_;rintro x U ⟨ns,k,l,rfl,G,hl,q⟩;refine⟨ns,k,l,_,rfl,G,hl,by decide,by decide,λY t l1 _ Z w1 d i=>?_⟩;refine HJ (λ_=>?_)<|λ_=>?_
 .exact⟨ns,t,l1,_,rfl,d,i,by decide,by decide,λr v l2 _ y B b c=>q _ _ _ _ b c (by lia)<|by lia⟩
 refine HJ (λ_=>?_)<|λ_=>?_
 .exact q _ _ _ _ d i (by decide) (by decide)
 refine HJ (λ_=>?_)<|λ_=>?_
 .exact⟨ns,t,l1,_,rfl,d,i,by decide,by decide,λr v l2 _ y B b c=>q _ _ _ _ b c (by lia)<|by lia⟩
 .refine⟨ns,t,l1,_,rfl,d,i,by decide,by decide,λr v l2 _ y B b c=>?_⟩;refine⟨.inl ⟨by decide,by decide⟩,⟨by decide,by decide,by decide⟩,ns,v,l2,_,rfl,b,c,by decide,by decide,λj k3 l3 _ I L M O=>?_⟩;have e:r=0\/r=1:=by lia
  refine⟨.inl ⟨by lia,by lia⟩,q _ _ _ _ M O ?_ ?_⟩
  .rcases e with rfl|rfl
   .show -(10 ^ 30:Int)<(1-2*0)*(10 ^ 30-1-j);lia
   .show -(10 ^ 30:Int)<(1-2*1)*(10 ^ 30-1-j);lia
  .rcases e with rfl|rfl
   .show (1-2*0)*(10 ^ 30-1-j)<(10 ^ 30:Int);lia
   .show (1-2*1)*(10 ^ 30-1-j)<(10 ^ 30:Int);lia
variable (P w K mg base) in
structure CalsC:Prop where
 Kp:Cal P w K mg base 2 "_law_take" ["_law_state","_law_most"] (iZ K oF)
 Kr:Cal P w K mg base 3 "_law_number" ["_law_state"] (iZ K OU)
def K'(c:Int):Prop:=-(10 ^ 30)<c/\c<10 ^ 30
def zC:Con:=λa Q=>∃(ns:Qn) (k l:Int) (n:Nat),a=[.io<|cJ ns k l,.fz<|.int n]/\0<=k/\0<=l/\n<=1000 /\
 ∀(cs:Qn) (b d:Int) (o:Ev),cs.length=n->(∀c∈cs,K' c)->0<=b->0<=d->Q (.ow<|.list<|cs.map q0) (some (.io<|cJ ns b d)::o)
theorem AC(F:Co K "_law_cells" (top 56) f fd)(T:Txt mg)(C:CalsC P w K mg base):FnOk P w K mg base VJ 4 f fd ["_law_state","_law_many"] (iZ K zC):=by
 have S:FnScope ["_law_state","_law_many","_law_some"] ["_law_state","_law_many"] (kZ<|top 56):={};refine GK F S (λye A outer s H E I=>hZ (FZ 2<|kJ<|LZ (jJ C.Kr I.m<|tZ 0)<|lZ<|jJ C.Kr I.m<|tZ 0)<|hZ (aK (Xj I (wx<|jJ C.Kp I.m<|IZ 0<|lZ OZ) oZ) (PZ<|SK ["_law_k"] [2,0] (gU T.Xp<|tZ 1)<|λ_ _ _ _=>MZ (wn 1)<|wx<|jJ C.Kp I.m<|IZ 2<|lZ OZ) sJ)<|PZ<|SK ["_law_k"] [0] (gU T.Xp<|tZ 1)<|λ_ _ _ _=>jJ C.Kr I.m<|tZ 1) ?_;rintro Y Qd ⟨ns,k,l,n,rfl,hk,hl,hn,q⟩;refine⟨ns,k,l,rfl,hk,hl,λa k1 l1 _ yf gf a0 a1=>?_⟩;refine⟨ns,k1,l1,rfl,yf,gf,λb k2 l2 _ eg af b0 b1=>?_⟩;refine⟨ns,k2,l2,_,rfl,eg,af,by decide,by decide,λr Z l3 _ r0 r1 qp zi=>?_⟩;have L:(DZ 0 (n:Int).toNat).length<=sizeLine:=by rw[DZ,g0,N7];exact rZ<|Int.toNat_le.2<|c8.2 hn
 have hb:∀c∈[a,b],K' c:=λc v=>by simp at v;rcases v with rfl|rfl;exact⟨a0,a1⟩;exact⟨b0,b1⟩
 refine HJ (λ_=>?_)<|λ_=>?_
 .refine⟨by lia,by lia,L,Ik (λrest e y=>∃(cs:Qn) (i t:Int),y=[none,some<|.io<|.list [.int a,.int b],some<|.io<|cJ ns i t]/\e=cs.map q0/\cs.length+rest.length=n/\(∀c∈cs,K' c)/\0<=i/\0<=t) ?_ ?_
    ⟨[],Z,l3,rfl,rfl,by simp[DZ],λc v=>by simp at v,qp,zi⟩⟩
  .rintro d ds e y ⟨cs,i,t,rfl,rfl,x,hB,B,G⟩ N hN;refine⟨ns,i,t,_,rfl,B,G,by decide,by decide,λj M O _ j0 j1 R U=>?_⟩;have hj:j=0\/j=1:=by lia
   rcases hj with rfl|rfl
   .exact⟨.int a,rfl,hN _ _ ⟨cs++[a],M,O,rfl,by simp[Sl.d],by simp at x ⊢;lia,λc v=>by rcases O2.mp v with z|z;exact hB c z;exact hb c (by simp at z ⊢;exact .inl z),R,U⟩⟩
   .exact⟨.int b,rfl,hN _ _ ⟨cs++[b],M,O,rfl,by simp[Sl.d],by simp at x ⊢;lia,λc v=>by rcases O2.mp v with z|z;exact hB c z;exact hb c (by simp at z ⊢;exact .inr z),R,U⟩⟩
  .rintro e y ⟨cs,i,t,rfl,rfl,x,hB,B,G⟩;exact q cs i t _ (by simpa using x) hB B G
 .refine⟨by lia,by lia,L,Ik (λrest e y=>∃(cs:Qn) (i t:Int),y=[none,some<|.io<|cJ ns i t]/\e=cs.map q0/\cs.length+rest.length=n/\(∀c∈cs,K' c)/\0<=i/\0<=t) ?_ ?_
    ⟨[],Z,l3,rfl,rfl,by simp[DZ],λc v=>by simp at v,qp,zi⟩⟩
  .rintro d ds e y ⟨cs,i,t,rfl,rfl,x,hB,B,G⟩ N hN;refine⟨ns,i,t,rfl,B,G,λc M O _ R U c0 c1=>?_⟩;exact hN _ _ ⟨cs++[c],M,O,rfl,by simp[Sl.d],by simp at x ⊢;lia,λc' v=>by rcases O2.mp v with z|z;exact hB c' z;rw[J2.mp z];exact⟨c0,c1⟩,R,U⟩
  .rintro e y ⟨cs,i,t,rfl,rfl,x,hB,B,G⟩;exact q cs i t _ (by simpa using x) hB B G
theorem kW(lo:Int)(n:Nat):DZ lo (n+1)=q0 lo::DZ (lo+1) n:=by
 simp only[DZ,List.range_succ_eq_map,Y0,O0];refine congr (Te List.cons<|by simp)<|U1 λa _=>?_;simp only[Function.comp_def,PyData.int.injEq,Int.natCast_succ]
 lia
noncomputable def prodI:Qn->Int
 |[]=>1
 |a::r=>a*prodI r
theorem PJ:∀{l:Qn},(∀c∈l,1<=c)->1<=prodI l
 |[],_=>a9 _
 |a::r,h=>by
  have b:=h a L0;have d:=PJ (l:=r) λc e=>h c<|G0 _ e;show 1<=a*prodI r;have:=X7 b d (by decide)<|Q1<|X2.1<|G1 b
  lia
theorem prodI_append(l r:Qn):prodI (l++r)=prodI l*prodI r:=by
 induction l with
 |nil=>show prodI r=1*prodI r;rw[Z4]
 |cons a l b=>show a*prodI (l++r)=a*prodI l*prodI r;rw[b,x5]
structure Sd(sd:Qn):Prop where
 l1:1<=sd.length
 l3:sd.length<=3
 p:∀c∈sd,1<=c
 m:prodI sd<=120
theorem iz{b:Int}(e:1<=b):∀{l:Qn},(∀c∈l,1<=c/\c<=b)->prodI l<=b ^ l.length
 |[],_=>by show (1:Int)<=b ^ 0;rw[Int.pow_zero];decide
 |a::r,h=>by have i:=h a L0;have j:=iz e (l:=r) λc d=>h c<|G0 _ d;have k:=PJ (l:=r) λc d=>(h c<|G0 _ d).1;show a*prodI r<=b ^ (r.length+1);rw[XX,X6 (b ^ r.length) b];exact X7 i.2 j (Q1<|X2.1<|G1 k)<|Q1<|X2.1<|G1 e
noncomputable abbrev jZ(p:Qn):Oe:=.tuple<|p.map q0
def ax:Con:=λa Q=>∃(ns:Qn) (k l m:Int),a=[.io<|cJ ns k l,.fz<|.int m]/\0<=k/\0<=l/\27<=m/\m<=120 /\
 ∀(sd:Qn) (b c:Int) (o:Ev),Sd sd->prodI sd<=m->0<=b->0<=c->Q (.fz<|jZ sd) (some (.io<|cJ ns b c)::o)
theorem BC(F:Co K "_law_sides" (top 54) f fd)(T:Txt mg)(C:CalsB P w K mg base):FnOk P w K mg base VJ 3 f fd ["_law_state","_law_most"] (iZ K ax):=by
 have S:FnScope ["_law_state","_law_most","_law_way","_law_found","_law_k","_law_side"] ["_law_state","_law_most"] (kZ<|top 54):={};refine GK F S (λye A outer s H E Z=>hZ (FZ 2<|jJ C.Kp Z.m<|IZ 0<|lZ OZ)<|hZ (aK (SJ oU fV (wx<|jJ C.Kp Z.m<|IZ 0<|lZ OZ) oZ) (PZ<|YW T.Xo<|lZ<|SK ["_law_one"] [0] (fJ rfl<|MZ (wx<|kJ<|LZ (kJ<|lZ OZ)<|LZ (kJ<|LZ OZ<|lZ OZ)<|lZ<|kJ<|LZ OZ<|LZ OZ<|lZ OZ)<|wn 2)<|λ_ _ _ _=>bK oZ<|wx<|jJ C.Kp Z.m<|IZ 1<|tZ 0) sJ)<|hZ (FZ 3<|kJ jK)<|hZ (jW [4,5] (gU T.Xp<|lZ<|bK (wn 2) oZ) (SZ 4)<|hZ (FZ 5<|bK oZ<|wx<|jJ C.Kp Z.m<|IZ 0<|lZ<|BZ ET (nv rfl) T.Zs Hn<|IZ 1<|lZ<|MZ (wx<|kJ<|LZ OZ<|lZ<|wv 1)<|wx<|jJ C.Kp Z.m<|IZ 0<|lZ OZ)<|hZ (rK<|HB Zv rfl PySem.F.slot_list_insert PySem.F.type_list_insert Kv (wn 3)<|LZ (jJ C.Kp Z.m<|IZ 0<|lZ<|bK (wn 4) oZ)<|lZ<|wv 5)<|TZ<|FZ 1<|w_bin tW qW (wn 1)<|wn 5)<|PZ<|YW T.Xo<|tZ 3) ?_;rintro args Qd ⟨ns,k,l,m,rfl,hk,hl,m1,m2,q⟩;refine⟨ns,k,l,_,rfl,hk,hl,by decide,by decide,λL k1 l1 _ w0 w1 yf gf=>?_⟩;refine⟨ns,k1,l1,_,rfl,yf,gf,by decide,by decide,λr2 k2 l2 _ _ _ eg af=>?_⟩;refine HJ (λ_=>?_)<|λ_=>?_
 .have bt:∃(n:Nat) (b:Int),lV [Y2 [.int 12],Y2 [.int 5,.int 5],Y2 [.int 3,.int 3,.int 3]] L=some (.list<|B1 n<|.int b)/\1<=n/\n<=3/\1<=b/\b<=12/\b ^ n<=27:=by
   have hw:L=0\/L=1\/L=2:=by lia
   rcases hw with rfl|rfl|rfl
   .exact⟨1,12,rfl,by decide,by decide,by decide,by decide,by decide⟩
   .exact⟨2,5,rfl,by decide,by decide,by decide,by decide,by decide⟩
   .exact⟨3,3,rfl,by decide,by decide,by decide,by decide,by decide⟩
  obtain⟨n,b,hat,n1,n3,b1,b12,hbn⟩:=bt;refine⟨_,hat,by rw[E9];exact rZ<|A0 n3<|K1 _ _,Ik (λrest M τ=>∃(cs:Qn) (i t:Int),τ=[none,some<|.io<|cJ ns i t]/\M=cs.map q0/\(∃B,rest=B1 B (.int b)/\cs.length+B=n)/\(∀c∈cs,1<=c/\c<=b)/\0<=i/\0<=t) ?_ ?_
    ⟨[],k2,l2,rfl,rfl,⟨n,rfl,by simp⟩,λc G=>by simp at G,eg,af⟩⟩
  .rintro d ds M τ ⟨cs,i,t,rfl,rfl,⟨B,em,je⟩,hB,O,R⟩ N hN;cases B with
   |zero=>cases em
   |succ B=>rw[U3]at em;cases em;refine⟨ns,i,t,_,rfl,O,R,X2.1<|G1 b1,by lia,λj k5 l5 _ j0 j1 kr im=>?_⟩;exact hN _ _ ⟨cs++[1+j],k5,l5,rfl,by simp[Sl.d],⟨B,rfl,by simp;lia⟩,λc G=>by rcases O2.mp G with z|z;exact hB c z;rw[J2.mp z];lia,kr,im⟩
  .rintro M τ ⟨cs,i,t,rfl,rfl,⟨B,em,je⟩,hB,O,R⟩;cases B with
   |succ B=>cases em
   |zero=>have hp:=iz b1 hB;rw[show cs.length=n by omega]at hp;exact q cs i t _ ⟨le_of_le_of_eq n1 je.symm,le_of_eq_of_le je n3,λc G=>(hB c G).1,by lia⟩ (E2 hp<|E2 hbn m1) O R
 .refine⟨by lia,by lia,nK (λrest ρ=>∃(a:Int) (fs:Qn) (i t:Int),ρ=[some<|.io<|cJ ns i t,Zt<|.int a,Zt<|.int L,Yt<|.list<|fs.map q0,none,none] /\
      (∃n:Nat,rest=DZ fs.length n/\(fs.length:Int)+n=L+1)/\(∀c∈fs,1<=c)/\1<=a/\prodI fs*a<=m/\0<=i/\0<=t) ?_ ?_
    ⟨m,[],k2,l2,rfl,⟨(L+1).toNat,rfl,by simp;exact Int.max_eq_left<|Int.le_add_one w0⟩,λc G=>by simp at G,by lia,by show 1*m<=m;exact L5<|Z4 _,eg,af⟩⟩
  .rintro d ds ρ ⟨a,fs,i,t,rfl,⟨n,en,je⟩,v,I,U,O,R⟩ N hN;cases n with
   |zero=>cases en
   |succ n =>
    have e2:DZ fs.length (n+1)=q0 fs.length::DZ (fs.length+1) n:=by exact kW _ _
    rw[e2]at en;cases en;have Y:=PJ v;have hmc:a<=m:=E2 (by have:=v5 Y (show (0:Int)<=a by exact Q1 I);lia) U;refine⟨ns,i,t,_,rfl,O,R,by decide,by decide,λr k5 l5 _ r0 r1 kr im=>?_⟩;have bt:∃x:Int,lV [q0 12,q0 a] r=some (.int x)/\1<=x:=by
     have:r=0\/r=1:=by lia
     rcases this with rfl|rfl
     .exact⟨12,rfl,by decide⟩
     .exact⟨a,rfl,I⟩
    obtain⟨x,hx,om⟩:=bt;refine⟨_,hx,?_⟩;refine⟨ns,k5,l5,_,rfl,kr,im,by split<;>lia,by split<;>lia,λe k6 l6 _ r60 r61 hk6 hl6=>?_⟩;have hs1:1+e<=a:=by
     have:(if x<a then x else a)<=a:=by split<;>lia
     lia
    refine⟨ns,k6,l6,_,rfl,hk6,hl6,O7<|X4 _,by lia,λy k7 l7 _ r70 r71 hk7 hl7=>?_⟩;refine⟨by rw[g0];exact B0 (show fs.length<1000 by lia)<|by decide,r70,by rw[g0];exact u8 r71,⟨by lia,by lia⟩,?_⟩;have ep:prodI (fs.take y.toNat++(1+e)::fs.drop y.toNat)=(1+e)*prodI fs:=by rw[prodI_append];show prodI (fs.take y.toNat)*((1+e)*prodI (fs.drop y.toNat))=_;rw[Int.mul_left_comm,<-prodI_append,Q5]
    have hl:(fs.take y.toNat++(1+e)::fs.drop y.toNat).length=fs.length+1:=by rw[R0,L1,B5,M5];exact Zc
    refine hN _ ⟨a / (1+e),fs.take y.toNat++(1+e)::fs.drop y.toNat,k7,l7,?_,⟨n,by rw[hl];rfl,by rw[hl];lia⟩,?_,?_,?_,hk7,hl7⟩
    .have e3:(fs.map q0).take y.toNat++q0 (1+e)::(fs.map q0).drop y.toNat=(fs.take y.toNat++(1+e)::fs.drop y.toNat).map q0:=by simp
     rw[<-e3];rfl
    .intro c G;rcases O2.mp G with z|z
     .exact v c (X9 z)
     .rcases E1.mp z with z|z
      .lia
      .exact v c (FX z)
    .exact kX (by lia) (by lia)
    .rw[ep];have h1:(1+e)*(a / (1+e))<=a:=Int.mul_ediv_self_le (by lia);have h2:prodI fs*((1+e)*(a / (1+e)))<=prodI fs*a:=K4 h1<|Q1 Y;rw[X6 (1+e)<|prodI fs,x5];exact E2 h2 U
  .rintro ρ ⟨a,fs,i,t,rfl,⟨n,en,je⟩,v,I,U,O,R⟩;cases n with
   |succ n=>simp[DZ,j8]at en
   |zero=>have Y:=PJ v;have:=K4 I (show (0:Int)<=prodI fs by lia);exact q fs i t _ ⟨by lia,by lia,v,by lia⟩ (by lia) O R
noncomputable def AZ{α:Type}(acc:List (List α)):List (List α)->List (List α)
 |[]=>acc
 |c::cs=>AZ (acc.flatMap λp=>c.map λx=>p++[x]) cs
noncomputable def yJ{α:Type}:List (List α)->Nat
 |[]=>1
 |c::cs=>c.length*yJ cs
theorem HV{α:Type}:∀{cs:List (List α)},(∀c∈cs,c≠[])->1<=yJ cs
 |[],_=>V0 _
 |c::cs,h=>by have a:1<=c.length:=Q8.mpr<|h c L0;have b:=HV (cs:=cs) λd hd=>h d<|G0 _ hd;exact yX a b
theorem IV(c:List α):∀a:List (List α),(a.flatMap λp=>c.map λx=>p++[x]).length=a.length*c.length
 |[]=>by simp
 |p::a=>by rw[V2,R0,IV c a,g0,L1,F8,B8]
theorem dJ:∀(cs a:List (List α)),(AZ a cs).length=a.length*yJ cs
 |[],a=>by simp[AZ,yJ]
 |c::cs,a=>by rw[AZ,dJ cs,IV,yJ,S8]
noncomputable def rng(s:Int):Qn:=(G2 s.toNat).map λ(n:Nat)=>(n:Int)
theorem bx(s:Int):DZ 0 s.toNat=(rng s).map q0:=by simp[DZ,rng,O0,Function.comp_def]
theorem JV(s:Int):(rng s).length=s.toNat:=by simp[rng]
noncomputable def EZ(sd:Qn):List Qn:=AZ [[]]<|sd.map rng
theorem LV:∀{sd:Qn},(∀c∈sd,1<=c)->(yJ (sd.map rng):Int)=prodI sd
 |[],_=>rfl
 |a::r,h=>by have b:=h a L0;have d:=LV (sd:=r) λc e=>h c<|G0 _ e;show ((((rng a).length*yJ (r.map rng):Nat)):Int)=a*prodI r;rw[JV,K7,d];congr 1;exact W6<|Q1 b
def MV:Con:=λa Q=>∃sd:Qn,(a=[.fz<|jZ sd]\/a=[.fz<|.list<|sd.map q0])/\(∀c∈sd,1<=c)/\prodI sd<=1000/\sd.length<=3/\∀o,Q (.ow<|.list<|(EZ sd).map jZ) o
theorem Cy(F:Co K "_law_places" (top 57) f fd)(T:Txt mg):FnOk P w K mg base VJ 1 f fd ["_law_sides_here"] (iZ K MV):=by
 have S:FnScope ["_law_sides_here","_law_found","_law_side","_law_longer","_law_place"] ["_law_sides_here"] (kZ<|top 57):={};refine cb F S (λye A outer s H E hr=>hZ (FZ 1<|kJ<|lZ<|aJ jK)<|hZ (jW [2,3,4] (fJ rfl<|wv 0) (SZ 2)<|hZ (FZ 3<|kJ jK)<|hZ (jW [4] (fJ rfl<|wv 1) (SZ 4)<|TZ<|FZ 3<|bK (wn 3)<|wx<|SK ["_law_number_here"] [4] (gU T.Xp<|tZ 2)<|λ_ _ _ _=>bK (wn 1)<|wx<|aJ<|lZ<|wv 0)<|TZ<|Fj (i:=1) S.nd rfl (Or.inl rfl)<|wn 3)<|uD 1) ?_ ?_
 .rintro y Qd ⟨sd,rfl|rfl,_⟩<;>rfl
 .rintro y Qd ⟨sd,ha,k,hm,I,q⟩;have m:∀(B:Oe) (E:DE),E.nx [Zt B,Yt<|.list<|(EZ sd).map jZ,none,none,none]->YY [2,3,4] (aB 2)
    (Rv (rq 3<|Dq [] Ek)<|Rv (Kq [4] (Fk<|Pv 1) (aB 4)<|rq 3<|zW [Sum.inl 3,Sum.inr<|yY (ZF<|Sum.inl 2) ["_law_number_here"] [4] (aB 0) VF<|zW [Sum.inl 1,Sum.inr<|Dq [Sum.inr<|Pv 0] Dk]<|o2 RI]<|o2 RI)<|uq 1 3)
    E (sd.map q0) [Zt B,Yt<|.list [.tuple []],none,none,none]:=by
   intro B E hE;refine nK (λrest ρ=>∃(b:List Qn) (e:Qn),ρ=[Zt B,Yt<|.list<|b.map jZ,none,none,none]/\rest=e.map q0/\(∀c∈e,1<=c)/\AZ b (e.map rng)=EZ sd/\(∀p∈b,p.length+e.length<=3)) ?_ ?_
    ⟨[[]],sd,rfl,rfl,k,rfl,λp k=>by simp at k;subst k;simpa using I⟩
   .rintro d ds ρ ⟨b,e,rfl,l,v,ff,L⟩ N hN;cases e with
    |nil=>cases l
    |cons a e =>
     cases l;have ml:=v a L0;have C:∀c∈e,1<=c:=λc O=>v c<|G0 _ O;have zt:=HV (cs:=e.map rng) λc O=>by
      obtain⟨x,hx,rfl⟩:=M0.mp O;intro z;have:=Te E5 z;rw[JV]at this;have:=C x hx;simp at *
      lia
     have htot:(b.flatMap λp=>(rng a).map λx=>p++[x]).length<=1000:=by
      have h1:=dJ (e.map rng)<|b.flatMap λp=>(rng a).map λx=>p++[x];have h2:(AZ (b.flatMap λp=>(rng a).map λx=>p++[x])<|e.map rng)=EZ sd:=ff;rw[h2]at h1;have I:=dJ (sd.map rng) [[]];have h4:=LV k;unfold EZ at h1;have:(b.flatMap λp=>(rng a).map λx=>p++[x]).length<=(b.flatMap λp=>(rng a).map λx=>p++[x]).length*yJ (e.map rng):=TQ _ zt;simp only[i4,r8]at I
      lia
     refine nK (λrest ρ=>∃(t j:List Qn),ρ=[Zt B,Zt<|.list<|b.map jZ,Zt<|.int a,Yt<|.list<|t.map jZ,none]/\rest=j.map jZ/\(t++j.flatMap λp=>(rng a).map λx=>p++[x])=(b.flatMap λp=>(rng a).map λx=>p++[x])/\(∀p∈j,p∈b)) ?_ ?_
      ⟨[],b,rfl,rfl,rfl,λp k=>k⟩
     .rintro d ds ρ ⟨t,j,rfl,l,G,U⟩ M hM;cases j with
      |nil=>cases l
      |cons p j =>
       cases l;have cf:=L p<|U p L0;have Y:t.length+(rng a).length<=1000:=by
        have:=Te E5 G;rw[R0,V2,R0,g0]at this
        lia
       have Z:a.toNat<=1000:=by rw[JV]at Y;exact i5 Y
       refine⟨by lia,by lia,by rw[DZ,g0,N7];exact rZ Z,iK (λd=>.tuple<|p.map q0++[d]) ?_ ?_⟩
       .rintro d hd R hR;exact⟨by simp only[g0,i4];simp at cf;exact rZ<|by lia,hR⟩
       .refine⟨by rw[g0,g0,DZ,g0,N7];rw[JV]at Y;exact rZ<|by omega,?_⟩;refine hM _ ⟨t++(rng a).map λx=>p++[x],j,?_,rfl,by rw[u3,<-G,V2],λp' ci=>U p'<|G0 _ ci⟩;have e1:(t.map jZ)++((DZ 0 a.toNat).map λd=>O1<|p.map q0++[d])=(t++(rng a).map λx=>p++[x]).map jZ:=by
         rw[bx,U2,O0,O0];congr 1;refine U1 λx _=>?_;simp[jZ]
        rw[<-e1];rfl
     .rintro ρ ⟨t,j,rfl,l,G,U⟩;cases j with
      |cons p j=>cases l
      |nil =>
       rw[OQ,Z2]at G;refine hN _ ⟨b.flatMap λp=>(rng a).map λx=>p++[x],e,?_,rfl,C,ff,λp k=>?_⟩
       .rw[G];rfl
       .obtain⟨p',ci,hx⟩:=u5.mp k;obtain⟨x,_,rfl⟩:=M0.mp hx;have:=L p' ci;simp at this ⊢
        lia
   .rintro ρ ⟨b,e,rfl,l,v,ff,L⟩;cases e with
    |cons a e=>cases l
    |nil=>have ff:b=EZ sd:=ff;rw[ff];exact hE
  rcases ha with rfl|rfl
  .exact⟨uW rfl,m (jZ sd) _<|q _⟩
  .exact⟨uW rfl,m (.list<|sd.map q0) _<|q _⟩
theorem HK(f:α->β):∀(cs a:List (List α)),(AZ a cs).map (X3 f)=AZ (a.map<|X3 f) (cs.map<|X3 f)
 |[],a=>rfl
 |c::cs,a=>by show (AZ (a.flatMap λp=>c.map λx=>p++[x]) cs).map (X3 f)=AZ ((a.map<|X3 f).flatMap λp=>(c.map f).map λx=>p++[x]) (cs.map<|X3 f);rw[HK f cs];congr 1;rw[M8,NQ];congr 1;funext p;simp[O0,Function.comp_def]
def pF:Con:=λa Q=>∃cs:List (List Oe),a=[.fz<|.list<|cs.map Y2]/\(∀c∈cs,c≠[])/\yJ cs<=1000/\cs.length<=1000/\∀o,Q (.ow<|.list<|(AZ [[]] cs).map O1) o
theorem eM(F:Co K "one_of_each" (top 7) f fd):FnOk P w K mg base VJ 1 f fd ["choices"] (iZ K pF):=by
 have S:FnScope ["choices","chosen","things","longer","ahead","thing"] ["choices"] (kZ<|top 7):={};refine GK F S (λye A outer s H E hr=>hZ (FZ 1<|kJ<|lZ<|aJ jK)<|hZ (jW [2,3,4] (fJ rfl<|wv 0) (SZ 2)<|hZ (FZ 3<|kJ jK)<|hZ (jW [4,5] (fJ rfl<|wv 1) (SZ 4)<|TZ<|jW [5] (fJ rfl<|wv 2) (SZ 5)<|TZ<|rK<|HB qK rfl PySem.F.slot_list_append PySem.F.type_list_append WJ (wn 3)<|lZ<|bK (wn 4)<|wx<|aJ<|lZ<|wv 5)<|TZ<|Fj (i:=1) S.nd rfl (Or.inl rfl)<|wn 3)<|uD 1) ?_;rintro U Qd ⟨cs,rfl,sf,je,bg,q⟩;refine nK (λrest ρ=>∃(b e:List (List Oe)),ρ=[Zt<|.list<|cs.map Y2,Yt<|.list<|b.map O1,none,none,none,none]/\rest=e.map Y2/\(∀c∈e,c≠[])/\b.length*yJ e=yJ cs/\AZ b e=AZ [[]] cs/\(∀p∈b,p.length+e.length<=1000)) ?_ ?_
  ⟨[[]],cs,rfl,rfl,sf,by simp,rfl,λp v=>by simp at v;subst v;simpa using bg⟩
 .rintro d ds ρ ⟨b,e,rfl,k,Y,m,ff,G⟩ N hN;cases e with
  |nil=>cases k
  |cons c e =>
   cases k;have y:∀c∈e,c≠[]:=λc t=>Y c<|G0 _ t;have zt:=HV y;have Z:(b.flatMap λp=>c.map λx=>p++[x]).length<=1000:=by rw[IV];have h1:b.length*(c.length*yJ e)=yJ cs:=m;rw[<-S8]at h1;have:b.length*c.length<=b.length*c.length*yJ e:=TQ _ zt;exact A0 this<|le_of_eq_of_le h1 je
   refine nK (λrest ρ=>∃(l j:List (List Oe)),ρ=[Zt<|.list<|cs.map Y2,Zt<|.list<|b.map O1,Zt<|.list c,Yt<|.list<|l.map O1,none,none]/\rest=j.map O1/\(l++j.flatMap λp=>c.map λx=>p++[x])=(b.flatMap λp=>c.map λx=>p++[x])/\(∀p∈j,p∈b)) ?_ ?_
    ⟨[],b,rfl,rfl,rfl,λp v=>v⟩
   .rintro d ds ρ ⟨l,j,rfl,k,B,I⟩ M hM;cases j with
    |nil=>cases k
    |cons p j =>
     cases k;have C:=G p<|I p L0;have im:l.length+c.length<=1000:=by
      have:=Te E5 B;rw[R0,V2,R0,g0]at this
      lia
     refine nK (λrest ρ=>∃(pre:List Oe),c=pre++rest/\ρ=[Zt<|.list<|cs.map Y2,Zt<|.list<|b.map O1,Zt<|.list c,Yt<|.list<|(l++pre.map λx=>p++[x]).map O1,Zt<|.tuple p,none]) ?_ ?_
      ⟨[],rfl,by simp;rfl⟩
     .rintro x ds' ρ ⟨pre,t,rfl⟩ L hL;refine⟨by simp at C ⊢;exact rZ<|A0 (T0 (K1 _ _) _) C,by rw[g0,R0,g0];have:=Te E5 t;simp at this;exact B0 (show _<1000 by lia)<|by decide,?_⟩;refine hL _ ⟨pre++[x],by rw[t];simp,?_⟩;have e1:((l++pre.map λx=>p++[x]).map O1)++[O1<|p++[x]]=((l++(pre++[x]).map λx=>p++[x]).map O1):=by simp
      rw[<-e1];rfl
     .rintro ρ ⟨pre,t,rfl⟩;rw[Z2]at t;subst t;exact hM _ ⟨l++c.map λx=>p++[x],j,rfl,rfl,by rw[u3,<-B,V2],λO R=>I O<|G0 _ R⟩
   .rintro ρ ⟨l,j,rfl,k,B,I⟩;cases j with
    |cons p j=>cases k
    |nil =>
     rw[OQ,Z2]at B;refine hN _ ⟨b.flatMap λp=>c.map λx=>p++[x],e,by rw[B];rfl,rfl,y,?_,ff,λp v=>?_⟩
     .rw[IV,S8];exact m
     .obtain⟨O,R,hx⟩:=u5.mp v;obtain⟨x,_,rfl⟩:=M0.mp hx;have:=G O R;simp at this ⊢
      lia
 .rintro ρ ⟨b,e,rfl,k,Y,m,ff,G⟩;cases e with
  |cons a e=>cases k
  |nil=>have ff:b=AZ [[]] cs:=ff;rw[ff];exact q _
theorem QJ(a b:Qn):OW (a.map q0) (b.map q0)=(a.zip b).map λp=>O1 [.int p.1,.int p.2]:=by rw[OW,XQ,O0];rfl
noncomputable def OJ(a b:Int):Qn:=(G2 (b+1-a).toNat).map λ(n:Nat)=>a+(n:Int)
theorem jz(a b:Int):DZ a (b+1-a).toNat=(OJ a b).map q0:=by simp[DZ,OJ,O0,Function.comp_def]
theorem qF(s:Int):OJ 0 (s-1)=rng s:=by unfold OJ rng;rw[show s-1+1-0=s by lia];simp
noncomputable def rF(a b:Qn):List Qn:=AZ [[]]<|(a.zip b).map λp=>OJ p.1 p.2
variable (P w K mg base) in
structure CalsE:Prop where
 Ks:Cal P w K mg base 1 "one_of_each" ["choices"] (iZ K pF)
def HR:Con:=λb Q=>∃a c:Qn,b=[.fz<|jZ a,.fz<|jZ c]/\a.length=c.length/\a.length<=3/\(∀p∈a.zip c,0<=p.1/\p.1<=p.2/\p.2<=1000)/\yJ ((a.zip c).map λp=>OJ p.1 p.2)<=1000/\∀o,Q (.ow<|.list<|(rF a c).map jZ) o
theorem IR(F:Co K "places_between" (top 8) f fd)(T:Txt mg)(C:CalsE P w K mg base):FnOk P w K mg base VJ 2 f fd ["low","high"] (iZ K HR):=by
 have S:FnScope ["low","high"] ["low","high"] (kZ<|top 8):={};refine GK F S (λU A outer s H E t=>PZ<|KZ C.Ks t.m<|lZ<|Yj ["first","last"] [] (ZY rfl T.Xr<|IZ 0<|tZ 1) (λ_ _ _ _=>LK rfl rfl<|uZ (SZ 0)<|uZ (SZ 1) TJ)<|λ_ _ _ _=>Za rfl T.Xn T.Xp<|IZ 0<|lZ<|bK (wn 1) oZ) ?_;rintro k Y ⟨e,i,rfl,hl,v,l,x,q⟩;have y:(OW (e.map q0)<|i.map q0).length<=sizeLine:=by rw[QJ,g0,P2];exact rZ<|A0 (T4 _ _)<|A0 v<|K1 _ _
 refine⟨y,iK (λd=>match d with | .tuple [.int a,.int b]=>.list (DZ a (b+1-a).toNat)|_=>.none) ?_ ?_⟩
 .intro d hd N hN;rw[QJ]at hd;obtain⟨⟨a,b⟩,j,rfl⟩:=M0.mp hd;have B:=l _ j;simp only at B;exact⟨rfl,⟨by lia,by lia,by lia,by lia⟩,by lia,hN⟩
 .have G:(OW (e.map q0)<|i.map q0).map (λd=>match d with | .tuple [.int a,.int b]=>Y2 (DZ a (b+1-a).toNat)|_=>.none)=(((e.zip i).map λp=>OJ p.1 p.2).map<|X3 q0).map Y2:=by
   rw[QJ,O0,O0,O0];refine U1 λp _=>?_;simp[jz]
  rw[G];have I:yJ (((e.zip i).map λp=>OJ p.1 p.2).map<|X3 q0)=yJ ((e.zip i).map λp=>OJ p.1 p.2):=by
   generalize (e.zip i).map (λp=>OJ p.1 p.2)=cs;induction cs with
   |nil=>rfl
   |cons c cs L=>simp[yJ,L]
  refine⟨((e.zip i).map λp=>OJ p.1 p.2).map<|X3 q0,rfl,?_,by rw[I];exact x,by simp;lia,λo=>?_⟩
  .intro c M;obtain⟨Z,O,rfl⟩:=M0.mp M;obtain⟨p,j,rfl⟩:=M0.mp O;have:=l p j;intro z;have:=Te E5 z;simp[OJ]at this
   lia
  .have R:(AZ [[]]<|((e.zip i).map λp=>OJ p.1 p.2).map<|X3 q0).map O1=(rF e i).map jZ:=by
    have:=HK q0 ((e.zip i).map λp=>OJ p.1 p.2) [[]];simp only[Y0,T5]at this;rw[<-this,O0];rfl
   rw[R];exact q _
def CC:Con:=λa Q=>∃sd:Qn,a=[.fz<|jZ sd]/\sd.length<=1000/\∀o,Q (.fz<|jZ<|sd.map λ_=>0) o
theorem DC(F:Co K "first_place" (top 19) f fd)(T:Txt mg):FnOk P w K mg base VJ 1 f fd ["sides"] (iZ K CC):=by
 have S:FnScope ["sides"] ["sides"] (kZ<|top 19):={};refine GK F S (λb A outer s H E c=>PZ<|YW T.Xo<|lZ<|SK ["side"] [] (fJ rfl<|wv 0)<|λ_ _ _ _=>OZ) ?_;rintro a i ⟨sd,rfl,hl,q⟩;refine⟨by rw[g0];exact rZ hl,iK (λ_=>.int 0) (λd hd N hN=>hN) ?_⟩;have e:(sd.map q0).map (λ_=>q0 0)=(sd.map λ_=>0).map q0:=by simp[O0,Function.comp_def]
 rw[e];exact q _
def EN:Con:=λa Q=>∃sd:Qn,a=[.fz<|jZ sd]/\sd.length<=1000/\∀o,Q (.fz<|jZ<|sd.map λs=>s-1) o
theorem fM(F:Co K "last_place" (top 20) f fd)(T:Txt mg):FnOk P w K mg base VJ 1 f fd ["sides"] (iZ K EN):=by
 have S:FnScope ["sides"] ["sides"] (kZ<|top 20):={};refine GK F S (λc A outer s H E e=>PZ<|YW T.Xo<|lZ<|SK ["side"] [] (fJ rfl<|wv 0)<|λ_ _ _ _=>ZW (wn 0) oZ) ?_;rintro a b ⟨sd,rfl,hl,q⟩;refine⟨by rw[g0];exact rZ hl,iK (λd=>match d with | .int i=>.int (i-1)|_=>.none) (λd hd N hN=>?_) ?_⟩
 .obtain⟨i,_,rfl⟩:=M0.mp hd;exact hN
 .refine Eq.mpr (Te (λz=>b (.fz<|.tuple z) _) ?_) (q _);simp[O0,Function.comp_def]
variable (P w K mg base) in
structure CalsF:Prop where
 Kt:Cal P w K mg base 2 "places_between" ["low","high"] (iZ K HR)
 Yn:Cal P w K mg base 1 "first_place" ["sides"] (iZ K CC)
 Yo:Cal P w K mg base 1 "last_place" ["sides"] (iZ K EN)
theorem WH:∀sd:Qn,((sd.map λ_=>(0:Int)).zip<|sd.map λs=>s-1)=sd.map λs=>(0,s-1)
 |[]=>rfl
 |a::r=>by simp[WH r]
theorem zJ:∀{sd:Qn},(∀c∈sd,1<=c)->∀c∈sd,c<=prodI sd
 |a::r,h,c,b=>by
  have d:=h a L0;have e:∀c∈r,1<=c:=λc b=>h c<|G0 _ b;have i:=PJ e;show c<=a*prodI r;rcases E1.mp b with rfl|b
  .have:=K4 i (show (0:Int)<=c by exact Q1<|X2.1<|G1 d);lia
  .have j:=zJ e c b;have:=v5 d (show (0:Int)<=prodI r by exact Q1<|X2.1<|G1 i);lia
def XH:Con:=λa Q=>∃sd:Qn,a=[.fz<|jZ sd]/\Sd sd/\∀o,Q (.ow<|.list<|(EZ sd).map jZ) o
theorem vD(F:Co K "all_places" (top 21) f fd)(C:CalsF P w K mg base):FnOk P w K mg base VJ 3 f fd ["sides"] (iZ K XH):=by
 have S:FnScope ["sides"] ["sides"] (kZ<|top 21):={};refine GK F S (λl A outer s H E b=>PZ<|KZ C.Kt b.m<|LZ (KZ C.Yn b.m<|tZ 0)<|lZ<|KZ C.Yo b.m<|tZ 0) ?_;rintro c t ⟨sd,rfl,a,q⟩;have d:=a.l3;refine⟨sd,rfl,A0 d<|K1 _ _,λo1=>?_⟩;refine⟨sd,rfl,by lia,λo2=>?_⟩;have e:((sd.map λ_=>(0:Int)).zip<|sd.map λs=>s-1).map (λp=>OJ p.1 p.2)=sd.map rng:=by rw[WH,O0];exact U1 λs _=>qF s
 refine⟨sd.map λ_=>0,sd.map λs=>s-1,rfl,by simp,by simpa using d,λp i=>?_,?_,λo3=>?_⟩
 .rw[WH]at i;obtain⟨s,j,rfl⟩:=M0.mp i;have k:=a.p s j;have v:=zJ a.p s j;have:=a.m;exact⟨by show (0:Int)<=0;decide,by show (0:Int)<=s-1;exact G1 k,by show s-1<=1000;lia⟩
 .rw[e];have k:=LV a.p;have:=a.m
  lia
 .unfold rF;rw[e];exact q _
noncomputable def CJ(sd a:Qn):Int:=(sd.zip a).foldl (λi p=>i*p.1+p.2) 0
def wD:Con:=λa Q=>∃sd b:Qn,a=[.fz<|jZ sd,.fz<|jZ b]/\sd.length<=1000/\(∀s∈sd,0<=s/\s<2 ^ 64)/\∀o,Q (.fz<|.int<|CJ sd b) o
theorem EC(F:Co K "index_of" (top 9) f fd)(T:Txt mg):FnOk P w K mg base VJ 1 f fd ["sides","place"] (iZ K wD):=by
 have S:FnScope ["sides","place","index","side","number"] ["sides","place"] (kZ<|top 9):={};refine GK F S (λm A outer s H E t=>hZ (FZ 2 OZ)<|hZ (jW [3,4] (ZY rfl T.Xr<|IZ 0<|tZ 1) (LK rfl rfl<|uZ (SZ 3)<|uZ (SZ 4) TJ)<|TZ<|FZ 2<|bK (wx<|mY (wn 2)<|wn 3)<|wn 4)<|uD 2) ?_;rintro j v ⟨sd,b,rfl,hl,k,q⟩;refine nK (λrest ρ=>∃(i:Int) (a:List (Int×Int)),ρ=[Zt<|jZ sd,Zt<|jZ b,Zt<|.int i,none,none]/\rest=a.map (λp=>O1 [.int p.1,.int p.2])/\(∀p∈a,p∈sd.zip b)/\a.foldl (λi p=>i*p.1+p.2) i=CJ sd b) ?_ ?_
  ⟨0,sd.zip b,rfl,QJ _ _,λ_ h=>h,rfl⟩
 .rintro d y ρ ⟨i,a,rfl,c,e,hf⟩ N hN;cases a with
  |nil=>cases c
  |cons p a=>cases c;have l:=k p.1 (x6<|e p L0).1;exact⟨rfl,.inr ⟨by lia,l.2⟩,hN _ ⟨i*p.1+p.2,a,rfl,rfl,λx hx=>e x<|G0 _ hx,hf⟩⟩
 .rintro ρ ⟨i,a,rfl,c,e,hf⟩;cases a with
  |nil=>have hf:i=CJ sd b:=hf;subst hf;exact q _
  |cons _ _=>cases c
noncomputable abbrev aV(p:Int×Int):Oe:=.tuple [.int p.1,.int p.2]
noncomputable def zK(a b:Int):List (Int×Int):=if a=0 then [(b,1)] else [(a-1,-1),(b,1)]
def fw:Con:=λc Q=>∃a b:Int,c=[.fz<|.int a,.fz<|.int b]/\∀o,Q (.ow<|.list<|(zK a b).map aV) o
theorem Dy(F:Co K "corner_numbers" (top 26) f fd)(T:Txt mg):FnOk P w K mg base VJ 1 f fd ["first","last"] (iZ K fw):=by
 have S:FnScope ["first","last"] ["first","last"] (kZ<|top 26):={};refine GK F S (λe A outer s H E d=>hZ (aK (Xj d (wn 0) oZ) (PZ<|kJ<|lZ<|aJ<|LZ (wv 1)<|lZ OZ) sJ)<|PZ<|kJ<|LZ (aJ<|LZ (ZW (wn 0) oZ)<|lZ<|AH oZ)<|lZ<|aJ<|LZ (wv 1)<|lZ OZ) ?_;rintro c i ⟨a,b,rfl,q⟩;refine HJ (λh=>?_)<|λh=>?_
 .have h0:a=0:=by simpa using h
  have:=q;simp only[zK,De h0]at this;exact this _
 .have h0:a≠0:=by simpa using h
  have:=q;simp only[zK,Ce h0]at this;exact this _
noncomputable def AK(cs:List (Int×Int)):Int:=cs.foldl (λs p=>s*p.2) 1
noncomputable abbrev FN(cs:List (Int×Int)):Oe:=.tuple [.int<|AK cs,jZ (cs.map (·.1))]
noncomputable def L':Oe->Oe
 | .tuple [x,_]=>x
 |_=>.none
def xD:Con:=λa Q=>∃cs:List (Int×Int),a=[.fz<|.tuple<|cs.map aV]/\cs.length<=1000/\(∀p∈cs,-1<=p.2/\p.2<=1)/\∀o,Q (.fz<|FN cs) o
theorem Ey(F:Co K "signed_place" (top 27) f fd)(T:Txt mg):FnOk P w K mg base VJ 1 f fd ["chosen"] (iZ K xD):=by
 have S:FnScope ["chosen","sign","pair"] ["chosen"] (kZ<|top 27):={};refine GK F S (λm A outer s H E t=>hZ (FZ 1 OZ)<|hZ (jW [2] (fJ rfl<|wv 0) (SZ 2)<|TZ<|FZ 1<|mY (wn 1)<|wx<|MZ (wn 2) oZ)<|PZ<|aJ<|LZ (wv 1)<|lZ<|YW T.Xo<|lZ<|SK ["pair"] [] (fJ rfl<|wv 0)<|λ_ _ _ _=>MZ (wn 0) oZ) ?_;rintro j v ⟨cs,rfl,hl,k,q⟩;refine nK (λrest ρ=>∃(i:Int) (a:List (Int×Int)),ρ=[Zt<|.tuple<|cs.map aV,Zt<|.int i,none]/\rest=a.map aV/\(∀p∈a,p∈cs)/\a.foldl (λs p=>s*p.2) i=AK cs) ?_ ?_
  ⟨1,cs,rfl,rfl,λ_ h=>h,rfl⟩
 .rintro d y ρ ⟨i,a,rfl,b,c,hf⟩ N hN;cases a with
  |nil=>cases b
  |cons p a=>cases b;have l:=k p<|c p L0;exact⟨.int p.2,rfl,.inr ⟨by lia,by lia⟩,hN _ ⟨i*p.2,a,rfl,rfl,λx hx=>c x<|G0 _ hx,hf⟩⟩
 .rintro ρ ⟨i,a,rfl,b,c,hf⟩;cases a with
  |nil =>
   have hf:i=AK cs:=hf;subst hf;refine⟨by rw[g0];exact rZ hl,iK L' ?_ ?_⟩
   .intro d hd N hN;obtain⟨p,l,rfl⟩:=M0.mp hd;exact⟨.int p.1,rfl,hN⟩
   .have e:(cs.map aV).map L'=(cs.map (·.1)).map q0:=by rw[O0,O0];rfl
    rw[e];exact q _
  |cons _ _=>cases b
variable (P w K mg base) in
structure CalsR:Prop where
 Ks:Cal P w K mg base 1 "one_of_each" ["choices"] (iZ K pF)
 Yp:Cal P w K mg base 1 "corner_numbers" ["first","last"] (iZ K fw)
 Yr:Cal P w K mg base 1 "signed_place" ["chosen"] (iZ K xD)
noncomputable def gx(lo hi:Qn):List (List<|Int×Int):=AZ [[]]<|(lo.zip hi).map λp=>zK p.1 p.2
theorem gw(a b:Int):∀p∈zK a b,-1<=p.2/\p.2<=1:=by
 unfold zK;split<;>intro p c<;>simp at c
 .subst c;simp
 .rcases c with rfl|rfl<;>simp
theorem JR(a b:Int):zK a b≠[]:=by unfold zK;split<;>simp
theorem iw(a b:Int):(zK a b).length<=2:=by unfold zK;split<;>simp
def kz:Con:=λa Q=>∃sd lo hi:Qn,a=[.fz<|jZ sd,.fz<|.tuple [jZ lo,jZ hi]]/\lo.length=hi.length/\lo.length<=3/\∀o,Q (.ow<|.list<|(gx lo hi).map FN) o
theorem PU{α:Type}:∀{cs a:List (List α)}{P:α->Prop},(∀c∈cs,∀x∈c,P x)->(∀p∈a,∀x∈p,P x)->∀p∈AZ a cs,∀x∈p,P x
 |[],a,P,_,b=>b
 |c::cs,a,P,e,b=>by
  refine PU (cs:=cs) (λi h=>e i<|G0 _ h) ?_;intro p d x hx;obtain⟨q,j,d⟩:=u5.mp d;obtain⟨y,hy,rfl⟩:=M0.mp d;rcases O2.mp hx with h|h
  .exact b q j x h
  .rw[J2.mp h];exact e c L0 y hy
theorem mz{α:Type}:∀{cs acc:List (List α)}{n:Nat},(∀p∈acc,p.length=n)->∀p∈AZ acc cs,p.length=n+cs.length
 |[],acc,n,b=>λp a=>by simpa using b p a
 |c::cs,acc,n,b=>λp a=>by
  have:=mz (cs:=cs) (acc:=acc.flatMap λp=>c.map λx=>p++[x]) (n:=n+1) (λp a=>by obtain⟨q,d,a⟩:=u5.mp a;obtain⟨y,hy,rfl⟩:=M0.mp a;simp[b q d]) p a;simp only[L1];exact UX this<|M6 _ _
noncomputable def O':Oe->Oe
 | .tuple [.int a,.int b]=>.list<|(zK a b).map aV
 |_=>.none
noncomputable def Gc:Oe->Int×Int
 | .tuple [.int a,.int b]=>(a,b)
 |_=>(0,0)
theorem jw(cs:List (Int×Int)):(cs.map aV).map Gc=cs:=by rw[O0];exact tX cs
noncomputable def CS:Oe->Oe
 | .tuple a=>FN<|a.map Gc
 |_=>.none
theorem lW{α:Type}:∀{cs:List (List α)},(∀c∈cs,c.length<=2)->yJ cs<=2 ^ cs.length
 |[],_=>by simp[yJ]
 |c::cs,h=>by
  have a:=h c L0;have b:=lW (cs:=cs) λd e=>h d<|G0 _ e;simp only[yJ,L1,Nat.pow_succ];calc c.length*yJ cs<=2*2 ^ cs.length:=yX a b
   _=2 ^ cs.length*2:=G4 _ _
theorem jx(F:Co K "corners" (top 25) f fd)(T:Txt mg)(C:CalsR P w K mg base):FnOk P w K mg base VJ 2 f fd ["sides","box"] (iZ K kz):=by
 have S:FnScope ["sides","box","choices"] ["sides","box"] (kZ<|top 25):={};refine GK F S (λye A outer s H E t=>hZ (gD (i:=2) S.nd rfl rfl rfl (own:=["first","last"]) (fr:=[]) (by kernel_rfl) (ZY rfl T.Xr<|LZ (MZ (wn 1) oZ)<|lZ<|MZ (wn 1) oZ) (λ_ _ _ _=>LK rfl rfl<|uZ (SZ 0)<|uZ (SZ 1) TJ) (λ_ _ _ _=>pA)<|λ_ _ _ _=>KZ C.Yp t.m<|IZ 0<|tZ 1)<|PZ<|SK ["chosen"] [] (fJ rfl<|KZ C.Ks t.m<|lZ<|wv 2)<|λ_ _ _ _=>KZ C.Yr t.m<|tZ 0) ?_;rintro B Qd ⟨sd,lo,hi,rfl,hl,l,q⟩;have O:(OW (lo.map q0)<|hi.map q0).length<=sizeLine:=by rw[QJ,g0,P2];exact rZ (by omega)
 refine⟨jZ lo,rfl,jZ hi,rfl,O,iK O' ?_ ?_⟩
 .intro d hd N hN;rw[QJ]at hd;obtain⟨⟨a,b⟩,k,rfl⟩:=M0.mp hd;exact⟨rfl,a,b,rfl,λo=>hN⟩
 .have R:(OW (lo.map q0)<|hi.map q0).map O'=(((lo.zip hi).map λp=>zK p.1 p.2).map<|X3 aV).map Y2:=by
   rw[QJ,O0,O0,O0];rfl
  rw[R];have G:∀c∈((lo.zip hi).map λp=>zK p.1 p.2).map (X3 aV),∃p:Int×Int,c=(zK p.1 p.2).map aV:=λc e=>by obtain⟨c',U,rfl⟩:=M0.mp e;obtain⟨p,_,rfl⟩:=M0.mp U;exact⟨p,rfl⟩
  have I:yJ (((lo.zip hi).map λp=>zK p.1 p.2).map<|X3 aV)<=1000:=by
   have j:=lW (cs:=((lo.zip hi).map λp=>zK p.1 p.2).map<|X3 aV) λc e=>by obtain⟨p,rfl⟩:=G c e;rw[g0];exact iw _ _
   have v:(((lo.zip hi).map λp=>zK p.1 p.2).map<|X3 aV).length<=3:=by simp;exact A0 (T4 _ _) l
   have l:=A8 (n:=2) (by decide) v;exact A0 j<|A0 l<|K1 _ _
  refine⟨((lo.zip hi).map λp=>zK p.1 p.2).map<|X3 aV,rfl,?_,I,by simp;omega,λo=>?_⟩
  .intro c e z;obtain⟨p,rfl⟩:=G c e;exact JR _ _<|v6.mp z
  have L:AZ [[]] (((lo.zip hi).map λp=>zK p.1 p.2).map<|X3 aV)=(gx lo hi).map (X3 aV):=by have:=HK aV ((lo.zip hi).map λp=>zK p.1 p.2) [[]];simp only[Y0,T5]at this;exact this.symm
  have Y:(gx lo hi).length<=1000:=by have j:=dJ (((lo.zip hi).map λp=>zK p.1 p.2).map<|X3 aV) [[]];rw[L,g0]at j;simp only[i4,r8]at j;exact le_of_eq_of_le j I
  rw[L];refine⟨by rw[g0,g0];exact rZ Y,iK CS ?_ ?_⟩
  .intro d hd N hN;obtain⟨d',y,rfl⟩:=M0.mp hd;obtain⟨cs,M,rfl⟩:=M0.mp y;have j:∀p∈cs,-1<=p.2/\p.2<=1:=PU (P:=λp:Int×Int=>-1<=p.2/\p.2<=1) (λc e x hx=>by
     obtain⟨p,_,rfl⟩:=M0.mp e;exact gw _ _ x hx) (λp k x hx=>by simp at k;subst k;simp at hx) cs M;have v:cs.length<=1000:=by
    have:=mz (n:=0) (λp k=>by simp at k;subst k;rfl) cs M;simp at this
    lia
   have l:CS (.tuple<|cs.map aV)=FN cs:=by rw[CS,jw]
   rw[l]at hN;exact⟨cs,rfl,v,j,λo=>hN⟩
  .have Z:(((gx lo hi).map<|X3 aV).map O1).map CS=(gx lo hi).map FN:=by
    rw[O0,O0];refine U1 λcs _=>?_;show CS (.tuple<|cs.map aV)=FN cs;rw[CS,jw]
   rw[Z];exact q _
variable (P w K mg base) in
structure CalsS:Prop where
 Ys:Cal P w K mg base 1 "index_of" ["sides","place"] (iZ K wD)
 Wn:Cal P w K mg base 2 "corners" ["sides","box"] (iZ K kz)
noncomputable def FC(cl:Qn)(i:Int):Int:=(lV cl i).getD 0
noncomputable def unI:Oe->Int
 | .int i=>i
 |_=>0
theorem RJ(ns:Qn):(ns.map q0).map unI=ns:=by rw[O0];exact tX ns
noncomputable def Ib(sd cl:Qn):Oe->Oe
 | .tuple [.int s,.tuple a]=>.int<|s*FC cl (CJ sd<|a.map unI)
 |_=>.none
noncomputable def gM(sd cl lo hi:Qn):Int:=((gx lo hi).map λcs=>AK cs*FC cl (CJ sd (cs.map (·.1)))).sum
theorem GC(sd cl:Qn)(cs:List (Int×Int)):Ib sd cl (FN cs)=.int (AK cs*FC cl (CJ sd (cs.map (·.1)))):=by show q0 (AK cs*FC cl (CJ sd (((cs.map (·.1)).map q0).map unI)))=_;rw[RJ]
theorem GN(h:∀p∈cs,-1<=p.2/\p.2<=1):-1<=AK cs/\AK cs<=1:=by
 have a:∀(l:List (Int×Int)) (s:Int),(∀p∈l,-1<=p.2/\p.2<=1)->-1<=s/\s<=1->-1<=l.foldl (λs p=>s*p.2) s/\l.foldl (λs p=>s*p.2) s<=1:=by
  intro l;induction l with
  |nil=>intro s _ b;exact b
  |cons p l c =>
   intro s hl b;refine c _ (λq d=>hl q<|G0 _ d) ?_;have i:=hl p L0;have:p.2=-1\/p.2=0\/p.2=1:=by lia
   show -1<=s*p.2/\s*p.2<=1;rcases this with e|e|e<;>rw[e]<;>lia
 exact a cs 1 h (by decide)
theorem iM(h:cs∈gx lo hi):∀p∈cs,-1<=p.2/\p.2<=1 :=
 PU (P:=λp:Int×Int=>-1<=p.2/\p.2<=1) (λc b x hx=>by obtain⟨p,_,rfl⟩:=M0.mp b;exact gw _ _ x hx) (λp a x hx=>by simp at a;subst a;simp at hx) cs h
theorem jM(lo hi:Qn)(hl:lo.length=hi.length)(a:lo.length<=3):(gx lo hi).length<=1000:=by
 have b:=dJ ((lo.zip hi).map λp=>zK p.1 p.2) [[]];have i:=lW (cs:=(lo.zip hi).map λp=>zK p.1 p.2) λc d=>by obtain⟨p,_,rfl⟩:=M0.mp d;exact iw _ _
 have e:((lo.zip hi).map λp=>zK p.1 p.2).length<=3:=by simp;exact A0 (T4 _ _) a
 have j:=A8 (n:=2) (by decide) e;simp only[i4,r8]at b;unfold gx
 lia
def Jb(cl:Qn)(d:Oe):Prop:=d=jZ cl\/d=.list (cl.map q0)
def LR:Con:=λa Q=>∃(sd cl lo hi:Qn) (d:Oe),a=[.fz<|jZ sd,.fz d,.fz<|.tuple [jZ lo,jZ hi]]/\Jb cl d/\lo.length=hi.length/\lo.length<=3/\sd.length<=1000/\(∀s∈sd,0<=s/\s<2 ^ 64) /\
 (∀cs∈gx lo hi,(lV cl (CJ sd (cs.map (·.1)))).isSome=true)/\∀o,Q (.fz<|.int<|gM sd cl lo hi) o
theorem MR(F:Co K "sum_by_running" (top 28) f fd)(T:Txt mg)(C:CalsS P w K mg base):FnOk P w K mg base VJ 3 f fd ["sides","table","box"] (iZ K LR):=by
 have S:FnScope ["sides","table","box"] ["sides","table","box"] (kZ<|top 28):={};refine GK F S (λy A outer s H E c=>PZ<|BZ XY (XJ (K:=K) rfl rfl) T.Xt Ci<|lZ<|Yj ["sign","place"] [1,0] (fJ rfl<|KZ C.Wn c.m<|IZ 0<|tZ 2) (λ_ _ _ _=>LK rfl rfl<|uZ (SZ 0)<|uZ (SZ 1) TJ)<|λ_ _ _ _=>mY (wn 0)<|wx<|MZ (wn 2)<|wx<|KZ C.Ys c.m<|IZ 3<|tZ 1) ?_;rintro e B ⟨sd,cl,lo,hi,d,rfl,a,hl,i,l,t,b,q⟩;refine⟨sd,lo,hi,rfl,hl,i,λo=>⟨by rw[g0];exact rZ<|jM lo hi hl i,iK (Ib sd cl) ?_ ?_⟩⟩
 .intro d hd N hN;obtain⟨cs,j,rfl⟩:=M0.mp hd;obtain⟨v,k⟩:=EQ.mp<|b cs j;have G:=GN<|iM j;rw[GC,show FC cl (CJ sd (cs.map (·.1)))=v by rw[FC,k];rfl]at hN;rcases a with rfl|rfl;all_goals exact⟨rfl,sd,cs.map (·.1),rfl,l,t,λo=>⟨.int v,Ck q0 k,.inl ⟨by omega,by omega⟩,hN⟩⟩
 .have x:((gx lo hi).map FN).map (Ib sd cl)=((gx lo hi).map λcs=>AK cs*FC cl (CJ sd (cs.map (·.1)))).map q0:=by
   rw[O0,O0];exact U1 λcs _=>GC sd cl cs
  rw[x];exact⟨_,rfl,q _⟩
noncomputable def nz{α:Type}:List α->List (List α)->Prop
 |[],[]=>True
 |x::a,c::cs=>x∈c/\nz a cs
 |_,_=>Ln
theorem oz{α:Type}:∀{cs b:List (List α)}{p:List α},p∈AZ b cs->∃a∈b,∃q,p=a++q/\nz q cs
 |[],b,p,h=>⟨p,h,[],by simp,trivial⟩
 |c::cs,b,p,h=>by obtain⟨k,d,q,rfl,e⟩:=oz (cs:=cs) h;obtain⟨a,i,j⟩:=u5.mp d;obtain⟨x,hx,rfl⟩:=M0.mp j;exact⟨a,i,x::q,by simp,hx,e⟩
theorem nJ{α:Type}{cs:List (List α)}{p:List α}(h:p∈AZ [[]] cs):nz p cs:=by obtain⟨a,b,q,rfl,c⟩:=oz h;simp at b;subst b;exact c
theorem kM{x s:Int}(h:x∈rng s):0<=x/\x<s:=by unfold rng at h;obtain⟨n,a,rfl⟩:=M0.mp h;have:=o7.mp a;exact⟨X4 _,Int.lt_toNat.1 this⟩
noncomputable def Wi:Qn->Qn->Prop
 |[],[]=>True
 |x::a,s::b=>(0<=x/\x<s)/\Wi a b
 |_,_=>Ln
theorem mW(a:p∈EZ sd):Wi p sd:=by
 have h:=nJ a;clear a;induction sd generalizing p with
 |nil=>cases p with
  |nil=>trivial
  |cons _ _=>exact h.elim
 |cons s c b=>cases p with
  |nil=>exact h.elim
  |cons x d=>exact⟨kM h.1,b h.2⟩
theorem yD:∀{sd p:Qn}{cs:List (Int×Int)},Wi p sd->nz cs ((p.zip p).map λq=>zK q.1 q.2)->Wi (cs.map (·.1)) sd
 |[],[],[],_,_=>trivial
 |[],[],_::_,_,h=>h.elim
 |[],_::_,_,h,_=>h.elim
 |_::_,[],_,h,_=>h.elim
 |_::_,_::_,[],_,h=>h.elim
 |s::d,x::e,c::cs,h,k=>by
  refine⟨?_,yD h.2 k.2⟩;have b:=h.1;have a:c∈zK x x:=k.1;unfold zK at a;split at a<;>simp at a
  .subst a;exact b
  .rcases a with rfl|rfl
   .show 0<=x-1/\x-1<s;lia
   .exact b
theorem HN:∀{sd pl:Qn}{i m:Int},Wi pl sd->0<=i->i<m->0<=(sd.zip pl).foldl (λi p=>i*p.1+p.2) i/\(sd.zip pl).foldl (λi p=>i*p.1+p.2) i<m*prodI sd
 |[],[],i,m,_,h0,a=>by simp[prodI];exact⟨h0,a⟩
 |[],_::_,_,_,h,_,_=>h.elim
 |_::_,[],_,_,h,_,_=>h.elim
 |s::c,x::d,i,m,h,h0,a=>by have hx:=h.1;have b:0<=s:=Q1<|V1 hx.1 hx.2;have e:0<=i*s:=zX h0 b;have j:i*s<=(m-1)*s:=v5 (Q7 a) b;rw[Int.sub_mul,Z4]at j;have:=HN (sd:=c) (pl:=d) (i:=i*s+x) (m:=m*s) h.2 (AX e hx.1) (by lia);rw[x5]at this;exact this
theorem kw{i:Int}(h0:0<=i)(a:i<cl.length):(lV cl i).isSome=true:=by
 have:i.toNat<cl.length:=by omega
 unfold lV Sz;simp[h0,a,this]
theorem vK(a:∀c∈sd,1<=c):((EZ sd).length:Int)=prodI sd:=by rw[EZ,dJ,<-LV a];simp
theorem EY:∀{p sd:Qn},Wi p sd->p.length=sd.length
 |[],[],_=>rfl
 |[],_::_,h=>h.elim
 |_::_,[],h=>h.elim
 |_::_,_::_,h=>by simp[EY h.2]
noncomputable def W{α:Type}:List (List α)->(List α->Int)->Int
 |[],g=>g []
 |c::cs,g=>(c.map λx=>W cs λq=>g (x::q)).sum
theorem pz(f:β->Int)(h:α->List β):∀l:List α,((l.flatMap h).map f).sum=(l.map λa=>((h a).map f).sum).sum
 |[]=>rfl
 |a::l=>by simp[pz f h l]
theorem qz:∀(cs b:List (List α)) (g:List α->Int),((AZ b cs).map g).sum=(b.map λa=>W cs λq=>g<|a++q).sum
 |[],b,g=>by simp[AZ,W]
 |c::cs,b,g=>by rw[AZ,qz cs,pz];congr 1;refine U1 λa _=>?_;rw[O0,W];congr 1;refine U1 λx _=>?_;show (W cs λq=>g<|(a++[x])++q)=W cs λq=>g (a++x::q);congr 1;funext q;simp
theorem lU(cs:List (List α))(g:List α->Int):((AZ [[]] cs).map g).sum=W cs g:=by rw[qz];simp
theorem rz(e:Int):∀(cs:List (List α)) (g:List α->Int),(W cs λq=>e*g q)=e*W cs g
 |[],g=>rfl
 |c::cs,g=>by
  have b:∀(l:List α) (f:α->Int),(l.map λx=>e*f x).sum=e*(l.map f).sum:=by
   intro l f;induction l with
   |nil=>simp
   |cons a l d=>simp[d,bZ]
  simp only[W];rw[<-b];congr 1;exact U1 λx _=>rz e cs λq=>g (x::q)
theorem YH:∀(l:List (Int×Int)) (s:Int),l.foldl (λs p=>s*p.2) s=s*AK l
 |[],s=>by simp[AK]
 |p::l,s=>by have a:=YH l<|s*p.2;have b:=YH l<|1*p.2;unfold AK at *;simp only[S4];rw[a,b,Z4,x5]
theorem NV(p:Int×Int)(l:List (Int×Int)):AK (p::l)=p.2*AK l:=by have:=YH l<|1*p.2;rw[Z4]at this;unfold AK;simp only[S4,Z4];exact this
noncomputable def Kb(l:Qn):Int:=1-2*(l.sum % 2)
theorem DS(l:Qn):Kb (0::l)=Kb l:=by simp[Kb]
theorem zD:∀(cs:List (List α)),(W cs λ_=>(0:Int))=0
 |[]=>rfl
 |c::cs=>by
  simp only[W,zD cs];induction c with
  |nil=>rfl
  |cons a c b=>simpa using b
theorem IN:∀(cs:List (List α)) (f g:List α->Int),(W cs λq=>f q+g q)=W cs f+W cs g
 |[],f,g=>rfl
 |c::cs,f,g=>by
  simp only[W,IN cs];induction c with
  |nil=>rfl
  |cons a c b=>simp only[Y0,W3,b];lia
theorem NR{s:Int}{j:Nat}{x:Int}(h:(rng s)[j]?=some x):x=j/\(j:Int)<s:=by unfold rng at h;rw[S1,o6]at h;obtain⟨n,a,rfl⟩:=h;rw[Y1]at a;obtain⟨b,c⟩:=a;simp at b c;exact⟨T9.2 c.symm,b⟩
theorem lw{s:Int}(k:1<=s):∀{c:List Qn}{d:Nat}{e:Qn},(c.flatMap λp=>(rng s).map λx=>p++[x])[d]?=some e -> ∃(j:Nat) (a:Qn) (x:Int),c[j]?=some a/\e=a++[x]/\(0<=x/\x<s)/\(d:Int)=j*s+x
 |[],d,e,h=>by simp at h
 |a::c,d,e,h=>by
  rw[V2]at h;rcases fQ d ((rng s).map λx=>a++[x]).length with g|g
  .rw[A3 g,S1,o6]at h;obtain⟨x,hx,rfl⟩:=h;obtain⟨rfl,i⟩:=NR hx;exact⟨0,a,_,rfl,rfl,⟨X4 _,i⟩,by simp⟩
  .rw[S2 g]at h;obtain⟨j,b,x,l,i,m,q⟩:=lw k h;rw[g0,JV]at g q;refine⟨j+1,b,x,l,i,m,?_⟩;rw[show ((j+1:Nat):Int)=(j:Int)+1 by rfl,cZ,Z4];omega
theorem mw:∀{sd:Qn}{b:List Qn}{k:Nat}{p:Qn},(∀c∈sd,1<=c)->(AZ b<|sd.map rng)[k]?=some p -> ∃(j:Nat) (a q:Qn),b[j]?=some a/\p=a++q/\Wi q sd/\(sd.zip q).foldl (λi p=>i*p.1+p.2) (j:Int)=k
 |[],b,k,p,_,h=>⟨k,p,[],h,by simp,trivial,rfl⟩
 |s::l,b,k,p,d,h=>by obtain⟨I,L,m,t,v,y,e⟩:=mw (sd:=l) (λc B=>d c<|G0 _ B) h;obtain⟨j,a,x,C,g2,F,G⟩:=lw (d s L0) t;refine⟨j,a,x::m,C,by rw[v,g2];simp,⟨F,y⟩,?_⟩;rw[G]at e;exact e
theorem nW(e:∀c∈sd,1<=c){k:Nat}{p:Qn}(h:(EZ sd)[k]?=some p):Wi p sd/\CJ sd p=k:=by
 obtain⟨j,a,q,b,d,i,l⟩:=mw e h;have m:j=0:=by
  rcases j with _|j
  .rfl
  .simp at b
 subst m;simp at b;subst b;simp at d;subst d;exact⟨i,l⟩
theorem tF(a:∀c∈sd,1<=c):(EZ sd).Nodup:=by rw[List.nodup_iff_pairwise_ne,Q4];intro i j hi d l e;have b:=nW a (k:=i) (p:=(EZ sd)[i]) (by simp[hi]);have m:=nW a (k:=j) (p:=(EZ sd)[j]) (by simp[d]);rw[e]at b;have:=b.2.symm.trans m.2;exact T2 _<|B0 l<|P0<|T9.1 this.symm
theorem QU:∀(cs:List (List α)) {f g:List α->Int},(∀q,nz q cs->f q=g q)->W cs f=W cs g
 |[],f,g,h=>h [] trivial
 |c::cs,f,g,h=>by show (c.map λx=>W cs λq=>f (x::q)).sum=(c.map λx=>W cs λq=>g (x::q)).sum;congr 1;exact U1 λx hx=>QU cs λq a=>h (x::q) ⟨hx,a⟩
theorem ZH:∀{sd p:Qn} (i:Int),Wi p sd->(sd.zip p).foldl (λi q=>i*q.1+q.2) i=i*prodI sd+CJ sd p
 |[],[],i,_=>by simp[CJ,prodI]
 |[],_::_,_,h=>h.elim
 |_::_,[],_,h=>h.elim
 |s::sd,x::p,i,h=>by have a:=ZH (sd:=sd) (p:=p) (i*s+x) h.2;have b:=ZH (sd:=sd) (p:=p) (0*s+x) h.2;show (sd.zip p).foldl _ (i*s+x)=i*(s*prodI sd)+(sd.zip p).foldl _ (0*s+x);rw[a,b,j9,i9,cZ,x5];exact CQ _ _ _
theorem HC{s x:Int}(h:Wi p sd):CJ (s::sd) (x::p)=x*prodI sd+CJ sd p:=by have:=ZH (sd:=sd) (p:=p) (0*s+x) h;show (sd.zip p).foldl _ (0*s+x)=_;rw[this,j9,i9]
theorem oW(h:Wi p sd):0<=CJ sd p/\CJ sd p<prodI sd:=by have:=HN h (a9 0) (by decide:(0:Int)<1);rw[Z4]at this;exact this
theorem OV:∀l:Qn,RM.prodI l=prodI l
 |[]=>rfl
 |a::r=>by show a*RM.prodI r=a*prodI r;rw[OV r]
theorem prodN_I{l:Qn}(h:∀c∈l,1<=c):prodI l=(RM.prodN l:Int):=by rw[<-OV];exact RM.prodN_I h
theorem uF{s x:Int}(a:∀c∈sd,1<=c)(h:Wi p sd)(hx:0<=x):(CJ (s::sd) (x::p)).toNat=x.toNat*RM.prodN sd+(CJ sd p).toNat/\(CJ sd p).toNat<RM.prodN sd:=by
 have d:=oW h;have b:=prodN_I a;obtain⟨n,rfl⟩:=Z5 hx;rw[HC h,b];have e:((n:Int)*(RM.prodN sd:Int))=((n*RM.prodN sd:Nat):Int):=by rw[K7]
 rw[e];constructor
 .show (((n*RM.prodN sd:Nat):Int)+CJ sd p).toNat=n*RM.prodN sd+(CJ sd p).toNat
  lia
 .omega
theorem JN:∀{sd p:Qn},(∀c∈sd,1<=c)->Wi p sd->∀F:Nat->Int,(W ((p.zip p).map λq=>zK q.1 q.2) λcs=>AK cs*F (CJ sd (cs.map (·.1))).toNat)=RM.dif sd F (CJ sd p).toNat
 |[],[],_,_,F=>by simp[W,AK,RM.dif,CJ]
 |[],_::_,_,h,_=>h.elim
 |_::_,[],_,h,_=>h.elim
 |s::sd,x::p,j,h,F=>by
  have b:∀c∈sd,1<=c:=λc k=>j c<|G0 _ k;have hx:=h.1;have l:=RM.prodN_pos b;obtain⟨d,i⟩:=uF (s:=s) b h.2 hx.1;have one:∀(y e:Int),0<=y->(W ((p.zip p).map λq=>zK q.1 q.2) λcs=>AK ((y,e)::cs)*F (CJ (s::sd) (((y,e)::cs).map (·.1))).toNat)=e*RM.dif sd (λa=>F<|y.toNat*RM.prodN sd+a) (CJ sd p).toNat:=by intro y e hy;rw[<-JN b h.2 λa=>F<|y.toNat*RM.prodN sd+a,<-rz];refine QU _ λcs m=>?_;have hw:=yD h.2 m;rw[NV,x5];show e*(AK cs*F (CJ (s::sd) (y::cs.map (·.1))).toNat)=_;rw[(uF (s:=s) b hw hy).1]
  have t:(CJ (s::sd) (x::p)).toNat / RM.prodN sd=x.toNat:=by rw[d,G4,Z9 l,m7 i,b8]
  have v:(CJ (s::sd) (x::p)).toNat % RM.prodN sd=(CJ sd p).toNat:=by rw[d,G4,hX,L6 i]
  show ((zK x x).map λc=>W ((p.zip p).map λq=>zK q.1 q.2) λcs=>AK (c::cs)*F (CJ (s::sd) ((c::cs).map (·.1))).toNat).sum=RM.dif sd (λa=>F<|(CJ (s::sd) (x::p)).toNat / RM.prodN sd*RM.prodN sd+a) ((CJ (s::sd) (x::p)).toNat % RM.prodN sd)-(if (CJ (s::sd) (x::p)).toNat / RM.prodN sd=0 then 0 else RM.dif sd (λa=>F<|((CJ (s::sd) (x::p)).toNat / RM.prodN sd-1)*RM.prodN sd+a) ((CJ (s::sd) (x::p)).toNat % RM.prodN sd));rw[t,v];by_cases h0:x=0
  .rw[zK,De h0,De<|y_ h0];show (W ((p.zip p).map λq=>zK q.1 q.2) λcs=>AK ((x,1)::cs)*F (CJ (s::sd) (((x,1)::cs).map (·.1))).toNat)+0=_;rw[one x 1 hx.1,Z4];rfl
  .rw[zK,Ce h0,Ce<|by lia];show (W ((p.zip p).map λq=>zK q.1 q.2) λcs=>AK ((x-1,-1)::cs)*F (CJ (s::sd) (((x-1,-1)::cs).map (·.1))).toNat)+((W ((p.zip p).map λq=>zK q.1 q.2) λcs=>AK ((x,1)::cs)*F (CJ (s::sd) (((x,1)::cs).map (·.1))).toNat)+0)=_;rw[one x 1 hx.1,one (x-1) (-1)<|by lia,Z4,show (x-1).toNat=x.toNat-1 by exact Int.pred_toNat _]
   lia
theorem IC{i:Int}(h:0<=i):FC cl i=cl.getD i.toNat 0:=by
 obtain⟨n,rfl⟩:=Z5 h;rw[FC,B4,X0];congr 1;by_cases a:n<cl.length
 .rw[rW<|J0 a,J0 a]
 .rw[G6<|A1 a];unfold lV Sz;simp[a]
theorem lM(a:∀c∈sd,1<=c)(h:Wi p sd):gM sd cl p p=RM.dif sd (λi=>cl.getD i 0) (CJ sd p).toNat:=by rw[gM,gx,lU,<-JN a h λi=>cl.getD i 0];refine QU _ λcs b=>?_;rw[IC (oW<|yD h b).1]
noncomputable def GJ(sd cl:Qn):Qn:=(G2<|RM.prodN sd).map λk=>RM.dif sd (λi=>cl.getD i 0) k
noncomputable def aG(sd cl:Qn):Qn:=(G2<|RM.prodN sd).map λk=>RM.pre sd (λi=>cl.getD i 0) k
theorem AJ(a:∀c∈sd,1<=c):(EZ sd).length=RM.prodN sd:=by have b:=vK a;rw[prodN_I a]at b;exact T9.1 b
theorem kx(a:∀c∈sd,1<=c):((EZ sd).map λp=>gM sd cl p p)=GJ sd cl:=by refine j7 (by simp[GJ,AJ a]) λk b d=>?_;simp only[g0]at b;obtain⟨hw,hi⟩:=nW a<|J0 b;simp only[N8,GJ,g8];rw[lM a hw,hi,B4]
theorem bG{f:Nat->Int}{k:Nat}(h:k<n):((G2 n).map f).getD k 0=f k:=by rw[X0,S1,List.getElem?_range h];rfl
theorem P'(a:∀c∈sd,1<=c)(hl:cl.length=RM.prodN sd):GJ sd (aG sd cl)=cl:=by refine j7 (by simp[GJ,hl]) λk e b=>?_;simp only[GJ,N8,g8];have d:k<RM.prodN sd:=B0 b<|P0 hl;rw[RM.dif_congr sd a (f:=λi=>(aG sd cl).getD i 0) (g:=RM.pre sd λi=>cl.getD i 0) k d λi hi=>bG hi,RM.dif_pre sd a _ k d,X0,J0 b];rfl
theorem KN(a:∀c∈sd,1<=c)(hl:cl.length=RM.prodN sd):aG sd (GJ sd cl)=cl:=by refine j7 (by simp[aG,hl]) λk e b=>?_;simp only[aG,N8,g8];have d:k<RM.prodN sd:=lt_of_lt_of_eq b hl;rw[RM.pre_congr sd a (f:=λi=>(GJ sd cl).getD i 0) (g:=RM.dif sd λi=>cl.getD i 0) k d λi hi=>bG hi,RM.pre_dif sd a _ k d,X0,J0 b];rfl
theorem ox(sd:Qn):EZ sd=RM.placesOf sd:=by
 have c:∀(sd:Qn) (b:List Qn),AZ b (sd.map rng)=sd.foldl RM.stepP b:=by
  intro sd;induction sd with
  |nil=>intro b;rfl
  |cons a r d=>intro b;show AZ (b.flatMap λp=>(rng a).map λx=>p++[x]) (r.map rng)=r.foldl RM.stepP (RM.stepP b a);rw[d];congr 1;unfold RM.stepP;congr 1;funext p;simp[rng,RM.rowP]
 exact c sd [[]]
theorem vF(e:∀c∈sd,1<=c)(hl:cl.length=RM.prodN sd):RM.runProg sd.reverse 1 cl=aG sd cl:=by
 refine j7 (by rw[RM.runProg_len];simp[aG,hl]) λk b j=>?_;have a:k<RM.prodN sd:=by rw[RM.runProg_len]at b;omega
 have d:=RM.prog_val sd e cl 1 (by rw[hl,r8]) k<|B0 a<|P0 hl.symm;rw[X0,J0 b,q5,m7 a,L6 a]at d;rw[d];simp only[aG,N8,g8];exact RM.pre_congrU sd k λi=>by rw[g9,Y6]
theorem tz(a:∀c∈sd,1<=c)(hl:cl.length=RM.prodN sd):RM.runOf sd cl=aG sd cl:=by rw[<-vF a hl,RM.runEq a<|by rw[hl,<-AJ a,ox]]
open L2 L3
theorem BD{a:Qn}{i:Nat}(h:i<a.length):lV (a.map q0) (i:Int)=some (.int<|a.getD i 0):=by refine rW ?_;rw[S1,J0 h,X0,J0 h];rfl
theorem JC{i:Nat}(h:i<n):Sz n (i:Int)=some i:=by unfold Sz;simp;omega
def S':Con:=λa Q=>∃(c:Qn) (b step:Int),a=[.io<|.list<|c.map q0,.fz<|.int b,.fz<|.int step]/\c.length<=1000/\1<=b/\b<=1000/\1<=step/\step<=1000 /\
 ∀o,Q (.fz .none) (some (.io<|.list<|(RM.addAlong b step c).map q0)::o)
theorem mM(F:Co K "add_along" (top 24) f fd)(T:Txt mg):FnOk P w K mg base VJ 1 f fd ["table","side","step"] (iZ K S'):=by
 have S:FnScope ["table","side","step","index"] ["table","side","step"] (kZ<|top 24):={};refine GK F S (λG A outer s H E I=>TZ<|jW [3] (eR T.Xp<|IZ 2<|lZ<|BW T.Qo<|tZ 0) (SZ 3)<|TZ<|aK (SJ Iq ZD (wx<|w_bin xY pY (wx<|w_bin tW qW (wn 3)<|wn 2)<|wn 1) oZ) (TZ<|vA (bK (wx<|MZ (wn 0)<|wn 3)<|wx<|MZ (wn 0)<|wx<|ZW (wn 3)<|wn 2) (wn 0)<|wn 3) sJ) ?_;rintro v L ⟨b,a,step,rfl,hx,B,M,x,b2,q⟩;have O:((step.toNat:Nat):Int)=step:=W6<|Q1<|X2.1<|G1 x;refine⟨⟨by lia,by lia,by rw[g0];lia,by rw[g0];lia⟩,?_⟩;refine nK (λrest ρ=>∃(j m:Nat),ρ=[some<|.io<|.list<|(RM.addN a step b j).map q0,Zt<|.int a,Zt<|.int step,none]/\rest=DZ (step+j) m/\j+m=b.length-step.toNat) ?_ ?_
  ⟨0,b.length-step.toNat,rfl,by rw[g0];congr 1<;>lia,Y6 _⟩
 .rintro d R ρ ⟨j,m,rfl,c,k⟩ N hN;cases m with
  |zero=>cases c
  |succ m =>
   rw[kW]at c;cases c;have U:=RM.addN_len a step b j;have hi:step.toNat+j<(RM.addN a step b j).length:=by omega
   have i:step+(j:Int)=((step.toNat+j:Nat):Int):=by lia
   have l:step+(j:Int)-step=((j:Nat):Int):=by lia
   have t:j<(RM.addN a step b j).length:=W0 (K1 _ _) hi;have y:RM.addN a step b (j+1)=RM.addT a step (RM.addN a step b j) (step.toNat+j):=rfl;have e:DZ (step+(j:Int)+1) m=DZ (step+((j+1:Nat):Int)) m:=by congr 1;lia
   refine⟨⟨X2.1<|G1 x,by lia⟩,by show (0:Int)<a;exact X2.1<|G1 B,?_⟩;refine HJ (λh=>?_)<|λh=>?_
   .have h:0<(step+(j:Int)) / step % a:=Qe h;refine⟨.int<|(RM.addN a step b j).getD (step.toNat+j) 0,by rw[i];exact BD hi,.int<|(RM.addN a step b j).getD j 0,by rw[l];exact BD t,step.toNat+j,by rw[g0,i];exact JC hi,?_⟩;refine hN _ ⟨j+1,m,?_,e,by lia⟩;rw[y];unfold RM.addT;rw[De (by rw[<-i];exact h),W2];have C:((RM.addN a step b j).set (step.toNat+j)<|(RM.addN a step b j).getD (step.toNat+j) 0+(RM.addN a step b j).getD j 0).map q0=((RM.addN a step b j).map q0).set (step.toNat+j) (.int<|(RM.addN a step b j).getD (step.toNat+j) 0+(RM.addN a step b j).getD j 0):=by rw[List.map_set]
    rw[C];rfl
   .have h:¬0<(step+(j:Int)) / step % a:=λz=>h<|Je z;refine hN _ ⟨j+1,m,?_,e,by lia⟩;rw[y];unfold RM.addT;rw[Ce<|by rw[<-i];exact h];rfl
 .rintro ρ ⟨j,m,rfl,c,k⟩;cases m with
  |succ m=>rw[kW]at c;cases c
  |zero =>
   have t:j=b.length-step.toNat:=by omega
   subst t;exact q _
variable (P w K mg base) in
structure CalsRO:Prop where
 Wo:Cal P w K mg base 1 "add_along" ["table","side","step"] (iZ K S')
def qx:Con:=λa Q=>∃(sd cl:Qn) (d:Oe),a=[.fz<|.tuple [jZ sd,d]]/\Jb cl d/\Sd sd/\cl.length=(EZ sd).length/\∀o,Q (.ow<|.list<|(aG sd cl).map q0) o
theorem KC(F:Co K "running_of" (top 23) f fd)(T:Txt mg)(C:CalsRO P w K mg base):FnOk P w K mg base VJ 2 f fd ["field"] (iZ K qx):=by
 have S:FnScope ["field","table","step","side"] ["field"] (kZ<|top 23):={};refine GK F S (λye A outer s H E O=>hZ (FZ 1<|WK vV (JK (K:=K) rfl) T.Xn Zh<|lZ<|MZ (wn 0) oZ)<|hZ (FZ 2 OZ)<|hZ (jW [3] (qA rfl T.Zr<|lZ<|MZ (wn 0) oZ) (SZ 3)<|hZ (rK<|jJ C.Wo O.m<|IZ 1<|IZ 3<|tZ 2)<|TZ<|FZ 2<|mY (wn 2)<|wn 3)<|uD 1) ?_;rintro I Qd ⟨sd,cl,d,rfl,hd,j,hc,q⟩;have R:=j.m;have cf:=vK j.p;have U:=AJ j.p;rw[<-vF j.p (by lia)]at q;have L:∀E:DE,(E.nx [Zt<|.tuple [jZ sd,d],Yt<|.list<|(RM.runProg sd.reverse 1 cl).map q0,none,none])->E.nx [Zt<|.tuple [jZ sd,d],Yt<|.list<|(RM.runProg sd.reverse 1 cl).map q0,none,none]:=λ_ h=>h;have key:∀b:Qn,(∀c∈b,1<=c)->(b.map q0)=(b.map q0):=λ_ _=>rfl;refine⟨d,rfl,?_⟩;rcases hd with rfl|rfl;all_goals
  refine⟨jZ sd,rfl,?_⟩;refine nK (λrest ρ=>∃(b e:Qn) (st:Int),ρ=[Zt _,Yt<|.list<|e.map q0,Zt<|.int st,none]/\rest=b.map q0/\RM.runProg b st e=RM.runProg sd.reverse 1 cl/\e.length=cl.length/\1<=st/\st*prodI b<=120/\∀c∈b,1<=c) ?_ ?_
   ⟨sd.reverse,cl,1,rfl,by rw[List.map_reverse],rfl,rfl,by decide,by rw[Z4,<-OV,RM.prodI_rev,OV];exact R,λc h=>j.p c<|KQ.mp h⟩
  .rintro d ds ρ ⟨b,e,st,rfl,y,k,l,t,M,i⟩ N hN;cases b with
   |nil=>cases y
   |cons a b =>
    cases y;have v:=i a L0;have x:∀c∈b,1<=c:=λc h=>i c<|G0 _ h;have B:=PJ x;have G:st*a*prodI b<=120:=by have:st*(a*prodI b)<=120:=M;rw[x5];exact this
    have Y:st*a<=120:=by have:=K4 B<|show (0:Int)<=st*a from zX (Q1<|X2.1<|G1 t)<|Q1<|X2.1<|G1 v;omega
    have ag:st<=120:=by have:=K4 v (show (0:Int)<=st by exact Q1 t);omega
    have uh:a<=120:=by have:=v5 t (show (0:Int)<=a by exact Q1 v);omega
    have Z:1<=st*a:=by
     have:=K4 v (show (0:Int)<=st by lia)
     lia
    refine⟨e,a,st,rfl,by lia,v,by lia,t,by lia,λo=>?_⟩;refine⟨.inl ⟨by omega,by omega⟩,?_⟩;exact hN _ ⟨b,RM.addAlong a st e,st*a,rfl,rfl,k,by rw[RM.addAlong_len];exact l,Z,G,x⟩
  .rintro ρ ⟨b,e,st,rfl,y,k,l,t,M,i⟩;cases b with
   |nil=>have k:e=RM.runProg sd.reverse 1 cl:=k;rw[<-k]at q;exact q _
   |cons _ _=>cases y
noncomputable def Bx:Qn->Qn->Qn->Prop
 |[],[],[]=>True
 |x::lo,y::hi,s::sd=>(0<=x/\x<=y/\y<s)/\Bx lo hi sd
 |_,_,_=>Ln
theorem CD:∀{sd lo hi:Qn}{cs:List (Int×Int)},Bx lo hi sd->nz cs ((lo.zip hi).map λq=>zK q.1 q.2)->Wi (cs.map (·.1)) sd
 |[],[],[],[],_,_=>trivial
 |[],[],[],_::_,_,h=>h.elim
 |_::_,_::_,_::_,[],_,h=>h.elim
 |s::sd,x::lo,y::hi,c::cs,h,k=>by
  refine⟨?_,CD h.2 k.2⟩;have a:=h.1;have b:c∈zK x y:=k.1;unfold zK at b;split at b<;>simp at b
  .subst b;show 0<=y/\y<s;exact⟨E2 a.1 a.2.1,a.2.2⟩
  .rcases b with rfl|rfl
   .show 0<=x-1/\x-1<s;lia
   .show 0<=y/\y<s;exact⟨E2 a.1 a.2.1,a.2.2⟩
 |[],[],_::_,_,h,_=>h.elim
 |[],_::_,z,_,h,_=>by cases z<;>exact h.elim
 |_::_,[],z,_,h,_=>by cases z<;>exact h.elim
 |_::_,_::_,[],_,h,_=>h.elim
noncomputable abbrev ES(p:Qn×Int):Oe:=.tuple [jZ p.1,.int p.2]
theorem ux(a:List Qn)(cl:Qn):OW (a.map jZ) (cl.map q0)=(a.zip cl).map ES:=by unfold OW;rw[XQ,O0];rfl
noncomputable def Vd:Oe->Oe
 | .tuple [.int a,.int b]=>.bool<|decide<|a<=b
 |_=>.none
noncomputable abbrev KY(b:Qn×Qn):Oe:=.tuple [jZ b.1,jZ b.2]
theorem nw:∀{sd lo hi:Qn}{x y s:Int},Bx lo hi sd->0<=x/\x<=y/\y<s->Bx (lo++[x]) (hi++[y]) (sd++[s])
 |[],[],[],_,_,_,_,h=>⟨h,trivial⟩
 |_::_,_::_,_::_,_,_,_,a,h=>⟨a.1,nw a.2 h⟩
 |[],[],_::_,_,_,_,h,_=>h.elim
 |[],_::_,z,_,_,_,h,_=>by cases z<;>exact h.elim
 |_::_,[],z,_,_,_,h,_=>by cases z<;>exact h.elim
 |_::_,_::_,[],_,_,_,h,_=>h.elim
theorem OK:∀{sd lo hi:Qn},Bx lo hi sd->lo.length=sd.length/\hi.length=sd.length
 |[],[],[],_=>⟨rfl,rfl⟩
 |_::_,_::_,_::_,h=>by have:=OK h.2;simp;omega
 |[],[],_::_,h=>h.elim
 |[],_::_,z,h=>by cases z<;>exact h.elim
 |_::_,[],z,h=>by cases z<;>exact h.elim
 |_::_,_::_,[],h=>h.elim
theorem T'{l:Qn}{a b:Int}(h:l.Perm [a,b])(c:l.Pairwise (·<=·)):∃x y,l=[x,y]/\x<=y/\(x=a\/x=b)/\(y=a\/y=b):=by
 match l,h.length_eq with
 |[x,y],_ =>
  refine⟨x,y,rfl,?_,?_,?_⟩
  .exact(v7.mp c).1 y (by simp)
  .have:=h.mem_iff (a:=x);simpa using this.mp (by simp)
  .have:=h.mem_iff (a:=y);simpa using this.mp (by simp)
variable (P w K mg base) in
structure CalsBS:Prop where
 Wp:Cal P w K mg base 1 "_law_places" ["_law_sides_here"] (iZ K MV)
def OR:Con:=λa Q=>∃sd:Qn,a=[.fz<|jZ sd]/\Sd sd/\∀(bs:List (Qn×Qn)) (o:Ev),(∀b∈bs,Bx b.1 b.2 sd)->Q (.ow<|.list<|bs.map KY) o
variable (P w K mg base) in
structure CalsBX:Prop where
 Kp:Cal P w K mg base 2 "_law_take" ["_law_state","_law_most"] (iZ K oF)
def nM:Con:=λa Q=>∃(ns:Qn) (k l:Int) (sd:Qn),a=[.io<|cJ ns k l,.fz<|jZ sd]/\0<=k/\0<=l/\Sd sd /\
 ∀(b:Qn×Qn) (c d:Int) (o:Ev),Bx b.1 b.2 sd->0<=c->0<=d->Q (.fz<|KY b) (some (.io<|cJ ns c d)::o)
theorem PR(F:Co K "_law_box" (top 60) f fd)(T:Txt mg)(C:CalsBX P w K mg base):FnOk P w K mg base VJ 3 f fd ["_law_state","_law_sides_here"] (iZ K nM):=by
 have S:FnScope ["_law_state","_law_sides_here","_law_low","_law_high","_law_side","_law_one","_law_other"] ["_law_state","_law_sides_here"] (kZ<|top 60):={};refine GK F S (λye A outer s H E I=>hZ (FZ 2<|kJ jK)<|hZ (FZ 3<|kJ jK)<|hZ (jW [4,5,6] (fJ rfl<|wv 1) (SZ 4)<|hZ (Gj (BZ QB (Pq rfl) T.Zn Mi<|lZ<|kJ<|LZ (jJ C.Kp I.m<|IZ 0<|tZ 4)<|lZ<|jJ C.Kp I.m<|IZ 0<|tZ 4)<|EA rfl rfl<|uZ (SZ 5)<|uZ (SZ 6) TJ)<|hZ (rK<|HB qK rfl PySem.F.slot_list_append PySem.F.type_list_append WJ (wn 2)<|lZ<|wv 5)<|TZ<|rK<|HB qK rfl PySem.F.slot_list_append PySem.F.type_list_append WJ (wn 3)<|lZ<|wv 6)<|PZ<|aJ<|LZ (YW T.Xo<|tZ 2)<|lZ<|YW T.Xo<|tZ 3) ?_;rintro L Qd ⟨ns,k,l,sd,rfl,c,hl,d,q⟩;have hm:=d.m;have h3:=d.l3;refine nK (λrest ρ=>∃(dn a lo hi:Qn) (k l:Int),sd=dn++a/\ρ=[some<|.io<|cJ ns k l,Zt<|jZ sd,Yt<|.list<|lo.map q0,Yt<|.list<|hi.map q0,none,none,none]/\rest=a.map q0/\Bx lo hi dn/\0<=k/\0<=l) ?_ ?_
  ⟨[],sd,[],[],k,l,rfl,rfl,rfl,trivial,c,hl⟩
 .rintro e ds ρ ⟨dn,a,lo,hi,k,l,b,rfl,i,j,c,hl⟩ N hN;cases a with
  |nil=>cases i
  |cons s a =>
   cases i;have t:=d.p s (by rw[b];simp);have vm:=zJ d.p s (by rw[b];simp);have M:dn.length<=3:=by have:=Te E5 b;simp at this;lia
   have O:=OK j;refine⟨ns,k,l,s,rfl,c,hl,X2.1<|G1 t,by lia,λR U l1 _ v B Y Z=>?_⟩;refine⟨ns,U,l1,s,rfl,Y,Z,V1 v B,by lia,λr2 k2 l2 _ r20 r21 eg af=>?_⟩;refine⟨[R,r2],rfl,by simp,λwg hp hw=>?_⟩;obtain⟨x,y,rfl,G,hx,hy⟩:=T' hp hw;refine⟨rfl,?_⟩;refine⟨by rw[g0];exact W0 (show lo.length<=1000 by lia)<|by decide,?_⟩;refine⟨by rw[g0];exact W0 (show hi.length<=1000 by lia)<|by decide,?_⟩;refine hN _ ⟨dn++[s],a,lo++[x],hi++[y],k2,l2,by rw[b];simp,by rw[U2,U2];rfl,rfl,nw j ⟨?_,G,?_⟩,eg,af⟩
   .rcases hx with rfl|rfl<;>assumption
   .rcases hy with rfl|rfl<;>assumption
 .rintro ρ ⟨dn,a,lo,hi,k,l,b,rfl,i,j,c,hl⟩;cases a with
  |cons _ _=>cases i
  |nil=>rw[Z2]at b;subst b;exact q (lo,hi) k l _ j c hl
noncomputable def RK:Qn->Qn->Qn->Bool
 |x::lo,p::a,y::hi=>(decide (x<=p)&&decide (p<=y))&&RK lo a hi
 |_,_,_=>true
noncomputable def Lb:Oe->Oe
 | .tuple [.int a,.int b,.int c]=>.bool<|decide (a<=b)&&decide (b<=c)
 |_=>.none
noncomputable def vx(lo p hi:Qn):List Bool:=(lo.zip<|p.zip hi).map λq=>decide (q.1<=q.2.1)&&decide (q.2.1<=q.2.2)
theorem uz:∀(lo p hi:Qn),(vx lo p hi).all id=RK lo p hi
 |x::lo,p::a,y::hi=>by have:=uz lo a hi;simp only[vx,RK,A5,Y0,List.all_cons,id]at this ⊢;rw[this]
 |[],_,_=>by simp[vx,RK]
 |_::_,[],_=>by simp[vx,RK]
 |_::_,_::_,[]=>by simp[vx,RK]
theorem wW(a b c:Qn):xH (a.map q0) (b.map q0) (c.map q0)=(a.zip<|b.zip c).map λq=>O1 [.int q.1,.int q.2.1,.int q.2.2]:=by unfold xH;rw[XQ,XQ,O0];rfl
def LC:Con:=λa Q=>∃lo hi p:Qn,a=[.fz<|KY (lo,hi),.fz<|jZ p]/\lo.length<=1000/\∀o,Q (.fz<|.bool<|RK lo p hi) o
theorem oM(F:Co K "_law_lies" (top 61) f fd)(T:Txt mg):FnOk P w K mg base VJ 1 f fd ["_law_box_here","_law_place"] (iZ K LC):=by
 have S:FnScope ["_law_box_here","_law_place","_law_low","_law_high"] ["_law_box_here","_law_place"] (kZ<|top 61):={};refine GK F S (λj A outer s H E k=>hZ (Gj (wv 0)<|LK rfl rfl<|uZ (SZ 2)<|uZ (SZ 3) TJ)<|PZ<|BZ wH (gY (K:=K) rfl rfl) T.Xs Lm<|lZ<|Yj ["_law_first","_law_number_here","_law_last"] [] (eD rfl T.Xr<|IZ 2<|IZ 1<|tZ 3) (λ_ _ _ _=>LK rfl rfl<|uZ (SZ 0)<|uZ (SZ 1)<|uZ (SZ 2) TJ)<|λ_ _ _ _=>Kk iV iV (wn 0) (wn 1)<|wn 2) ?_;rintro i l ⟨lo,hi,p,rfl,hl,q⟩;refine⟨rfl,?_⟩;have e:=wW lo p hi;refine⟨by rw[e,g0,P2];exact rZ<|A0 (T4 _ _) hl,iK Lb ?_ ?_⟩
 .intro x hx R d;rw[e]at hx;obtain⟨⟨a,b,c⟩,_,rfl⟩:=M0.mp hx;refine⟨rfl,?_⟩;have d:R (.bool<|decide (a<=b)&&decide (b<=c)) _:=d;refine HJ (λh=>?_)<|λh=>?_
  .have h:decide (a<=b)=true:=h;rw[h,DQ]at d;exact d
  .have h:¬decide (a<=b)=true:=h;rw[Bool.eq_false_iff.mpr h,W7]at d;exact d
 .rw[e,O0];refine⟨vx lo p hi,by unfold vx;rw[O0];rfl,?_⟩;rw[uz];exact q _
variable (P w K mg base) in
structure CalsSB:Prop where
 Wr:Cal P w K mg base 3 "_law_box" ["_law_state","_law_sides_here"] (iZ K nM)
 Ws:Cal P w K mg base 2 "_law_boxes" ["_law_sides_here"] (iZ K OR)
theorem pW{α:Type}:∀{cs acc:List (List α)}{a q:List α},a∈acc->nz q cs->a++q∈AZ acc cs
 |[],acc,a,[],b,_=>by simpa [AZ]using b
 |[],_,_,_::_,_,h=>h.elim
 |_::_,_,_,[],_,h=>h.elim
 |c::cs,acc,a,x::q,b,h=>by have:=pW (cs:=cs) (acc:=acc.flatMap λp=>c.map λx=>p++[x]) (a:=a++[x]) (q:=q) (u5.mpr ⟨a,b,M0.mpr ⟨x,h.1,rfl⟩⟩) h.2;simpa [AZ]using this
theorem pM{x s:Int}(h0:0<=x)(a:x<s):x∈rng s:=M0.mpr ⟨x.toNat,o7.mpr<|by lia,W6 h0⟩
theorem MC:∀{p sd:Qn},Wi p sd->nz p (sd.map rng)
 |[],[],_=>trivial
 |[],_::_,h=>h.elim
 |_::_,[],h=>h.elim
 |x::p,s::sd,h=>⟨pM h.1.1 h.1.2,MC h.2⟩
theorem cG(h:Wi p sd):p∈EZ sd:=pW (a:=[]) (by simp)<|MC h
theorem qw:RM.leq [] []=true:=rfl
theorem NC(z y e:Int)(cs:List (List<|Int×Int))(o:Qn):(W cs λq=>AK ((y,e)::q)*(if RM.leq (((y,e)::q).map (·.1)) (z::o)=true then 1 else 0))=e*((if z<=y then 1 else 0)*W cs λq=>AK q*(if RM.leq (q.map (·.1)) o=true then 1 else 0)):=by
 by_cases h:z<=y
 .rw[De h,Z4,<-rz];congr 1;funext q;rw[NV,x5];show e*(AK q*(if RM.leq (y::q.map (·.1)) (z::o)=true then 1 else 0))=_;rw[RM.leq_cons,Je h,DQ]
 .rw[Ce h,j9,G8];refine UX ?_<|zD cs;congr 1;funext q;show AK ((y,e)::q)*(if RM.leq (y::q.map (·.1)) (z::o)=true then 1 else 0)=0;rw[RM.leq_cons,Ve h,W7,Ce<|by simp,G8]
theorem ind:∀{sd lo hi o:Qn},Bx lo hi sd->Wi o sd->(W ((lo.zip hi).map λq=>zK q.1 q.2) λcs=>AK cs*(if RM.leq (cs.map (·.1)) o=true then 1 else 0))=if RK lo o hi=true then 1 else 0
 |[],[],[],[],_,_=>by simp[W,AK,RK,qw]
 |s::sd,x::lo,y::hi,z::o,h,k=>by
  have j:=ind h.2 k.2;have h1:=h.1;have l:=k.1;show ((zK x y).map λc=>W ((lo.zip hi).map λq=>zK q.1 q.2) λq=>AK (c::q)*(if RM.leq ((c::q).map (·.1)) (z::o)=true then 1 else 0)).sum=if ((decide (x<=z)&&decide (z<=y))&&RK lo o hi)=true then 1 else 0;have fin:(if ((decide (x<=z)&&decide (z<=y))&&RK lo o hi)=true then (1:Int) else 0)=(if x<=z/\z<=y then 1 else 0)*(if RK lo o hi=true then 1 else 0):=by by_cases a:x<=z<;>by_cases b:z<=y<;>by_cases c:RK lo o hi=true<;>simp[a,b,c]
  rw[fin,<-j];generalize e:(W ((lo.zip hi).map λq=>zK q.1 q.2) λcs=>AK cs*(if RM.leq (cs.map (·.1)) o=true then 1 else 0))=ww;by_cases h0:x=0
  .rw[zK,De h0];simp only[Y0,T5,W3,YQ];have d:=NC z y 1 ((lo.zip hi).map λq=>zK q.1 q.2) o;simp only[Y0]at d;rw[d,e];have:(x<=z/\z<=y)↔z<=y:=by lia
   simp[this]
  .rw[zK,Ce h0];simp only[Y0,T5,W3,YQ];have d:=NC z y 1 ((lo.zip hi).map λq=>zK q.1 q.2) o;have i:=NC z (x-1) (-1) ((lo.zip hi).map λq=>zK q.1 q.2) o;simp only[Y0]at d i;rw[d,i,e];by_cases a:z<=x-1
   .have b:z<=y:=by lia
    have c:¬(x<=z/\z<=y):=by lia
    rw[De a,De b,Ce c];simp only[Z4,j9,Int.neg_mul]
    lia
   .by_cases b:z<=y
    .have c:x<=z/\z<=y:=⟨Int.le_of_sub_one_lt<|J9.1 a,b⟩;simp[a,b,c]
    .have c:¬(x<=z/\z<=y):=by lia
     simp[a,b,c]
 |[],[],[],_::_,_,k=>k.elim
 |_::_,_::_,_::_,[],_,k=>k.elim
 |[],[],_::_,_,h,_=>h.elim
 |[],_::_,z,_,h,_=>by cases z<;>exact h.elim
 |_::_,[],z,_,h,_=>by cases z<;>exact h.elim
 |_::_,_::_,[],_,h,_=>h.elim
noncomputable def OC(a:List (Qn×Int))(lo hi:Qn):Int:=((a.filter λr=>RK lo r.1 hi).map (·.2)).sum
theorem tw(lo hi:Qn):∀a:List (Qn×Int),OC a lo hi=(a.map λr=>if RK lo r.1 hi=true then r.2 else 0).sum
 |[]=>rfl
 |r::a=>by
  have b:=tw lo hi a;unfold OC at b ⊢;rw[Y0,W3,<-b];by_cases h:RK lo r.1 hi=true
  .rw[List.filter_cons_of_pos (p:=λr:Qn×Int=>RK lo r.1 hi) h,De h];simp
  .rw[List.filter_cons_of_neg (p:=λr:Qn×Int=>RK lo r.1 hi) h,Ce h];simp
theorem DD(p:Qn):∀(b:List (Qn×Int)) (t:Int),b.foldl (λa c=>if RM.leq p c.1=true then a+c.2 else a) t=t+(b.map λr=>if RM.leq p r.1=true then r.2 else 0).sum
 |[],t=>by simp
 |r::b,t=>by rw[S4,DD p b,Y0,W3];split<;>lia
theorem swap(b:Bx lo hi sd):∀a:List (Qn×Int),(∀r∈a,Wi r.1 sd) -> (W ((lo.zip hi).map λq=>zK q.1 q.2) λcs=>AK cs*(a.map λr=>if RM.leq (cs.map (·.1)) r.1=true then r.2 else 0).sum)=(a.map λr=>if RK lo r.1 hi=true then r.2 else 0).sum
 |[],_=>by refine UX ?_<|zD<|(lo.zip hi).map λq=>zK q.1 q.2;congr 1;funext cs;simp
 |r::a,h=>by
  have c:=swap b a λx hx=>h x<|G0 _ hx;have e:(λcs:List (Int×Int)=>AK cs*((r::a).map λr=>if RM.leq (cs.map (·.1)) r.1=true then r.2 else 0).sum)=λcs=>r.2*(AK cs*(if RM.leq (cs.map (·.1)) r.1=true then 1 else 0))+AK cs*(a.map λr=>if RM.leq (cs.map (·.1)) r.1=true then r.2 else 0).sum:=by
   funext cs;rw[Y0,W3,bZ];congr 1;split
   .rw[Z8,X6]
   .simp
  rw[e,IN,rz,c,ind b<|h r L0,Y0,W3];congr 1;split
  .rw[Z8]
  .rw[G8]
theorem qM(d:∀c∈sd,1<=c)(f:Qn->Int){c:Qn}(h:Wi c sd):FC ((EZ sd).map f) (CJ sd c)=f c:=by obtain⟨k,a,b⟩:=O6.mp<|cG h;have e:=(nW d (k:=k) (p:=c)<|by rw[J0 a,b]).2;rw[e,FC,lV,Sz,De<|X4 _,De<|by rw[g0];exact E8.2 a];simp[a,b]
theorem PC(d:∀c∈sd,1<=c)(hl:cl.length=(EZ sd).length)(i:Bx lo hi sd):gM sd (aG sd cl) lo hi=OC ((EZ sd).zip cl) lo hi:=by
 have e:aG sd cl=(EZ sd).map λp=>RM.tot p ((EZ sd).zip cl):=by rw[<-tz d (by rw[hl,AJ d]),ox];rfl
 rw[tw,<-swap i ((EZ sd).zip cl) λr j=>mW (x6 (a:=r.1) (b:=r.2) j).1,gM,gx,lU];refine QU _ λcs k=>?_;rw[e,qM d _<|CD i k,RM.tot,DD,i9]
variable (P w K mg base) in
structure CalsSM:Prop where
 Wt:Cal P w K mg base 1 "_law_lies" ["_law_box_here","_law_place"] (iZ K LC)
noncomputable def Mb(sd cl:Qn):Oe->Oe
 | .tuple a=>.int<|gM sd cl (a.map unI)<|a.map unI
 |_=>.none
theorem uw(sd cl p:Qn):Mb sd cl (jZ p)=.int (gM sd cl p p):=by show q0 (gM sd cl ((p.map q0).map unI)<|(p.map q0).map unI)=_;rw[RJ]
noncomputable abbrev ZJ(w:Qn):Oe:=.list<|w.map q0
noncomputable def oG(s a b:Int):List (Int×Int):=if b+1=s then [(a,1)] else [(a,1),(b+1,-1)]
def LN:Con:=λc Q=>∃s a b:Int,c=[.fz<|.int s,.fz<|.int a,.fz<|.int b]/\∀o,Q (.ow<|.list<|(oG s a b).map aV) o
theorem rM(F:Co K "ends" (top 33) f fd):FnOk P w K mg base VJ 1 f fd ["side","first","last"] (iZ K LN):=by
 have S:FnScope ["side","first","last"] ["side","first","last"] (kZ<|top 33):={};refine GK F S (λi A outer s H E d=>hZ (aK (Xj d (wx<|bK (wn 2) oZ)<|wn 0) (PZ<|kJ<|lZ<|aJ<|LZ (wv 1)<|lZ OZ) sJ)<|PZ<|kJ<|LZ (aJ<|LZ (wv 1)<|lZ OZ)<|lZ<|aJ<|LZ (bK (wn 2) oZ)<|lZ<|AH oZ) ?_;rintro c j ⟨s,a,b,rfl,q⟩;refine HJ (λh=>?_)<|λh=>?_
 .have h:b+1=s:=Qe h;have e:oG s a b=[(a,1)]:=De h;rw[e]at q;exact q _
 .have h:¬b+1=s:=λz=>h<|Je z;have e:oG s a b=[(a,1),(b+1,-1)]:=Ce h;rw[e]at q;exact q _
noncomputable def Wd(a p:Qn):Int:=prodI<|a.map λw=>p.getD w.toNat 0
noncomputable def U'(sd st a:Qn):Qn:=(st.zip<|EZ sd).map λx=>x.1*Wd a x.2
theorem V'{st a:Qn}(h:st.length=(EZ sd).length):(U' sd st a).length=(EZ sd).length:=by simp[U',h]
variable (P w K mg base) in
structure CalsST:Prop where
 Vn:Cal P w K mg base 3 "all_places" ["sides"] (iZ K XH)
 Vo:Cal P w K mg base 3 "sum_by_running" ["sides","table","box"] (iZ K LR)
def QC:Con:=λa Q=>∃sd cl:Qn,a=[.fz<|.tuple [jZ sd,jZ cl]]/\Sd sd/\cl.length=(EZ sd).length/\∀o,Q (.ow<|ZJ<|GJ sd cl) o
theorem RC(F:Co K "steps_of" (top 30) f fd)(C:CalsST P w K mg base):FnOk P w K mg base VJ 4 f fd ["field"] (iZ K QC):=by
 have S:FnScope ["field"] ["field"] (kZ<|top 30):={};refine GK F S (λt A outer s H E b=>PZ<|SK ["place"] [0] (fJ rfl<|KZ C.Vn b.m<|lZ<|MZ (wn 0) oZ)<|λ_ _ _ _=>KZ C.Vo b.m<|LZ (MZ (wn 1) oZ)<|LZ (MZ (wn 1) oZ)<|lZ<|aJ<|LZ (wv 0)<|lZ<|wv 0) ?_;rintro c v ⟨sd,cl,rfl,a,x,q⟩;have y:=vK a.p;have B:=a.m;refine⟨jZ sd,rfl,sd,rfl,a,λo=>⟨by rw[g0];exact rZ<|by lia,iK (Mb sd cl) ?_ ?_⟩⟩
 .intro d hd N hN;obtain⟨p,j,rfl⟩:=M0.mp hd;have hw:=mW j;rw[uw]at hN;refine⟨jZ sd,rfl,jZ cl,rfl,sd,cl,p,p,jZ cl,rfl,.inl rfl,rfl,by rw[EY hw];exact a.l3,by have:=a.l3;exact A0 this<|K1 _ _,λs e=>?_,λcs k=>?_,λo=>hN⟩
  .have i:=a.p s e;have G:=zJ a.p s e
   lia
  .have i:=oW<|yD hw<|nJ k;exact kw i.1 (by lia)
 .have l:((EZ sd).map jZ).map (Mb sd cl)=(GJ sd cl).map q0:=by
   rw[<-kx a.p,O0,O0];exact U1 λp _=>uw sd cl p
  rw[l];exact q _
noncomputable def up(a:List (Qn×Int))(p:Qn):Int:=(a.map λr=>if RM.leq p r.1=true then r.2 else 0).sum
theorem MN(a:∀c∈sd,1<=c)(hl:cl.length=(EZ sd).length):aG sd cl=(EZ sd).map λp=>up ((EZ sd).zip cl) p:=by rw[<-tz a (by rw[hl,AJ a]),ox];refine U1 λp _=>?_;rw[RM.tot,DD,i9];rfl
theorem QR(a:∀c∈sd,1<=c):(aG sd cl).length=(EZ sd).length:=by simp[aG,AJ a]
theorem tU(f:α->β):∀l:List α,l.zip (l.map f)=l.map λx=>(x,f x)
 |[]=>rfl
 |x::l=>by simp[tU f l]
noncomputable def cnt:Qn->Qn->Int
 |a::p,b::q=>(a+1-b)*cnt p q
 |_,_=>1
theorem SR(a:Int)(l:Qn):prodI (a::l)=a*prodI l:=rfl
theorem FS:prodI []=1:=rfl
theorem SC(p:Qn)(v:Int):∀(a:List Qn) (b:Qn) (k:Nat),k<b.length->k<a.length->up (a.zip<|b.set k<|b.getD k 0+v) p=up (a.zip b) p+(if RM.leq p (a.getD k [])=true then v else 0)
 |[],_,_,_,h=>by simp at h
 |_::_,[],_,h,_=>by simp at h
 |q::a,x::b,0,_,_=>by simp only[List.set_cons_zero,A5,up,Y0,W3,List.getD_cons_zero];split<;>lia
 |q::a,x::b,k+1,d,e=>by
  have c:=SC p v a b k (by simpa using d) (by simpa using e);simp only[up]at c;simp only[List.set_cons_succ,A5,up,Y0,W3,List.getD_cons_succ];rw[c]
  lia
noncomputable def sK(sd:Qn)(n:Int)(b:Qn)(cs:List (Int×Int)):Qn:=b.set (CJ sd (cs.map (·.1))).toNat (b.getD (CJ sd (cs.map (·.1))).toNat 0+AK cs*n)
theorem vz(sd:Qn)(n:Int)(b:Qn)(cs:List (Int×Int)):(sK sd n b cs).length=b.length:=by simp[sK]
theorem dG{q:Qn}(d:∀c∈sd,1<=c)(h:Wi q sd):(CJ sd q).toNat<(EZ sd).length/\(EZ sd).getD (CJ sd q).toNat []=q:=by obtain⟨k,a,b⟩:=O6.mp<|cG h;have i:=(nW d (k:=k) (p:=q)<|by rw[J0 a,b]).2;have e:(CJ sd q).toNat=k:=y_ i;rw[e];exact⟨a,by rw[X0,J0 a,q5,b]⟩
theorem sM{b:Qn}{n:Int}(d:∀c∈sd,1<=c)(e:b.length=(EZ sd).length)(h:Wi (cs.map (·.1)) sd):up ((EZ sd).zip<|sK sd n b cs) p=up ((EZ sd).zip b) p+n*(AK cs*(if RM.leq p (cs.map (·.1))=true then 1 else 0)):=by
 obtain⟨a,i⟩:=dG d h;rw[sK,SC p _ _ _ _ (B0 a<|P0 e.symm) a,i];split
 .rw[Z8,X6]
 .rw[G8,G8]
theorem vw{n:Int}(d:∀c∈sd,1<=c):∀(a:List (List<|Int×Int)) {b:Qn},b.length=(EZ sd).length->(∀cs∈a,Wi (cs.map (·.1)) sd) -> up ((EZ sd).zip<|a.foldl (sK sd n) b) p=up ((EZ sd).zip b) p+n*(a.map λcs=>AK cs*(if RM.leq p (cs.map (·.1))=true then 1 else 0)).sum
 |[],b,_,_=>by simp
 |cs::a,b,e,h=>by rw[S4,vw d a (by rw[vz,e]) λx hx=>h x<|G0 _ hx,sM d e<|h cs L0,Y0,W3,bZ];exact CQ _ _ _
noncomputable def nY:Qn->Qn->Qn->List (List<|Int×Int)
 |s::sd,x::lo,y::hi=>oG s x y::nY sd lo hi
 |_,_,_=>[]
theorem eG:∀{sd lo hi:Qn}{cs:List (Int×Int)},Bx lo hi sd->nz cs (nY sd lo hi)->Wi (cs.map (·.1)) sd
 |[],[],[],[],_,_=>trivial
 |[],[],[],_::_,_,h=>h.elim
 |_::_,_::_,_::_,[],_,h=>h.elim
 |s::sd,x::lo,y::hi,c::cs,h,k=>by
  refine⟨?_,eG h.2 k.2⟩;have a:=h.1;have b:c∈oG s x y:=k.1;unfold oG at b;split at b<;>simp at b
  .subst b;show 0<=x/\x<s;exact⟨a.1,V1 a.2.1 a.2.2⟩
  .rcases b with rfl|rfl
   .show 0<=x/\x<s;exact⟨a.1,V1 a.2.1 a.2.2⟩
   .show 0<=y+1/\y+1<s;lia
 |[],[],_::_,_,h,_=>h.elim
 |[],_::_,z,_,h,_=>by cases z<;>exact h.elim
 |_::_,[],z,_,h,_=>by cases z<;>exact h.elim
 |_::_,_::_,[],_,h,_=>h.elim
theorem xx(z y e:Int)(cs:List (List<|Int×Int))(o:Qn):(W cs λq=>AK ((y,e)::q)*(if RM.leq (z::o) (((y,e)::q).map (·.1))=true then 1 else 0))=e*((if y<=z then 1 else 0)*W cs λq=>AK q*(if RM.leq o (q.map (·.1))=true then 1 else 0)):=by
 by_cases h:y<=z
 .rw[De h,Z4,<-rz];congr 1;funext q;rw[NV,x5];show e*(AK q*(if RM.leq (z::o) (y::q.map (·.1))=true then 1 else 0))=_;rw[RM.leq_cons,Je h,DQ]
 .rw[Ce h,j9,G8];refine UX ?_<|zD cs;congr 1;funext q;show AK ((y,e)::q)*(if RM.leq (z::o) (y::q.map (·.1))=true then 1 else 0)=0;rw[RM.leq_cons,Ve h,W7,Ce<|by simp,G8]
theorem W':∀{sd lo hi o:Qn},Bx lo hi sd->Wi o sd->(W (nY sd lo hi) λcs=>AK cs*(if RM.leq o (cs.map (·.1))=true then 1 else 0))=if RK lo o hi=true then 1 else 0
 |[],[],[],[],_,_=>by simp[nY,W,AK,RK,qw]
 |s::sd,x::lo,y::hi,z::o,h,k=>by
  have j:=W' h.2 k.2;have l:=h.1;have m:=k.1;show ((oG s x y).map λc=>W (nY sd lo hi) λq=>AK (c::q)*(if RM.leq (z::o) ((c::q).map (·.1))=true then 1 else 0)).sum=if ((decide (x<=z)&&decide (z<=y))&&RK lo o hi)=true then 1 else 0;have fin:(if ((decide (x<=z)&&decide (z<=y))&&RK lo o hi)=true then (1:Int) else 0)=(if x<=z/\z<=y then 1 else 0)*(if RK lo o hi=true then 1 else 0):=by by_cases a:x<=z<;>by_cases b:z<=y<;>by_cases c:RK lo o hi=true<;>simp[a,b,c]
  rw[fin,<-j];generalize e:(W (nY sd lo hi) λcs=>AK cs*(if RM.leq o (cs.map (·.1))=true then 1 else 0))=ww;by_cases h0:y+1=s
  .rw[oG,De h0];simp only[Y0,T5,W3,YQ];have d:=xx z x 1 (nY sd lo hi) o;simp only[Y0]at d;rw[d,e];have:(x<=z/\z<=y)↔x<=z:=by lia
   simp[this]
  .rw[oG,Ce h0];simp only[Y0,T5,W3,YQ];have d:=xx z x 1 (nY sd lo hi) o;have i:=xx z (y+1) (-1) (nY sd lo hi) o;simp only[Y0]at d i;rw[d,i,e];by_cases a:y+1<=z
   .have b:x<=z:=Q1<|V1 l.2.1 a;have c:¬(x<=z/\z<=y):=by lia
    rw[De a,De b,Ce c];simp only[Z4,j9,Int.neg_mul]
    lia
   .by_cases b:x<=z
    .have c:x<=z/\z<=y:=⟨b,u8<|J9.1 a⟩;simp[a,b,c]
    .have c:¬(x<=z/\z<=y):=by lia
     simp[a,b,c]
 |[],[],[],_::_,_,k=>k.elim
 |_::_,_::_,_::_,[],_,k=>k.elim
 |[],[],_::_,_,h,_=>h.elim
 |[],_::_,z,_,h,_=>by cases z<;>exact h.elim
 |_::_,[],z,_,h,_=>by cases z<;>exact h.elim
 |_::_,_::_,[],_,h,_=>h.elim
noncomputable def KJ(sd st lo hi:Qn)(n:Int):Qn:=(AZ [[]]<|nY sd lo hi).foldl (sK sd n) st
theorem lK(sd:Qn)(n:Int):∀(a:List (List<|Int×Int)) (b:Qn),(a.foldl (sK sd n) b).length=b.length
 |[],_=>rfl
 |cs::a,b=>by rw[S4,lK sd n a,vz]
theorem tM{st:Qn}{n:Int}(a:∀c∈sd,1<=c)(b:st.length=(EZ sd).length)(e:Bx lo hi sd):aG sd (KJ sd st lo hi n)=((EZ sd).zip<|aG sd st).map λx=>x.2+n*(if RK lo x.1 hi=true then 1 else 0):=by
 rw[MN a (by rw[KJ,lK,b]),MN a b,tU,O0];refine U1 λp d=>?_;show up ((EZ sd).zip<|KJ sd st lo hi n) p=up ((EZ sd).zip st) p+n*(if RK lo p hi=true then 1 else 0);rw[KJ,vw a _ b λcs i=>eG e<|nJ i,lU,W' e<|mW d]
def Bd(b:Int)(l:Qn):Prop:=∀c∈l,-b<=c/\c<=b
theorem Bd.getD{b:Int}{l:Qn}(h:Bd b l)(h0:0<=b)(i:Nat):-b<=l.getD i 0/\l.getD i 0<=b:=by
 by_cases z:i<l.length
 .rw[X0,J0 z,q5];exact h _<|X5 z
 .rw[X0,L4.mpr<|A1 z];show -b<=0/\0<=b
  lia
theorem yx{b:Int}(h0:0<=b):∀(sd:Qn) {f:Nat->Int} (k:Nat),(∀i,-b<=f i/\f i<=b)->-(2 ^ sd.length*b)<=RM.dif sd f k/\RM.dif sd f k<=2 ^ sd.length*b
 |[],f,k,h=>by simpa [RM.dif]using h k
 |a::r,f,k,h=>by
  have d:=yx h0 r (f:=λc=>f<|k / RM.prodN r*RM.prodN r+c) (k % RM.prodN r) λi=>h _;have j:=yx h0 r (f:=λc=>f<|(k / RM.prodN r-1)*RM.prodN r+c) (k % RM.prodN r) λi=>h _;have e:(2:Int) ^ (a::r).length*b=2 ^ r.length*b+2 ^ r.length*b:=by rw[L1,XX,X6 (2 ^ r.length) 2,x5];exact qX _
  have l:0<=(2:Int) ^ r.length*b:=zX (Int.pow_nonneg<|by decide) h0;rw[e];show -(2 ^ r.length*b+2 ^ r.length*b)<=RM.dif r (λc=>f<|k / RM.prodN r*RM.prodN r+c) (k % RM.prodN r)-(if k / RM.prodN r=0 then 0 else RM.dif r (λc=>f<|(k / RM.prodN r-1)*RM.prodN r+c) (k % RM.prodN r))/\_;constructor
  .split<;>omega
  .show RM.dif r (λc=>f<|k / RM.prodN r*RM.prodN r+c) (k % RM.prodN r)-(if k / RM.prodN r=0 then 0 else RM.dif r (λc=>f<|(k / RM.prodN r-1)*RM.prodN r+c) (k % RM.prodN r))<=_;split<;>omega
theorem X'{b:Int}(h0:0<=b)(d:sd.length<=3)(h:Bd b cl):Bd (8*b) (GJ sd cl):=λc a=>by
 obtain⟨k,_,rfl⟩:=M0.mp a;have j:=yx h0 sd (f:=λi=>cl.getD i 0) k λi=>h.getD h0 i;have l:(2:Int) ^ sd.length*b<=8*b:=by
  refine v5 ?_ h0;have:sd.length=0\/sd.length=1\/sd.length=2\/sd.length=3:=by lia
  rcases this with e|e|e|e<;>rw[e]<;>decide
 lia
theorem TC{α:Type}{b:Int}{f:α->Int}:∀{l:List α},(∀x∈l,-b<=f x/\f x<=b)->-(l.length*b)<=(l.map f).sum/\(l.map f).sum<=l.length*b
 |[],_=>by simp
 |x::l,h=>by
  have a:=h x L0;have c:=TC (l:=l) λy hy=>h y<|G0 _ hy;have e:((x::l).length:Int)*b=l.length*b+b:=by rw[L1,Int.natCast_succ,cZ,Z4]
  rw[e,Y0,W3]
  lia
noncomputable def Hc:Oe->Oe
 | .tuple [.int s,.int a,.int b]=>.list<|(oG s a b).map aV
 |_=>.none
theorem zw:∀(sd lo hi:Qn),(sd.zip<|lo.zip hi).map (λq=>oG q.1 q.2.1 q.2.2)=nY sd lo hi
 |[],_,_=>by cases ‹Qn›<;>simp[nY]
 |_::_,[],_=>by simp[nY]
 |_::_,_::_,[]=>by simp[nY]
 |s::sd,x::lo,y::hi=>by simp[nY,zw sd lo hi]
theorem TR(s a b:Int):oG s a b≠[]:=by unfold oG;split<;>simp
theorem Aw(s a b:Int):(oG s a b).length<=2:=by unfold oG;split<;>simp
theorem uM(s a b:Int):∀p∈oG s a b,-1<=p.2/\p.2<=1:=by unfold oG;split<;>simp
theorem PV{Pr:List (Int×Int)->Prop}(h:∀s a b,Pr<|oG s a b):∀{sd lo hi:Qn},∀c∈nY sd lo hi,Pr c
 |[],_,_,c,d=>by simp[nY]at d
 |_::_,[],_,c,d=>by simp[nY]at d
 |_::_,_::_,[],c,d=>by simp[nY]at d
 |s::sd,x::lo,y::hi,c,d=>by
  rcases E1.mp d with e|e
  .subst e;exact h s x y
  .exact PV h c e
theorem RU:∀{sd lo hi:Qn},(nY sd lo hi).length<=sd.length
 |[],_,_=>by simp[nY]
 |_::_,[],_=>by simp[nY]
 |_::_,_::_,[]=>by simp[nY]
 |s::sd,x::lo,y::hi=>by have:=RU (sd:=sd) (lo:=lo) (hi:=hi);simp[nY];omega
noncomputable abbrev dY(sd lo hi:Qn):List (List<|Int×Int):=AZ [[]]<|nY sd lo hi
theorem UC:∀cs∈dY sd lo hi,∀p∈cs,-1<=p.2/\p.2<=1:=PU (P:=λp:Int×Int=>-1<=p.2/\p.2<=1) (λc e x hx=>PV (Pr:=λc=>∀p∈c,-1<=p.2/\p.2<=1) (λs a b=>uM s a b) c e x hx) (λp d x hx=>by simp at d;subst d;simp at hx)
theorem xW(b:sd.length<=3):(dY sd lo hi).length<=8:=by have a:=dJ (nY sd lo hi) [[]];simp only[i4,r8]at a;rw[a];have d:=lW (cs:=nY sd lo hi)<|PV (Pr:=λc=>c.length<=2) Aw;have e:=RU (sd:=sd) (lo:=lo) (hi:=hi);exact A0 d (A0 (A8 (by decide)<|show _<=3 by exact A0 e b)<|by decide)
variable (P w K mg base) in
structure CalsLF:Prop where
 Vp:Cal P w K mg base 1 "ends" ["side","first","last"] (iZ K LN)
 Ks:Cal P w K mg base 1 "one_of_each" ["choices"] (iZ K pF)
 Yr:Cal P w K mg base 1 "signed_place" ["chosen"] (iZ K xD)
 Ys:Cal P w K mg base 1 "index_of" ["sides","place"] (iZ K wD)
mutual
noncomputable def Uz:Oe->Bool
 | .dict b=>AY b
 | .list a=>okAll a
 | .tuple a=>okAll a
 | .none=>true
 | .bool _=>true
 | .int _=>true
 | .str _=>true
noncomputable def okAll:List Oe->Bool
 |[]=>true
 |x::a=>Uz x&&okAll a
end
theorem wF:∀{a:List Oe},okAll a=true->∀d∈a,Uz d=true
 |[],_,d,h=>by simp at h
 |x::a,h,d,hd=>by
  simp[okAll]at h;rcases E1.mp hd with rfl|hd
  .exact h.1
  .exact wF h.2 d hd
theorem wz:∀{a:List Oe},(∀d∈a,Uz d=true)->okAll a=true
 |[],_=>rfl
 |x::a,h=>by simp[okAll];exact⟨h x L0,wz λd hd=>h d<|G0 _ hd⟩
noncomputable def Py:Oe->Bool
 | .int _=>true
 |_=>false
noncomputable def VC(s:Int):Oe->Bool
 | .int i=>decide (0<=i)&&decide (i<s)
 |_=>false
noncomputable def zx:List Oe->Qn->Bool
 |d::ds,s::sd=>VC s d&&zx ds sd
 |_,_=>true
noncomputable def CW(sd:Qn):Oe->Bool
 | .tuple a=>decide (a.length=sd.length)&&zx a sd
 |_=>false
theorem ints_of:∀{ds:List Oe},ds.all Py=true->∃ns:Qn,ds=ns.map q0
 |[],_=>⟨[],rfl⟩
 |d::ds,h=>by simp at h;obtain⟨ns,e⟩:=ints_of (ds:=ds) (by simpa using h.2);cases d<;>simp[Py]at h;rename_i i;exact⟨i::ns,by rw[e];rfl⟩
theorem fG:∀{ds:List Oe}{sd:Qn},ds.length=sd.length->zx ds sd=true->ds.all Py=true
 |[],_,_,_=>rfl
 |d::ds,[],h,_=>by simp at h
 |d::ds,s::sd,h,k=>by simp[zx]at k;have:=fG (ds:=ds) (sd:=sd) (by simpa using h) k.2;cases d<;>simp[VC]at k;rename_i i;show (Py (.int i)&&ds.all Py)=true;rw[this];rfl
noncomputable def AG(p:Int×Int):Bool:=decide (0<=p.1)&&decide (p.1<p.2)
theorem Bw:∀(ns sd:Qn),zx (ns.map q0) sd=((ns.zip sd).map AG).all id
 |[],_=>by simp[zx]
 |n::ns,[]=>by simp[zx]
 |n::ns,s::sd=>by simp[zx,VC,AG,Bw ns sd]
noncomputable def UR(ns a:Qn):Bool:=((ns.zip a).map λp=>decide<|p.1<=p.2).all id
noncomputable def Xd:Oe->Oe->Bool
 | .tuple a,.tuple ys=>UR (a.map unI)<|ys.map unI
 |_,_=>false
noncomputable def BG(sd:Qn):Oe->Bool
 | .tuple [a,b]=>CW sd a&&CW sd b&&Xd a b
 |_=>false
theorem xF{d:Oe}(h:CW sd d=true):∃ns:Qn,d=jZ ns/\ns.length=sd.length:=by cases d<;>simp[CW]at h;rename_i a;obtain⟨ns,e⟩:=ints_of<|fG h.1 h.2;subst e;exact⟨ns,rfl,by simpa using h.1⟩
theorem WC{d:List Oe}(h:d.length≠2):BG sd (.tuple d)=false:=by rcases d with _|⟨a,_|⟨b,_|⟨c,d⟩⟩⟩<;>first|rfl|simp at h
def vM:Con:=λa Q=>∃d,a=[.fz d]/\Uz d=true/\∀o,Q (.fz<|.bool<|Py d) o
theorem VR(F:Co K "is_whole" (top 4) f fd)(T:Txt mg):FnOk P w K mg base VJ 1 f fd ["thing"] (iZ K vM):=by
 have S:FnScope ["thing"] ["thing"] (kZ<|top 4):={};refine GK F S (λe A outer s H E j=>PZ<|FB (iD .int rfl T.Qr T.Qs boot_int<|wn 0)<|EB<|w_not<|iD .bl rfl T.Qr T.Qt boot_bool<|wn 0) ?_;rintro a k ⟨d,rfl,hd,q⟩;cases d with
 |dict l=>exact⟨hd,q _⟩
 |int i=>exact q _
 |bool b=>exact q _
 |none=>exact q _
 |str x=>exact q _
 |list c=>exact q _
 |tuple c=>exact q _
variable (P w K mg base) in
structure CalsCq:Prop where
 Vr:Cal P w K mg base 1 "is_whole" ["thing"] (iZ K vM)
noncomputable def ED(n:Nat):Oe->Bool
 | .tuple ds=>decide (ds.length=n)&&ds.all Py
 |_=>false
def XC:Con:=λa Q=>∃(d:Oe) (n:Nat),a=[.fz d,.fz<|.int n]/\Uz d=true/\n<=1000/\∀o,Q (.fz<|.bool<|ED n d) o
theorem wM(F:Co K "are_wholes" (top 5) f fd)(T:Txt mg)(C:CalsCq P w K mg base):FnOk P w K mg base VJ 2 f fd ["thing","many"] (iZ K XC):=by
 have S:FnScope ["thing","many"] ["thing","many"] (kZ<|top 5):={};refine GK F S (λt A outer s H E c=>hZ (aK (ME<|CH (IW<|GY<|iD .tup rfl T.Qr T.Xo Ei<|wn 0)<|qU<|tD c (wx<|BW T.Qo<|tZ 0)<|wn 1) (PZ zH) sJ)<|PZ<|BZ wH (gY (K:=K) rfl rfl) T.Xs Lm<|lZ<|SK ["number"] [] (fJ rfl<|wv 0)<|λ_ _ _ _=>KZ C.Vr c.m<|tZ 0) ?_;rintro j v ⟨d,n,rfl,hd,k,q⟩;cases d with
 |dict y=>exact⟨hd,q _⟩
 |int i=>exact q _
 |bool b=>exact q _
 |none=>exact q _
 |str x=>exact q _
 |list a=>exact q _
 |tuple a =>
  refine HJ (λh=>?_)<|λh=>?_
  .have h:¬(a.length:Int)=n:=by simpa using h
   have e:ED n (.tuple a)=false:=by simp[ED];intro z;exact False.elim<|h<|T9.2 z
   rw[e]at q;exact q _
  .have h:(a.length:Int)=n:=by simpa using h
   have hl:a.length=n:=T9.1 h;refine⟨rZ<|le_of_eq_of_le hl k,iK (λd=>.bool<|Py d) ?_ ?_⟩
   .intro d l N hN;exact⟨d,rfl,wF (by simpa [Uz]using hd) d l,λo=>hN⟩
   .refine⟨a.map Py,by rw[O0];rfl,?_⟩;have e:ED n (.tuple a)=(a.map Py).all id:=by simp[ED,hl]
    rw[<-e];exact q _
variable (P w K mg base) in
structure CalsDq:Prop where
 Vs:Cal P w K mg base 2 "are_wholes" ["thing","many"] (iZ K XC)
def xz:Con:=λa Q=>∃(sd:Qn) (d:Oe),a=[.fz<|jZ sd,.fz d]/\Uz d=true/\sd.length<=1000/\∀o,Q (.fz<|.bool<|CW sd d) o
noncomputable def Nb:Oe->Oe
 | .tuple [.int a,.int b]=>.bool<|AG (a,b)
 |_=>.none
theorem Ax(F:Co K "is_place" (top 16) f fd)(T:Txt mg)(C:CalsDq P w K mg base):FnOk P w K mg base VJ 3 f fd ["sides","thing"] (iZ K xz):=by
 have S:FnScope ["sides","thing"] ["sides","thing"] (kZ<|top 16):={};refine GK F S (λx A outer s H E v=>hZ (aK (IW<|GY<|KZ C.Vs v.m<|IZ 1<|lZ<|BW T.Qo<|tZ 0) (PZ zH) sJ)<|PZ<|BZ wH (gY (K:=K) rfl rfl) T.Xs Lm<|lZ<|Yj ["number","side"] [] (ZY rfl T.Xr<|IZ 1<|tZ 0) (λ_ _ _ _=>LK rfl rfl<|uZ (SZ 0)<|uZ (SZ 1) TJ)<|λ_ _ _ _=>Kk iV fV oZ (wn 0)<|wn 1) ?_;rintro k y ⟨sd,d,rfl,hd,l,q⟩;refine⟨d,sd.length,by rw[g0];rfl,hd,l,λo=>?_⟩;cases i:ED sd.length d with
 |false =>
  have e:CW sd d=false:=by
   cases d<;>first|rfl|skip
   rename_i ds;simp[ED]at i;by_cases h:ds.length=sd.length
   .cases c:zx ds sd with
    |false=>simp[CW,c]
    |true=>have:=fG h c;exact absurd this (by simpa using i h)
   .simp[CW,h]
  rw[e]at q;exact q _
 |true =>
  cases d<;>simp[ED]at i;rename_i ds;obtain⟨hl,hi⟩:=i;obtain⟨ns,rfl⟩:=ints_of (ds:=ds) (by simpa using hi);have c:OW (ns.map q0) (sd.map q0)=(ns.zip sd).map λp=>O1 [.int p.1,.int p.2]:=QJ ns sd;have j:ns.length=sd.length:=by simpa using hl
  refine⟨by rw[c,g0,P2];exact rZ<|A0 (h7 _ _) l,iK Nb ?_ ?_⟩
  .intro d t N hN;rw[c]at t;obtain⟨⟨a,b⟩,_,rfl⟩:=M0.mp t;have hN:N (.bool<|AG (a,b)) _:=hN;refine⟨rfl,?_⟩;refine HJ (λh=>?_)<|λh=>?_
   .have e:AG (a,b)=decide (a<b):=by
     have h:decide (0<=a)=true:=h;simp[AG,Qe h]
    rw[e]at hN;exact hN
   .have e:AG (a,b)=false:=by
     have h:¬decide (0<=a)=true:=h;simp[AG];intro z;exact absurd (Je z) h
    rw[e]at hN;exact hN
  .rw[c,O0];refine⟨(ns.zip sd).map AG,by rw[O0];rfl,?_⟩;have e:CW sd (.tuple<|ns.map q0)=((ns.zip sd).map AG).all id:=by
    rw[<-Bw];simp[CW,j]
   rw[<-e];exact q _
variable (P w K mg base) in
structure CalsEq:Prop where
 Vt:Cal P w K mg base 3 "is_place" ["sides","thing"] (iZ K xz)
def YC:Con:=λa Q=>∃(sd:Qn) (d:Oe),a=[.fz<|jZ sd,.fz d]/\Uz d=true/\sd.length<=1000/\∀o,Q (.fz<|.bool<|BG sd d) o
noncomputable def Yd:Oe->Oe
 | .tuple [.int a,.int b]=>.bool<|decide<|a<=b
 |_=>.none
theorem ZC(F:Co K "is_box" (top 17) f fd)(T:Txt mg)(C:CalsEq P w K mg base):FnOk P w K mg base VJ 4 f fd ["sides","thing"] (iZ K YC):=by
 have S:FnScope ["sides","thing"] ["sides","thing"] (kZ<|top 17):={};refine GK F S (λR A outer s H E l=>hZ (aK (ME<|CH (IW<|GY<|iD .tup rfl T.Qr T.Xo Ei<|wn 1)<|qU<|tD l (wx<|BW T.Qo<|tZ 1) oZ) (PZ zH) sJ)<|hZ (aK (ME<|CH (IW<|GY<|KZ C.Vt l.m<|IZ 0<|lZ<|MZ (wn 1) oZ)<|qU<|IW<|GY<|KZ C.Vt l.m<|IZ 0<|lZ<|MZ (wn 1) oZ) (PZ zH) sJ)<|PZ<|BZ wH (gY (K:=K) rfl rfl) T.Xs Lm<|lZ<|Yj ["first","last"] [] (ZY rfl T.Xr<|LZ (MZ (wn 1) oZ)<|lZ<|MZ (wn 1) oZ) (λ_ _ _ _=>LK rfl rfl<|uZ (SZ 0)<|uZ (SZ 1) TJ)<|λ_ _ _ _=>Jk XG iV (wn 0)<|wn 1) ?_;rintro G U ⟨sd,d,rfl,hd,t,q⟩;cases d with
 |dict Y=>exact⟨hd,q _⟩
 |int i=>exact q _
 |bool b=>exact q _
 |none=>exact q _
 |str x=>exact q _
 |list j=>exact q _
 |tuple j =>
  refine HJ (λh=>?_)<|λh=>?_
  .have h:¬(j.length:Int)=2:=by simpa using h
   rw[WC<|by lia]at q;exact q _
  .have h:(j.length:Int)=2:=by simpa using h
   obtain⟨a,b,rfl⟩:∃a b,j=[a,b]:=by
    rcases j with _|⟨a,_|⟨b,_|⟨c,j⟩⟩⟩
    .simp at h
    .simp at h
    .exact⟨a,b,rfl⟩
    .simp at h;lia
   have I:Uz a=true/\Uz b=true:=by simpa [Uz,okAll]using hd
   refine⟨a,rfl,sd,a,rfl,I.1,t,λo=>?_⟩;cases v:CW sd a with
   |false =>
    have e:BG sd (.tuple [a,b])=false:=by simp[BG,v]
    rw[e]at q;exact q _
   |true =>
    refine⟨b,rfl,sd,b,rfl,I.2,t,λo=>?_⟩;cases y:CW sd b with
    |false =>
     have e:BG sd (.tuple [a,b])=false:=by simp[BG,y]
     rw[e]at q;exact q _
    |true =>
     obtain⟨ns,rfl,M⟩:=xF v;obtain⟨k,rfl,O⟩:=xF y;have B:=QJ ns k;refine⟨jZ ns,rfl,jZ k,rfl,by rw[B,g0,P2];exact rZ<|A0 (T4 _ _)<|le_of_eq_of_le M t,iK Yd ?_ ?_⟩
     .intro d L N hN;rw[B]at L;obtain⟨⟨a,b⟩,_,rfl⟩:=M0.mp L;exact⟨rfl,hN⟩
     .rw[B,O0];refine⟨(ns.zip k).map λp=>decide<|p.1<=p.2,by rw[O0];rfl,?_⟩;have e:BG sd (.tuple [jZ ns,jZ k])=((ns.zip k).map λp=>decide<|p.1<=p.2).all id:=by
       simp only[BG,v,y,DQ];show UR ((ns.map q0).map unI) ((k.map q0).map unI)=_;rw[RJ,RJ];rfl
      rw[<-e];exact q _
theorem WR:∀l:List Oe,((l.map λ_=>true).all id)=true
 |[]=>rfl
 |_::l=>by simp
theorem XR(l:List Oe):(l.map λ_=>W5 true)=(l.map λ_=>true).map W5:=by rw[O0];rfl
def NN:Con:=λa Q=>∃sd:Qn,a=[.fz<|jZ sd]/\(∀c∈sd,0<=c/\c<2 ^ 60)/\∀o,Q (.fz<|.int<|prodI sd) o
theorem xM(F:Co K "product" (top 6) f fd):FnOk P w K mg base VJ 1 f fd ["numbers"] (iZ K NN):=by
 have S:FnScope ["numbers","result","number"] ["numbers"] (kZ<|top 6):={};refine GK F S (λv A outer s H E x=>hZ (FZ 1 OZ)<|hZ (jW [2] (fJ rfl<|wv 0) (SZ 2)<|TZ<|FZ 1<|mY (wn 1)<|wn 2)<|uD 1) ?_;rintro k y ⟨sd,rfl,l,q⟩;refine nK (λrest ρ=>∃(t:Int) (b:Qn),ρ=[Zt<|jZ sd,Zt<|.int t,none]/\rest=b.map q0/\(∀c∈b,c∈sd)/\t*prodI b=prodI sd) ?_ ?_
  ⟨1,sd,rfl,rfl,λ_ h=>h,by rw[Z4]⟩
 .rintro d B ρ ⟨t,b,rfl,i,j,e⟩ N hN;cases b with
  |nil=>cases i
  |cons a b=>cases i;have C:=l a<|j a L0;exact⟨.inr ⟨by lia,by lia⟩,hN _ ⟨t*a,b,rfl,rfl,λc m=>j c<|G0 _ m,by rw[x5];exact e⟩⟩
 .rintro ρ ⟨t,b,rfl,i,j,e⟩;cases b with
  |nil =>
   have e:t=prodI sd:=by rw[<-e];show t=t*1;lia
   subst e;exact q _
  |cons _ _=>cases i
def Ic:Con:=λa Q=>∃sd:Qn,a=[.fz<|jZ sd]/\Sd sd/\∀o,Q (.fz<|.bool true) o
noncomputable abbrev bV(sd cl:Qn):Oe:=.tuple [jZ sd,jZ cl]
def Ob:Con:=λa Q=>∃sd cl:Qn,a=[.fz<|bV sd cl]/\Sd sd/\cl.length=(EZ sd).length/\∀o,Q (.fz<|.bool true) o
variable (P w K mg base) in
structure CalsFO:Prop where
 Uo:Cal P w K mg base 3 "is_field" ["thing"] (iZ K Ob)
variable (P w K mg base) in
structure CalsFB:Prop where
 Up:Cal P w K mg base 2 "running_of" ["field"] (iZ K qx)
def Jc:Con:=λa Q=>∃(sd cl:Qn) (d:Oe),a=[.fz<|jZ sd,.fz d]/\Jb cl d/\Sd sd/\cl.length=(EZ sd).length/\∀o,Q (.fz<|bV sd<|aG sd cl) o
theorem Y'(F:Co K "field_by" (top 31) f fd)(T:Txt mg)(C:CalsFB P w K mg base):FnOk P w K mg base VJ 3 f fd ["sides","steps"] (iZ K Jc):=by have S:FnScope ["sides","steps"] ["sides","steps"] (kZ<|top 31):={};refine GK F S (λi A outer s H E b=>PZ<|aJ<|LZ (wv 0)<|lZ<|YW T.Xo<|lZ<|KZ C.Up b.m<|lZ<|aJ<|LZ (wv 0)<|lZ<|wv 1) ?_;rintro a j ⟨sd,cl,d,rfl,hd,c,e,q⟩;exact⟨sd,cl,d,rfl,hd,c,e,λo=>q _⟩
variable (P w K mg base) in
structure CalsLFq:Prop where
 Ur:Cal P w K mg base 1 "_law_is_whole" ["_law_thing"] (iZ K vM)
theorem Cw:∀{a b:Qn} (x y:Int),a.length=b.length->HT.lexLt a b=true->HT.lexLt (a++[x]) (b++[y])=true
 |[],[],x,y,_,h=>by cases h
 |[],_::_,x,y,e,_=>by simp at e
 |_::_,[],x,y,e,_=>by simp at e
 |u::a,v::b,x,y,e,h=>by
  rw[K8,K8,HT.lexLt_cons];rw[HT.lexLt_cons]at h;by_cases q:u=v
  .rw[De q]at h ⊢;exact Cw x y (by simpa using e) h
  .rw[Ce q]at h ⊢;exact h
theorem Dw:∀(a:Qn) {x y:Int},x<y->HT.lexLt (a++[x]) (a++[y])=true
 |[],x,y,h=>by show HT.lexLt [x] [y]=true;rw[HT.lexLt_cons,Ce<|Int.ne_of_lt h];exact Je h
 |u::a,x,y,h=>by rw[K8,K8,HT.lexLt_cons,De rfl];exact Dw a h
theorem mK:∀{cs acc:List Qn}{n:Nat},acc.Pairwise (λa b=>HT.lexLt a b=true)->(∀p∈acc,p.length=n)->(∀c∈cs,c.Pairwise (· < ·))->(AZ acc cs).Pairwise (λa b=>HT.lexLt a b=true)
 |[],_,_,h,_,_=>h
 |c::cs,acc,n,h,e,i=>by
  refine mK (cs:=cs) (n:=n+1) ?_ ?_ λd hd=>i d<|G0 _ hd
  .rw[pX];refine⟨λp j=>?_,?_⟩
   .rw[j6];exact(i c L0).imp λh=>Dw p h
   .refine List.Pairwise.imp_of_mem (λ{a b} k l h=>?_) h;intro x hx y hy;obtain⟨u,_,rfl⟩:=M0.mp hx;obtain⟨v,_,rfl⟩:=M0.mp hy;exact Cw u v (by rw[e a k,e b l]) h
  .intro p j;obtain⟨q,m,hx⟩:=u5.mp j;obtain⟨x,_,rfl⟩:=M0.mp hx;rw[R0,e q m];rfl
theorem FD(a b:Int):(OJ a b).Pairwise (· < ·):=by unfold OJ;rw[j6];exact List.pairwise_lt_range.imp λh=>Int.add_lt_add_left (E8.2 h) _
theorem Dx(lo hi:Qn):(rF lo hi).Pairwise (λa b=>HT.lexLt b a=false):=by
 have h:=mK (cs:=(lo.zip hi).map λp=>OJ p.1 p.2) (acc:=[[]]) (n:=0) (P3 _ _) (by simp) λc d=>by obtain⟨p,_,rfl⟩:=M0.mp d;exact FD _ _
 refine List.Pairwise.imp (λ{a b} h=>?_) h;cases e:HT.lexLt b a
 .rfl
 .have:=SG.lex_wk.tr a b a h e;rw[SG.lex_wk.irr]at this;cases this
theorem yz(a b:Int):(OJ a b).length=(b+1-a).toNat:=by simp[OJ]
noncomputable def OE(sd cl p:Qn):Int:=cl.getD (CJ sd p).toNat 0
variable (P w K mg base) in
structure CalsBt:Prop where
 Ks:Cal P w K mg base 1 "one_of_each" ["choices"] (iZ K pF)
noncomputable abbrev bxP(lo hi:Qn):Oe:=.tuple [jZ lo,jZ hi]
theorem ON:∀{lo hi sd:Qn},Bx lo hi sd->zx (lo.map q0) sd=true/\zx (hi.map q0) sd=true/\UR lo hi=true
 |[],[],[],_=>⟨rfl,rfl,rfl⟩
 |x::lo,y::hi,s::sd,h=>by
  obtain⟨a,b,c⟩:=ON h.2;have hx:=h.1;refine⟨?_,?_,?_⟩
  .simp only[Y0,zx,VC,a,U9,A4,decide_eq_true_eq];exact⟨hx.1,V1 hx.2.1 hx.2.2⟩
  .simp only[Y0,zx,VC,b,U9,A4,decide_eq_true_eq];exact⟨E2 hx.1 hx.2.1,hx.2.2⟩
  .have e:UR (x::lo) (y::hi)=(decide (x<=y)&&UR lo hi):=by simp[UR]
   rw[e,c,U9,decide_eq_true_eq];exact hx.2.1
 |[],[],_::_,h=>h.elim
 |[],_::_,z,h=>by cases z<;>exact h.elim
 |_::_,[],z,h=>by cases z<;>exact h.elim
 |_::_,_::_,[],h=>h.elim
theorem yM(h:Bx lo hi sd):BG sd (bxP lo hi)=true:=by
 obtain⟨a,b,c⟩:=ON h;obtain⟨d,e⟩:=OK h;have i:CW sd (jZ lo)=true:=by show (decide ((lo.map q0).length=sd.length)&&zx (lo.map q0) sd)=true;rw[g0,a,U9];exact Je d
 have j:CW sd (jZ hi)=true:=by show (decide ((hi.map q0).length=sd.length)&&zx (hi.map q0) sd)=true;rw[g0,b,U9];exact Je e
 show (CW sd (jZ lo)&&CW sd (jZ hi)&&UR ((lo.map q0).map unI) ((hi.map q0).map unI))=true;rw[i,j,RJ,RJ,c];rfl
theorem GD(p:Qn):Uz (jZ p)=true:=wz λd hd=>by obtain⟨i,_,rfl⟩:=M0.mp hd;rfl
theorem YR(lo hi:Qn):Uz (bxP lo hi)=true:=by show (Uz (jZ lo)&&(Uz (jZ hi)&&true))=true;rw[GD,GD];rfl
theorem Ew:∀{lo hi sd:Qn},Bx lo hi sd->1<=sd.length->∃ls c d a b s,lo=ls++[a]/\hi=c++[b]/\sd=d++[s]/\Bx ls c d/\0<=a/\a<=b/\b<s
 |[],[],[],_,h=>by simp at h
 |x::lo,y::hi,s::sd,h,_=>by
  cases sd with
  |nil =>
   cases lo with
   |nil =>
    cases hi with
    |nil=>exact⟨[],[],[],x,y,s,rfl,rfl,rfl,trivial,h.1⟩
    |cons _ _=>exact h.2.elim
   |cons _ _=>cases hi<;>exact h.2.elim
  |cons e sd=>obtain⟨ls,c,d,a,b,t,i,j,k,l,m⟩:=Ew (sd:=e::sd) h.2 (by simp);exact⟨x::ls,y::c,s::d,a,b,t,by rw[i];rfl,by rw[j];rfl,by rw[k];rfl,⟨h.1,l⟩,m⟩
 |[],[],_::_,h,_=>h.elim
 |[],_::_,z,h,_=>by cases z<;>exact h.elim
 |_::_,[],z,h,_=>by cases z<;>exact h.elim
 |_::_,_::_,[],h,_=>h.elim
theorem zz{a b x:Int}(h:x∈OJ a b):a<=x/\x<=b:=by
 unfold OJ at h;obtain⟨n,c,rfl⟩:=M0.mp h;have:=o7.mp c
 lia
theorem aE:∀{lo hi sd p:Qn},Bx lo hi sd->nz p ((lo.zip hi).map λq=>OJ q.1 q.2)->Wi p sd
 |[],[],[],[],_,_=>trivial
 |[],[],[],_::_,_,h=>h.elim
 |x::lo,y::hi,s::sd,[],_,h=>h.elim
 |x::lo,y::hi,s::sd,z::p,h,k=>by have:=zz k.1;have hx:=h.1;simp only at this;exact⟨⟨E2 hx.1 this.1,V1 this.2 hx.2.2⟩,aE h.2 k.2⟩
 |[],[],_::_,_,h,_=>h.elim
 |[],_::_,z,_,h,_=>by cases z<;>exact h.elim
 |_::_,[],z,_,h,_=>by cases z<;>exact h.elim
 |_::_,_::_,[],_,h,_=>h.elim
theorem Ex(h:Bx lo hi sd)(a:p∈rF lo hi):Wi p sd:=aE h<|nJ a
theorem Fw:∀{lo hi sd:Qn},Bx lo hi sd->∀p∈lo.zip hi,0<=p.1/\p.1<=p.2/\∃s∈sd,p.2<s
 |[],[],[],_,p,a=>by simp at a
 |x::lo,y::hi,s::sd,h,p,a=>by
  rw[A5]at a;rcases E1.mp a with rfl|a
  .exact⟨h.1.1,h.1.2.1,s,L0,h.1.2.2⟩
  .obtain⟨b,c,t,d,e⟩:=Fw h.2 p a;exact⟨b,c,t,G0 _ d,e⟩
 |[],[],_::_,h,_,_=>h.elim
 |[],_::_,z,h,_,_=>by cases z<;>exact h.elim
 |_::_,[],z,h,_,_=>by cases z<;>exact h.elim
 |_::_,_::_,[],h,_,_=>h.elim
theorem HD:∀{lo hi sd:Qn},Bx lo hi sd->(yJ ((lo.zip hi).map λq=>OJ q.1 q.2):Int)<=prodI sd/\1<=prodI sd
 |[],[],[],_=>by simp[yJ,prodI]
 |x::lo,y::hi,s::sd,h=>by
  obtain⟨a,b⟩:=HD h.2;have hx:=h.1;show (((OJ x y).length*yJ ((lo.zip hi).map λq=>OJ q.1 q.2):Nat):Int)<=s*prodI sd/\1<=s*prodI sd;rw[yz,K7];refine⟨X7 (by omega) a (X4 _)<|Q1<|V1 hx.1<|V1 hx.2.1 hx.2.2,?_⟩;have:=X7 (show (1:Int)<=s by lia) b (by decide) (by lia)
  lia
 |[],[],_::_,h=>h.elim
 |[],_::_,z,h=>by cases z<;>exact h.elim
 |_::_,[],z,h=>by cases z<;>exact h.elim
 |_::_,_::_,[],h=>h.elim
theorem gG(c:List α):∀(cs a:List (List α)),AZ a (cs++[c])=(AZ a cs).flatMap λp=>c.map λx=>p++[x]
 |[],a=>rfl
 |d::cs,a=>gG c cs _
theorem bE{ls c:Qn}(a b:Int)(h:ls.length=c.length):rF (ls++[a]) (c++[b])=(rF ls c).flatMap λp=>(OJ a b).map λx=>p++[x]:=by unfold rF;rw[fX h,U2];exact gG _ _ _
theorem QV{a:Qn}(s x:Int)(h:p.length=a.length):CJ (a++[s]) (p++[x])=CJ a p*s+x:=by unfold CJ;rw[fX h.symm,AQ];rfl
theorem ID:∀{p c:Qn}{x s:Int},Wi p c->0<=x->x<s->Wi (p++[x]) (c++[s])
 |[],[],_,_,_,a,b=>⟨⟨a,b⟩,trivial⟩
 |_::_,_::_,_,_,h,a,b=>⟨h.1,ID h.2 a b⟩
 |[],_::_,_,_,h,_,_=>h.elim
 |_::_,[],_,_,h,_,_=>h.elim
noncomputable def eJ(sd cl lo hi:Qn):Qn:=(rF lo hi).map<|OE sd cl
noncomputable def uU(sd cl:Qn)(a b:Int)(p:Qn):Qn:=(OJ a b).map λx=>OE sd cl<|p++[x]
theorem cE{st:Nat}(h:st+n<=cl.length):(cl.take<|st+n).drop st=(G2 n).map λj=>cl.getD (st+j) 0:=by refine j7 (by simp;lia) λj b a=>?_;simp at b a;rw[vQ,wQ,N8,g8,X0,J0<|B0 (j5 a _) h];rfl
theorem zM{c:Qn}{a b s:Int}(q:(cl.length:Int)=prodI (c++[s]))(d:Wi p c)(h0:0<=a)(i:a<=b)(l:b<s):0<=CJ (c++[s]) (p++[a])/\0<=CJ (c++[s]) (p++[a])+(b-a+1)/\((cl.map q0).take (CJ (c++[s]) (p++[a])+(b-a+1)).toNat).drop (CJ (c++[s])<|p++[a]).toNat=(uU (c++[s]) cl a b p).map q0:=by
 have hl:=EY d;have e:=oW<|ID d h0 (by lia:a<s);have g2:=oW<|ID d (by lia:0<=b) l;have t:CJ (c++[s]) (p++[b])=CJ (c++[s]) (p++[a])+(b-a):=by rw[QV s b hl,QV s a hl];lia
 have ex:∀x,CJ (c++[s]) (p++[x])=CJ (c++[s]) (p++[a])+(x-a):=λx=>by rw[QV s x hl,QV s a hl];lia
 unfold uU OE;generalize CJ (c++[s]) (p++[a])=st at *;refine⟨e.1,by lia,?_⟩;obtain⟨k,rfl⟩:=Z5 e.1;obtain⟨n,m⟩:=Z5 (show 0<=b-a+1 by exact AX (G1 i)<|l9 _);rw[m,show ((k:Int)+(n:Int)).toNat=k+n by rfl,B4,<-List.map_take,<-List.map_drop,cE<|by lia];congr 1;unfold OJ;rw[show b+1-a=(n:Int) by lia,B4,O0];refine U1 λj _=>?_;show _=cl.getD (CJ (c++[s])<|p++[a+(j:Int)]).toNat 0;rw[ex];congr 1
 lia
theorem Fy{d ls c:Qn}{a b s:Int}(h:ls.length=c.length):eJ (d++[s]) cl (ls++[a]) (c++[b])=(rF ls c).flatMap (uU (d++[s]) cl a b):=by unfold eJ uU;rw[bE a b h,M8];congr 1;funext p;rw[O0];rfl
theorem yF(a:Qn)(z:Int):(((a++[z]).map q0).take<|if (-1:Int)<0 then ((-1:Int)+(((a++[z]).map q0).length:Nat)).toNat else (-1:Int).toNat)=a.map q0:=by rw[De<|by decide,g0,R0,i4,show ((-1:Int)+((a.length+1:Nat):Int)).toNat=a.length by lia,U2,List.take_append_of_le_length (by rw[g0];exact V0 _),V4<|by rw[g0];exact V0 _]
theorem vU(a:Qn)(z:Int):if (-1:Int)<0 then 1<=((a++[z]).map q0).length else (-1:Int)<(((a++[z]).map q0).length:Nat):=by rw[De<|by decide,g0,R0,i4];exact K1 _ _
theorem JD(a:Qn)(z:Int):lV ((a++[z]).map q0) (-1)=some (.int z):=by unfold lV Sz;rw[Ce<|by decide,g0,R0,i4,De<|by lia];show ((a++[z]).map q0)[((-1:Int)+((a.length+1:Nat):Int)).toNat]?=_;rw[show ((-1:Int)+((a.length+1:Nat):Int)).toNat=a.length by lia];simp
theorem Gw{α β:Type}{f:α->List β}{c:Nat}:∀{l:List α},(∀p∈l,(f p).length<=c)->(l.flatMap f).length<=l.length*c
 |[],_=>by simp
 |p::l,h=>by
  have b:=h p L0;have d:=Gw (l:=l) λq a=>h q<|G0 _ a;rw[V2,R0,L1,F8]
  lia
variable (P w K mg base) in
structure CalsAk:Prop where
 Us:Cal P w K mg base 4 "is_box" ["sides","thing"] (iZ K YC)
def Z':Con:=λa Q=>∃(sd:Qn) (d:Oe),a=[.fz<|jZ sd,.fz d]/\Uz d=true/\sd.length<=1000/\BG sd d=true/\∀o,Q (.fz .none) o
theorem ZR(F:Co K "ask_for_box" (top 18) f fd)(C:CalsAk P w K mg base):FnOk P w K mg base VJ 5 f fd ["sides","thing"] (iZ K Z'):=by have S:FnScope ["sides","thing"] ["sides","thing"] (kZ<|top 18):={};refine GK F S (λi A outer s H E b=>TZ<|aK (IW<|GY<|KZ C.Us b.m<|IZ 0<|tZ 1) (TZ FL) sJ) ?_;rintro a j ⟨sd,d,rfl,hd,c,e,q⟩;refine⟨sd,d,rfl,hd,c,λo=>?_⟩;rw[e];exact q _
variable (P w K mg base) in
structure CalsCi:Prop where
 Ut:Cal P w K mg base 5 "ask_for_box" ["sides","thing"] (iZ K Z')
 Kt:Cal P w K mg base 2 "places_between" ["low","high"] (iZ K HR)
 Ys:Cal P w K mg base 1 "index_of" ["sides","place"] (iZ K wD)
def aS:Con:=λa Q=>∃(sd cl lo hi:Qn),a=[.fz<|bV sd cl,.fz<|bxP lo hi]/\Sd sd/\cl.length=(EZ sd).length/\Bx lo hi sd/\∀o,Q (.ow<|.list<|(eJ sd cl lo hi).map q0) o
theorem bS(F:Co K "cells_in" (top 35) f fd)(T:Txt mg)(C:CalsCi P w K mg base):FnOk P w K mg base VJ 6 f fd ["field","box"] (iZ K aS):=by
 have S:FnScope ["field","box","sides","low","high","length","found","line","start"] ["field","box"] (kZ<|top 35):={};refine GK F S (λye A outer s H E L=>hZ (FZ 2<|MZ (wn 0) oZ)<|hZ (rK<|KZ C.Ut L.m<|IZ 2<|tZ 1)<|hZ (FZ 3<|MZ (wn 1) oZ)<|hZ (FZ 4<|MZ (wn 1) oZ)<|hZ (FZ 5<|bK (wx<|ZW (wx<|MZ (wn 4)<|wx<|AH oZ)<|wx<|MZ (wn 3)<|wx<|AH oZ) oZ)<|hZ (FZ 6<|kJ jK)<|hZ (jW [7,8] (fJ rfl<|KZ C.Kt L.m<|LZ (NB rfl (wn 3)<|wx<|AH oZ)<|lZ<|NB rfl (wn 4)<|wx<|AH oZ) (SZ 7)<|hZ (FZ 8<|KZ C.Ys L.m<|IZ 2<|lZ<|bK (wn 7)<|wx<|aJ<|lZ<|MZ (wn 3)<|wx<|AH oZ)<|TZ<|rK<|HB Tj rfl PySem.F.slot_list_extend PySem.F.type_list_extend Sj (wn 6)<|lZ<|sR rfl (wx<|MZ (wn 0) oZ) (wn 8)<|wx<|bK (wn 8)<|wn 5)<|uD 6) ?_;rintro U Qd ⟨sd,cl,lo,hi,rfl,j,bg,Y,q⟩;have Z:=j.l3;have hm:=j.m;have cf:=vK j.p;refine⟨_,rfl,?_⟩;refine⟨sd,_,rfl,YR lo hi,A0 Z<|K1 _ _,yM Y,λ_=>?_⟩;refine⟨_,rfl,_,rfl,?_⟩;obtain⟨ls,k,e,a,b,s,rfl,rfl,rfl,i,h0,h1,h2⟩:=Ew Y j.l1;obtain⟨bl1,bl2⟩:=OK i;have M:e.length<=2:=by simp at Z;omega
 have zt:=HD i;have mm:prodI e<=120:=by
  have:prodI (e++[s])=prodI e*(s*1):=prodI_append e [s];rw[Z8]at this;have:=K4 (show (1:Int)<=s by exact V1 h0<|V1 h1 h2) (show 0<=prodI e by exact Q1 zt.2)
  lia
 have vm:s<=120:=by have:=zJ j.p s (by simp);exact E2 this hm
 refine⟨_,JD k b,_,JD ls a,?_⟩;refine⟨vU ls a,vU k b,ls,k,by rw[yF,yF];rfl,by lia,by lia,λp G=>?_,by lia,λ_=>?_⟩
 .obtain⟨O,g2,t,ht,g3⟩:=Fw i p G;have:=zJ j.p t (by simp[ht])
  lia
 have y:(cl.length:Int)=prodI (e++[s]):=by lia
 have hnb:(rF ls k).length<=120:=by unfold rF;rw[dJ];have:=zt.1;simp;exact c8.1<|E2 this mm
 refine nK (λrest ρ=>∃(dn v:List Qn),rF ls k=dn++v/\rest=v.map jZ/\ρ=[Zt<|bV (e++[s]) cl,Zt<|bxP (ls++[a])<|k++[b],Zt<|jZ<|e++[s],Zt<|jZ<|ls++[a],Zt<|jZ<|k++[b],Zt<|.int<|b-a+1,Yt<|.list<|(dn.flatMap<|uU (e++[s]) cl a b).map q0,none,none]) ?_ ?_ ⟨[],rF ls k,rfl,rfl,rfl⟩
 .rintro d ds ρ ⟨dn,v,x,I,rfl⟩ N hN;cases v with
  |nil=>cases I
  |cons p v =>
   cases I;have G:Wi p e:=Ex i (by rw[x];simp);have hpl2:=EY G;obtain⟨z1,z2,z3⟩:=zM y G h0 h1 h2;have B:∀p:Qn,(uU (e++[s]) cl a b p).length<=120:=λp=>by unfold uU;rw[g0,yz];lia
   have R:dn.length<=120:=by have:=Te E5 x;simp at this;lia
   refine⟨_,JD ls a,by rw[g0];simp;exact rZ<|by lia,e++[s],p++[a],by rw[show jZ (p++[a])=.tuple (p.map q0++[.int a]) by show O1 _=_;rw[U2];rfl];rfl,by simp;exact A0 M<|K1 _ _,λc hc=>?_,λ_=>?_⟩
   .have O:=j.p c hc;have g2:=zJ j.p c hc;exact⟨Q1 O,V1 (show c<=120 by exact E2 g2 hm)<|by decide⟩
   refine⟨_,rfl,z1,z2,?_⟩;rw[z3];refine⟨?_,?_⟩
   .rw[g0,g0];have O:=Gw (l:=dn) (f:=uU (e++[s]) cl a b) (c:=120) λp _=>B p;have g2:=B p;have:dn.length*120<=120*120:=P7 _ R;exact A0 (show _<=20000 by lia) (by decide)
   .refine hN _ ⟨dn++[p],v,by rw[x];simp,rfl,?_⟩;rw[V7,U2,c7];rfl
 .rintro ρ ⟨dn,v,x,I,rfl⟩;cases v with
  |cons _ _=>cases I
  |nil=>rw[Z2]at x;have:=q;rw[Fy<|by lia,x]at this;exact this _
theorem dE{a b:Qn}(h:HT.lexLt a b=true):HT.lexLt b a=false:=by
 cases e:HT.lexLt b a
 .rfl
 .have:=SG.lex_wk.tr a b a h e;rw[SG.lex_wk.irr]at this;cases this
theorem Fx(sd:Qn):(EZ sd).Pairwise (λa b=>HT.lexLt b a=false):=by
 have h:=mK (cs:=sd.map rng) (acc:=[[]]) (n:=0) (P3 _ _) (by simp) λc d=>by obtain⟨s,_,rfl⟩:=M0.mp d;rw[<-qF];exact FD _ _
 exact h.imp dE
theorem eE{l:List Qn}(h:l.Pairwise (λa b=>HT.lexLt a b=true)):l.Nodup:=h.imp λ{a b} z e=>by rw[e,SG.lex_wk.irr]at z;cases z
theorem Gy(lo hi:Qn):(rF lo hi).Nodup:=by
 unfold rF;exact eE (mK (cs:=(lo.zip hi).map λp=>OJ p.1 p.2) (acc:=[[]]) (n:=0) (P3 _ _) (by simp) λc a=>by obtain⟨p,_,rfl⟩:=M0.mp a;exact FD _ _)
noncomputable def wU:Qn->Qn->Qn->Bool
 |a::lo,x::p,b::hi=>(decide (a<=x)&&decide (x<=b))&&wU lo p hi
 |_,_,_=>true
theorem rng2_mem{a b x:Int}:x∈OJ a b↔a<=x/\x<=b:=by refine⟨zz,λh=>?_⟩;unfold OJ;exact M0.mpr ⟨(x-a).toNat,o7.mpr<|by lia,by lia⟩
theorem Hw:∀{lo hi sd p:Qn},Bx lo hi sd->p.length=sd.length->wU lo p hi=true->nz p ((lo.zip hi).map λq=>OJ q.1 q.2)
 |[],[],[],[],_,_,_=>trivial
 |a::lo,b::hi,s::sd,x::p,h,hl,c=>by have c:((decide (a<=x)&&decide (x<=b))&&wU lo p hi)=true:=c;rw[A4,A4,decide_eq_true_eq,decide_eq_true_eq]at c;exact⟨rng2_mem.mpr c.1,Hw h.2 (by simpa using hl) c.2⟩
 |[],[],[],_::_,_,h,_=>by simp at h
 |_::_,_::_,_::_,[],_,h,_=>by simp at h
 |[],[],_::_,_,h,_,_=>h.elim
 |[],_::_,z,_,h,_,_=>by cases z<;>exact h.elim
 |_::_,[],z,_,h,_,_=>by cases z<;>exact h.elim
 |_::_,_::_,[],_,h,_,_=>h.elim
theorem Iw:∀{lo hi p:Qn},lo.length=hi.length->nz p ((lo.zip hi).map λq=>OJ q.1 q.2)->wU lo p hi=true
 |[],_,_,_,_=>by simp[wU]
 |a::lo,b::hi,x::p,hl,h=>by show ((decide (a<=x)&&decide (x<=b))&&wU lo p hi)=true;have c:=rng2_mem.mp h.1;rw[Iw (by simpa using hl) h.2,Je c.1,Je c.2];rfl
 |_::_,[],_,hl,_=>by simp at hl
 |_::_,_::_,[],_,h=>h.elim
theorem Gx(h:Bx lo hi sd):(EZ sd).filter (λp=>wU lo p hi)=rF lo hi:=by
 have hl:=OK h;have j:∀c∈sd,1<=c:=by
  have e:∀{lo hi sd:Qn},Bx lo hi sd->∀c∈sd,1<=c:=by
   intro lo;induction lo with
   |nil=>intro hi sd h c i;cases hi<;>cases sd<;>first|exact h.elim|cases i
   |cons a lo k =>
    intro hi sd h c i;cases hi with
    |nil=>cases sd<;>exact h.elim
    |cons b hi =>
     cases sd with
     |nil=>exact h.elim
     |cons s sd =>
      rcases E1.mp i with z|z
      .subst z;have:=h.1;lia
      .exact k h.2 c z
  exact e h
 refine SG.sorted_uniq (lt:=HT.lexLt) (λa b=>SG.lex_eq) ((List.perm_ext_iff_of_nodup ((tF j).filter _)<|Gy lo hi).mpr λp=>?_) ((Fx sd).filter _)<|Dx lo hi;rw[cX];constructor
 .rintro⟨d,l⟩;exact pW (a:=[]) (by simp)<|Hw h (EY<|mW d) l
 .intro d;exact⟨cG<|Ex h d,Iw (by lia)<|nJ d⟩
noncomputable def Pb(sd cl lo hi:Qn):Qn:=(((EZ sd).zip cl).filter λr=>wU lo r.1 hi).map (·.2)
theorem AM(a:∀c∈sd,1<=c)(hl:cl.length=(EZ sd).length):(EZ sd).zip cl=(EZ sd).map λp=>(p,OE sd cl p):=by
 refine u9 λi=>?_;by_cases hi:i<(EZ sd).length
 .have b:i<((EZ sd).zip cl).length:=by rw[P2];exact B0 hi<|u6 (P0 rfl)<|P0 hl.symm
  rw[S1,J0 hi,J0 b,LQ];have d:=nW a (k:=i) (p:=(EZ sd)[i]) (by simp[hi]);show some ((EZ sd)[i],cl[i])=some ((EZ sd)[i],OE sd cl (EZ sd)[i]);have e:OE sd cl (EZ sd)[i]=cl[i]:=by unfold OE;rw[d.2,show ((i:Int)).toNat=i by exact B4 _,X0,J0<|by omega];rfl
  rw[e]
 .rw[L4.mpr (by rw[P2];exact A0 (T4 _ _)<|A1 hi),L4.mpr<|by rw[g0];exact A1 hi]
theorem fE(a:∀c∈sd,1<=c)(hl:cl.length=(EZ sd).length)(h:Bx lo hi sd):Pb sd cl lo hi=eJ sd cl lo hi:=by unfold Pb eJ;rw[AM a hl,cQ,O0,<-Gx h];rfl
noncomputable def lJ(sd cl:Qn):List (Qn×Oe):=((EZ sd).zip cl).map λr=>(r.1,q0 r.2)
variable (P w K mg base) in
structure CalsFd:Prop where
 Ho:Cal P w K mg base 2 "_law_sides" ["_law_state","_law_most"] (iZ K ax)
 Wp:Cal P w K mg base 1 "_law_places" ["_law_sides_here"] (iZ K MV)
 Kr:Cal P w K mg base 2 "_law_number" ["_law_state"] (iZ K OU)
noncomputable def hl(lo hi:Int):List Qn:=[lo,hi]::if h:lo<hi then hl ((lo+hi) / 2+1) hi++hl lo ((lo+hi) / 2) else []
termination_by (hi-lo).toNat
decreasing_by all_goals lia
theorem xU{lo hi:Int}(h:lo<hi):hl lo hi=[lo,hi]::(hl ((lo+hi) / 2+1) hi++hl lo ((lo+hi) / 2)):=by rw[hl,dif_pos h]
theorem Az{lo hi:Int}(h:¬lo<hi):hl lo hi=[[lo,hi]]:=by rw[hl,dif_neg h]
theorem Hx:∀(n:Nat) (lo hi:Int),(hi-lo).toNat=n->lo<=hi->((hl lo hi).length:Int)=2*(hi-lo+1)-1:=by
 intro n;induction n using U8 with
 |_ n b =>
  intro lo hi e h;by_cases a:lo<hi
  .rw[xU a,L1,R0];have c:=b _ (X_ e a) ((lo+hi) / 2+1) hi rfl<|TN a;have d:=b _ (Y_ e a) lo ((lo+hi) / 2) rfl<|GS<|Q1 a
   lia
  .rw[Az a];simp
   lia
noncomputable abbrev BK(p:Int×Int):Oe:=.tuple [.int p.1,.int p.2]
noncomputable abbrev rwD(r:Qn):Oe:=.tuple<|r.map q0
noncomputable def tK(a:List (Int×Int)):List Qn:=a.reverse.flatMap λp=>hl p.1 p.2
theorem zF(a:List (Int×Int))(p:Int×Int):tK (a++[p])=hl p.1 p.2++tK a:=by simp[tK]
theorem gE(a b:Int):1<=(hl a b).length:=by rw[hl];simp
theorem Bz(a:List (Int×Int)):a.length<=(tK a).length:=by
 induction a with
 |nil=>simp
 |cons p a b =>
  have e:tK (p::a)=tK a++hl p.1 p.2:=by simp[tK]
  have:=gE p.1 p.2;rw[e,R0,L1];exact Nat.add_le_add b this
theorem a_:∀(n:Nat) (lo hi:Int),(hi-lo).toNat=n->∀r∈hl lo hi,r≠[]:=by
 intro n;induction n using U8 with
 |_ n c =>
  intro lo hi e r a;by_cases b:lo<hi
  .rw[xU b]at a;rcases E1.mp a with rfl|a
   .simp
   .rcases O2.mp a with a|a
    .exact c _ (by omega) _ _ rfl r a
    .exact c _ (Y_ e b) _ _ rfl r a
  .rw[Az b]at a;simp at a;subst a;simp
theorem AF:∀(n:Nat) (lo hi:Int),(hi-lo).toNat=n->lo<=hi->∀r∈hl lo hi,∃a b:Int,r=[a,b]/\lo<=a/\a<=b/\b<=hi:=by
 intro n;induction n using U8 with
 |_ n j =>
  intro lo hi e h r c;by_cases d:lo<hi
  .rw[xU d]at c;rcases E1.mp c with rfl|c
   .exact⟨lo,hi,rfl,L5 rfl,by omega,L5 rfl⟩
   .rcases O2.mp c with c|c
    .obtain⟨a,b,e,l,i,k⟩:=j _ (by omega) _ _ rfl (by lia) r c;exact⟨a,b,e,by lia,i,by omega⟩
    .obtain⟨a,b,e,l,i,k⟩:=j _ (by omega) _ _ rfl (by lia) r c;exact⟨a,b,e,by omega,i,Q1<|V1 k<|TN d⟩
  .rw[Az d]at c;simp at c;subst c;exact⟨lo,hi,rfl,L5 rfl,by omega,L5 rfl⟩
def cS:Con:=λc Q=>∃a b:Int,c=[.fz<|BK (a,b)]/\0<=a/\0<=b/\a<=10000/\b<=10000/\∀o,Q (.ow<|.list [BK (a,(a+b) / 2),BK ((a+b) / 2+1,b)]) o
theorem dS(F:Co K "two_halves" (top 38) f fd):FnOk P w K mg base VJ 1 f fd ["stretch"] (iZ K cS):=by have S:FnScope ["stretch","middle"] ["stretch"] (kZ<|top 38):={};refine GK F S (λd A outer s H E e=>hZ (FZ 1<|w_bin tW qW (wx<|bK (wx<|MZ (wn 0) oZ)<|wx<|MZ (wn 0) oZ) oZ)<|PZ<|kJ<|LZ (aJ<|LZ (MZ (wn 0) oZ)<|lZ<|wv 1)<|lZ<|aJ<|LZ (bK (wn 1) oZ)<|lZ<|MZ (wn 0) oZ) ?_;rintro c i ⟨a,b,rfl,j,k,l,m,q⟩;refine⟨_,rfl,_,rfl,⟨by decide,by decide⟩,?_⟩;refine⟨_,rfl,_,rfl,?_⟩;exact q _
variable (P w K mg base) in
structure CalsSq:Prop where
 Hr:Cal P w K mg base 1 "two_halves" ["stretch"] (iZ K cS)
def b_:Con:=λc Q=>∃n:Int,c=[.fz<|.int n]/\1<=n/\n<=1000/\∀(d:List Qn) (o:Ev),d.Perm (hl 0<|n-1)->d.Pairwise (λa b=>HT.lexLt b a=false)->Q (.ow<|.list<|d.map rwD) o
theorem fS(F:Co K "stretches" (top 39) f fd)(T:Txt mg)(C:CalsSq P w K mg base):FnOk P w K mg base VJ 2 f fd ["side"] (iZ K b_):=by
 have S:FnScope ["side","found","waiting","stretch"] ["side"] (kZ<|top 39):={};refine GK F S (λye A outer s H E I=>hZ (FZ 1<|kJ jK)<|hZ (FZ 2<|kJ<|lZ<|aJ<|LZ OZ<|lZ<|ZW (wn 0) oZ)<|hZ (fD PassesOwn.never (SJ Iq ZD (wx<|BW T.Qo<|tZ 2) oZ)<|hZ (FZ 3<|oA pB rfl PySem.F.slot_list_pop PySem.F.type_list_pop uu<|wn 2)<|hZ (rK<|HB qK rfl PySem.F.slot_list_append PySem.F.type_list_append WJ (wn 1)<|lZ<|wv 3)<|TZ<|aK (SJ oU fV (wx<|MZ (wn 3) oZ)<|wx<|MZ (wn 3) oZ) (TZ<|rK<|HB UG rfl PySem.F.slot_list_extend PySem.F.type_list_extend KG (wn 2)<|lZ<|KZ C.Hr I.m<|tZ 3) sJ)<|PZ<|BZ PH (gW rfl) T.Zn Mi<|tZ 1) ?_;rintro y Qd ⟨n,rfl,B,L,q⟩;have je:=Hx _ 0 (n-1) rfl<|G1 B;refine⟨λm ρ=>∃(dn:List Qn) (i:List (Int×Int)) (x:Jn Sl),ρ=[Zt<|.int n,Yt<|.list<|dn.map rwD,Yt<|.list<|i.map BK,x]/\dn++tK i=hl 0 (n-1)/\(∀p∈i,0<=p.1/\p.1<=p.2/\p.2<=1000)/\m=(tK i).length/\(x=none\/∃d,x=Zt d),⟨_,[],[(0,n-1)],none,rfl,by simp[tK],by simp;exact⟨B,Q1<|Y9 L⟩,rfl,.inl rfl⟩,?_⟩;rintro m ρ ⟨dn,i,x,rfl,j,hw,rfl,hx⟩;rcases hx with rfl|⟨xd,rfl⟩;all_goals
  refine HJ (λh=>?_)<|λh=>?_
  .refine⟨λv=>∃M,M<(tK i).length/\_,λv h=>h,?_⟩;obtain⟨c,p,rfl⟩:∃c p,i=c++[p]:=by
    rcases G9 i with e|⟨a,b,e⟩
    .subst e;simp at h
    .exact⟨a,b,by simpa using e⟩
   have O:((c++[p]).map BK)[((c++[p]).map BK).length-1]?=some (BK p):=by simp
   have R:((c++[p]).map BK).dropLast=c.map BK:=by simp
   have G:(dn++[[p.1,p.2]]).map rwD=dn.map rwD++[BK p]:=by rw[U2];rfl
   have U:(c++[(p.1,(p.1+p.2) / 2),((p.1+p.2) / 2+1,p.2)]).map BK=c.map BK++[BK (p.1,(p.1+p.2) / 2),BK ((p.1+p.2) / 2+1,p.2)]:=by rw[U2];rfl
   have l:=hw p (by simp);have t:∀p∈c,0<=p.1/\p.1<=p.2/\p.2<=1000:=λx hx=>hw x (by simp[hx]);rw[zF]at j ⊢;have hL:=Te E5 j;rw[R0,R0]at hL;have ft:c.length<=(tK c).length:=Bz c;refine⟨_,O,?_⟩;rw[R];refine⟨by rw[g0];exact W0 (show dn.length<=1999 by omega)<|by decide,?_⟩;refine⟨_,rfl,_,rfl,HJ (λk=>?_)<|λk=>?_⟩
   .have k:p.1<p.2:=Qe k;refine⟨p.1,p.2,rfl,l.1,E2 l.1 l.2.1,by omega,by omega,λo=>?_⟩;refine⟨by rw[g0];exact A0 (show c.length+2<=3000 by omega)<|by decide,?_⟩;rw[xU k]at j hL ⊢;refine⟨(tK<|c++[(p.1,(p.1+p.2) / 2),((p.1+p.2) / 2+1,p.2)]).length,?_,dn++[[p.1,p.2]],c++[(p.1,(p.1+p.2) / 2),((p.1+p.2) / 2+1,p.2)],_,by rw[G,U];rfl,?_,?_,rfl,.inr ⟨_,rfl⟩⟩
    .simp[tK]
    .rw[<-j];simp[tK]
    .intro x hx;simp only[O2,E1,O8,or_false]at hx;rcases hx with hx|rfl|rfl
     .exact t x hx
     .exact⟨l.1,by show p.1<=(p.1+p.2) / 2;exact GS<|Q1 k,by show (p.1+p.2) / 2<=1000;omega⟩
     .exact⟨by show 0<=(p.1+p.2) / 2+1;omega,by show (p.1+p.2) / 2+1<=p.2;exact TN k,by show p.2<=1000;exact l.2.2⟩
   .have k:¬p.1<p.2:=λz=>k<|Je z;rw[Az k]at j hL ⊢;refine⟨(tK c).length,by simp,dn++[[p.1,p.2]],c,_,by rw[G];rfl,?_,t,rfl,.inr ⟨_,rfl⟩⟩;rw[<-j];simp
  .have e:i=[]:=by
    cases i with
    |nil=>rfl
    |cons a b=>exact absurd (Je<|by simp) h
   subst e;have j:dn=hl 0 (n-1):=by simpa [tK]using j
   subst j;refine⟨hl 0<|n-1,rfl,A0 (show _<=3000 by omega)<|by decide,a_ _ _ _ rfl,λY Z r2=>?_⟩;exact q Y _ Z r2
noncomputable def Iy{α:Type}(lt:α->α->Bool)(l:List α):List α:=l.mergeSort λa b=>!lt b a
theorem oJ(lt:α->α->Bool)(l:List α):(Iy lt l).Perm l:=List.mergeSort_perm _ _
theorem KD{lt:α->α->Bool}(h:SG.Wk lt)(l:List α):(Iy lt l).Pairwise λa b=>lt b a=false:=by
 have:=List.pairwise_mergeSort (le:=λa b=>!lt b a) (λa b c d e=>by
   simp only[Bool.not_eq_true']at d e ⊢;exact h.nt c b a e d) (λa b=>by
   cases i:lt b a with
   |false=>rfl
   | true =>
     cases j:lt a b with
     |false=>rfl
     |true=>have:=h.tr _ _ _ i j;rw[h.irr]at this;cases this) l;exact this.imp λ{a b} z=>by simpa using z
noncomputable def Jy(n:Int):List Qn:=Iy HT.lexLt<|hl 0<|n-1
theorem BM{n:Int}{c:List Qn}(d:c.Perm (hl 0<|n-1))(e:c.Pairwise λa b=>HT.lexLt b a=false):c=Jy n:=SG.sorted_uniq (lt:=HT.lexLt) (λa b=>SG.lex_eq) (d.trans (oJ _ _).symm) e<|KD SG.lex_wk _
theorem strS_mem{n:Int}{r:Qn}:r∈Jy n↔r∈hl 0 (n-1):=(oJ _ _).mem_iff
noncomputable def Zd(r:Qn):Int×Int:=(r.getD 0 0,r.getD 1 0)
noncomputable def FK(n:Int):List (Int×Int):=(Jy n).map Zd
theorem iE{n:Int}(h:1<=n):(Jy n).map rwD=(FK n).map BK:=by unfold FK;rw[O0];refine U1 λr c=>?_;obtain⟨a,b,rfl,_⟩:=AF _ 0 (n-1) rfl (G1 h) r<|strS_mem.mp c;rfl
theorem CM{n:Int}(h:1<=n){p:Int×Int}(d:p∈FK n):[p.1,p.2]∈hl 0 (n-1)/\0<=p.1/\p.1<=p.2/\p.2<n:=by obtain⟨r,c,rfl⟩:=M0.mp d;have c:=strS_mem.mp c;obtain⟨a,b,rfl,e,i,j⟩:=AF _ 0 (n-1) rfl (G1 h) r c;exact⟨c,e,i,by show b<n;exact X2.1 j⟩
theorem DM{n:Int}{a b:Int}(h:[a,b]∈hl 0 (n-1)):(a,b)∈FK n:=M0.mpr ⟨[a,b],strS_mem.mpr h,rfl⟩
theorem Cz{n:Int}(h:1<=n):((FK n).length:Int)=2*n-1:=by
 unfold FK Jy;rw[g0,(oJ _ _).length_eq];have:=Hx _ 0 (n-1) rfl (by omega)
 lia
noncomputable def bo(a:List (Int×Int)):lY:=(a.map (·.1),a.map (·.2))
noncomputable def hb0(sd:Qn):List lY:=(AZ [[]]<|sd.map FK).map bo
noncomputable def hbs(sd:Qn):List lY:=Iy JY<|hb0 sd
theorem Ez:∀{sd:Qn},(∀c∈sd,1<=c)->(yJ (sd.map FK):Int)<=2 ^ sd.length*prodI sd
 |[],_=>by show (1:Int)<=2 ^ 0*1;decide
 |s::sd,h=>by
  have b:=h s L0;have d:=Ez (sd:=sd) λc a=>h c<|G0 _ a;have k:=PJ (l:=sd) λc a=>h c<|G0 _ a;have e:(yJ ((s::sd).map FK):Int)=((FK s).length:Int)*(yJ (sd.map FK):Int):=by show (((FK s).length*yJ (sd.map FK):Nat):Int)=_;exact K7 _ _
  rw[e,Cz b];show (2*s-1)*(yJ (sd.map FK):Int)<=2 ^ (sd.length+1)*(s*prodI sd);have i:(2*s-1)*(yJ (sd.map FK):Int)<=(2*s)*(2 ^ sd.length*prodI sd):=X7 (Int.sub_le_self _<|l9 _) d (X4 _) (by lia);have j:(2*s)*(2 ^ sd.length*prodI sd)=2 ^ (sd.length+1)*(s*prodI sd):=by rw[XX];simp only[x5,X6,Int.mul_left_comm]
  exact E2 i<|L5 j
theorem Fz(h:Sd sd):yJ (sd.map FK)<=960:=by
 have d:=Ez h.p;have a:=h.m;have i:=h.l3;have b:=PJ h.p;have c:(2:Int) ^ sd.length<=8:=by rcases (show sd.length=0\/sd.length=1\/sd.length=2\/sd.length=3 by lia) with e|e|e|e<;>rw[e]<;>decide
 have j:(2:Int) ^ sd.length*prodI sd<=8*120:=X7 c a (Q1<|X2.1<|G1 b) (by decide)
 lia
theorem EM(h:Sd sd):(hb0 sd).length<=960:=by have a:=Fz h;unfold hb0;rw[g0,dJ];simpa using a
theorem Jw(h:Sd sd):(hbs sd).length<=960:=by unfold hbs;rw[(oJ _ _).length_eq];exact EM h
theorem PN:∀{sd:Qn}{a:List (Int×Int)},(∀c∈sd,1<=c)->nz a (sd.map FK)->Bx (bo a).1 (bo a).2 sd
 |[],[],_,_=>trivial
 |s::sd,p::a,d,h=>by have b:=CM (d s L0) h.1;exact⟨⟨b.2.1,b.2.2.1,b.2.2.2⟩,PN (λc e=>d c<|G0 _ e) h.2⟩
 |[],_::_,_,h=>h.elim
 |_::_,[],_,h=>h.elim
theorem hbs_mem{b:lY}:b∈hbs sd ↔ ∃c,nz c (sd.map FK)/\b=bo c:=by
 unfold hbs;rw[(oJ _ _).mem_iff];unfold hb0;constructor
 .intro h;obtain⟨c,d,rfl⟩:=M0.mp h;exact⟨c,nJ d,rfl⟩
 .rintro⟨c,d,rfl⟩;exact M0.mpr ⟨c,pW (a:=[]) (by simp) d,rfl⟩
theorem Ix(h:∀c∈sd,1<=c){b:lY}(a:b∈hbs sd):Bx b.1 b.2 sd:=by obtain⟨e,d,rfl⟩:=hbs_mem.mp a;exact PN h d
noncomputable def Kc:Oe->Oe
 | .tuple (x::_)=>x
 |_=>.none
noncomputable def Lc:Oe->Oe
 | .tuple (_::y::_)=>y
 |_=>.none
def Mc:Con:=λa Q=>∃b:List (Int×Int),a=[.fz<|.tuple<|b.map BK]/\b.length<=1000/\∀o,Q (.fz<|UJ<|bo b) o
theorem c_(F:Co K "box_of" (top 42) f fd)(T:Txt mg):FnOk P w K mg base VJ 1 f fd ["pairs"] (iZ K Mc):=by
 have S:FnScope ["pairs"] ["pairs"] (kZ<|top 42):={};refine GK F S (λj A outer s H E k=>PZ<|aJ<|LZ (YW T.Xo<|lZ<|SK ["pair"] [] (fJ rfl<|wv 0)<|λ_ _ _ _=>MZ (wn 0) oZ)<|lZ<|YW T.Xo<|lZ<|SK ["pair"] [] (fJ rfl<|wv 0)<|λ_ _ _ _=>MZ (wn 0) oZ) ?_;rintro b l ⟨a,rfl,hl,q⟩;have c:(a.map BK).length=a.length:=g0 _;refine⟨rZ<|le_of_eq_of_le c hl,iK Kc ?_ ⟨rZ<|by lia,iK Lc ?_ ?_⟩⟩
 .intro d hd N hN;obtain⟨p,_,rfl⟩:=M0.mp hd;exact⟨_,rfl,hN⟩
 .intro d hd N hN;obtain⟨p,_,rfl⟩:=M0.mp hd;exact⟨_,rfl,hN⟩
 .have e:(a.map BK).map Kc=(bo a).1.map q0:=by unfold bo;rw[O0,O0];rfl
  have i:(a.map BK).map Lc=(bo a).2.map q0:=by unfold bo;rw[O0,O0];rfl
  have q:=q;unfold UJ at q;rw[<-e,<-i]at q;exact q _
variable (P w K mg base) in
structure CalsBy:Prop where
 Ks:Cal P w K mg base 1 "one_of_each" ["choices"] (iZ K pF)
 Hs:Cal P w K mg base 1 "box_of" ["pairs"] (iZ K Mc)
noncomputable def Qb:Oe->Int×Int
 | .tuple [.int a,.int b]=>(a,b)
 |_=>(0,0)
noncomputable def Sb:Oe->Oe
 | .tuple a=>UJ<|bo<|a.map Qb
 |_=>.none
theorem jE(a:List (Int×Int)):Sb (.tuple<|a.map BK)=UJ (bo a):=by
 show UJ (bo<|(a.map BK).map Qb)=_;rw[O0];have:a.map (Qb∘BK)=a:=by
  conv=>rhs;rw[<-tX a]
  exact U1 λp _=>rfl
 rw[this]
def Nc:Con:=λa Q=>∃sd:Qn,a=[.fz<|jZ sd]/\Sd sd/\∀o,Q (.ow<|.list<|(hbs sd).map UJ) o
noncomputable def Tb:Oe->Oe
 | .int s=>.list<|(FK s).map BK
 |_=>.none
noncomputable def SU:Qn->Int
 |[]=>0
 |[x]=>x
 |x::y::l=>min x<|SU (y::l)
noncomputable def TU:Qn->Int
 |[]=>0
 |[x]=>x
 |x::y::l=>max x<|TU (y::l)
theorem PK:∀{l:Qn},l≠[]->SU l∈l/\∀y∈l,SU l<=y
 |[],h=>absurd rfl h
 | [x],_=>⟨by simp[SU],λy hy=>by
   have e:y=x:=by simpa using hy
   rw[e];exact a9 _⟩
 |x::y::l,_=>by
  obtain⟨a,b⟩:=PK (l:=y::l) (by simp);show min x (SU (y::l))∈x::y::l/\_;constructor
  .rcases (show min x (SU (y::l))=x\/min x (SU (y::l))=SU (y::l) by lia) with e|e<;>rw[e]
   .exact L0
   .exact G0 _ a
  .intro z c;show min x (SU (y::l))<=z;rcases E1.mp c with e|e
   .lia
   .have:=b z e;omega
theorem QK:∀{l:Qn},l≠[]->TU l∈l/\∀y∈l,y<=TU l
 |[],h=>absurd rfl h
 | [x],_=>⟨by simp[TU],λy hy=>by
   have e:y=x:=by simpa using hy
   rw[e];exact a9 _⟩
 |x::y::l,_=>by
  obtain⟨a,b⟩:=QK (l:=y::l) (by simp);show max x (TU (y::l))∈x::y::l/\_;constructor
  .rcases (show max x (TU (y::l))=x\/max x (TU (y::l))=TU (y::l) by lia) with e|e<;>rw[e]
   .exact L0
   .exact G0 _ a
  .intro z c;show z<=max x (TU (y::l));rcases E1.mp c with e|e
   .exact le_of_eq_of_le e (Int.le_max_left _ _)
   .have:=b z e;exact E2 this<|Int.le_max_right _ _
theorem LD{l:Qn}{m:Int}(c:m∈l)(e:∀y∈l,m<=y):m=SU l:=by have d:=PK (l:=l) (λz=>by rw[z]at c;cases c);have a:=e _ d.1;have b:=d.2 _ c;exact Int.le_antisymm a b
theorem MD{l:Qn}{m:Int}(c:m∈l)(e:∀y∈l,y<=m):m=TU l:=by have d:=QK (l:=l) (λz=>by rw[z]at c;cases c);have a:=e _ d.1;have b:=d.2 _ c;exact Int.le_antisymm b a
noncomputable def W_(l:Qn):Qn:=[l.sum,SU l,TU l]
noncomputable def Gz(sd cl:Qn)(b:lY):Qn:=W_<|eJ sd cl b.1 b.2
noncomputable abbrev Hz(sd cl:Qn)(b:lY):Oe:=.tuple [UJ b,jZ<|Gz sd cl b]
theorem gS(h:Bx lo hi sd):rF lo hi≠[]:=λz=>by
 have:lo∈rF lo hi:=by
  refine pW (a:=[]) (by simp) ?_;clear z;induction lo generalizing hi sd with
  |nil=>cases hi with
   |nil=>trivial
   |cons b hi=>cases sd<;>exact h.elim
  |cons a lo c =>
   cases hi with
   |nil=>cases sd<;>exact h.elim
   |cons b hi =>
    cases sd with
    |nil=>exact h.elim
    |cons s sd=>exact⟨rng2_mem.mpr ⟨a9 _,h.1.2.1⟩,c h.2⟩
 rw[z]at this;cases this
theorem UU(h:Bx lo hi sd):eJ sd cl lo hi≠[]:=λz=>gS h<|v6.mp z
noncomputable def Ub(sd cl:Qn):Oe->Oe
 | .tuple [.tuple lo,.tuple hi]=>Hz sd cl (lo.map unI,hi.map unI)
 |_=>.none
theorem kE(sd cl:Qn)(b:lY):Ub sd cl (UJ b)=Hz sd cl b:=by show Hz sd cl ((b.1.map q0).map unI,(b.2.map q0).map unI)=_;rw[RJ,RJ]
def Oc:Con:=λa Q=>∃l:Qn,a=[.fz<|.list<|l.map q0]/\l≠[]/\∀o,Q (.fz<|jZ<|W_ l) o
theorem d_(F:Co K "told_of" (top 46) f fd)(T:Txt mg):FnOk P w K mg base VJ 1 f fd ["cells"] (iZ K Oc):=by have S:FnScope ["cells"] ["cells"] (kZ<|top 46):={};refine GK F S (λi A outer s H E j=>PZ<|aJ<|LZ (BZ XY (XJ (K:=K) rfl rfl) T.Xt Ci<|tZ 0)<|LZ (BZ Nj (IH (K:=K) rfl rfl) T.Zs Hn<|tZ 0)<|lZ<|BZ Oj (KH (K:=K) rfl rfl) T.Jp boot_max<|tZ 0) ?_;rintro c k ⟨l,rfl,hl,q⟩;have h0:0<l.length:=Q8.mpr hl;refine⟨l,rfl,l,rfl,h0,λm d a=>⟨l,rfl,h0,λM e b=>?_⟩⟩;rw[LD d a,MD e b];exact q _
variable (P w K mg base) in
structure CalsHo:Prop where
 Ht:Cal P w K mg base 3 "half_boxes" ["sides"] (iZ K Nc)
 Go:Cal P w K mg base 6 "cells_in" ["field","box"] (iZ K aS)
 Gp:Cal P w K mg base 1 "told_of" ["cells"] (iZ K Oc)
def Pc:Con:=λa Q=>∃sd cl:Qn,a=[.fz<|bV sd cl]/\Sd sd/\cl.length=(EZ sd).length/\∀o,Q (.ow<|.list<|(hbs sd).map<|Hz sd cl) o
theorem e_(F:Co K "halves_of" (top 45) f fd)(T:Txt mg)(C:CalsHo P w K mg base):FnOk P w K mg base VJ 7 f fd ["field"] (iZ K Pc):=by
 have S:FnScope ["field"] ["field"] (kZ<|top 45):={};refine GK F S (λt A outer s H E c=>PZ<|SK ["box"] [0] (fJ rfl<|KZ C.Ht c.m<|lZ<|MZ (wn 0) oZ)<|λ_ _ _ _=>aJ<|LZ (wv 0)<|lZ<|KZ C.Gp c.m<|lZ<|KZ C.Go c.m<|IZ 1<|tZ 0) ?_;rintro i v ⟨sd,cl,rfl,a,k,q⟩;have hl:=Jw a;refine⟨_,rfl,sd,rfl,a,λo=>⟨rZ (by rw[g0];exact A0 hl<|K1 _ _),iK (Ub sd cl) ?_ ?_⟩⟩
 .intro d hd N hN;obtain⟨b,l,rfl⟩:=M0.mp hd;have j:=Ix a.p l;rw[kE]at hN;exact⟨sd,cl,b.1,b.2,rfl,a,k,j,λo=>⟨eJ sd cl b.1 b.2,rfl,UU j,λo=>hN⟩⟩
 .have e:((hbs sd).map UJ).map (Ub sd cl)=(hbs sd).map (Hz sd cl):=by
   rw[O0];exact U1 λb _=>kE sd cl b
  rw[e];exact q _
theorem lE:∀(n:Nat) (lo hi:Int),(hi-lo).toNat=n->lo<=hi->(hl lo hi).Nodup:=by
 intro n;induction n using U8 with
 |_ n i =>
  intro lo hi e h;by_cases d:lo<hi
  .rw[xU d,w6,m9];have j:=AF _ ((lo+hi) / 2+1) hi rfl (by lia);have k:=AF _ lo ((lo+hi) / 2) rfl (by lia);refine⟨λz=>?_,i _ (X_ e d) _ _ rfl<|by lia,i _ (by lia) _ _ rfl<|by lia,λx hx y hy z=>?_⟩
   .rcases O2.mp z with z|z
    .obtain⟨a,b,c,l,m,q⟩:=j _ z;injection c with c _
     lia
    .obtain⟨a,b,c,l,m,q⟩:=k _ z;injection c with _ c;injection c with c _
     lia
   .obtain⟨a,b,c,l,m,q⟩:=j _ hx;obtain⟨F,G,t,v,B,C⟩:=k _ hy;rw[c,t]at z;injection z with z1 _
    lia
  .rw[Az d];exact P3 _ _
theorem Jx{n:Int}(h:1<=n):(FK n).Nodup:=by unfold FK;have d:(Jy n).Nodup:=(oJ _ _).nodup_iff.mpr (lE _ 0 (n-1) rfl<|by omega);refine j6.mpr<|List.Pairwise.imp_of_mem (λ{a b} e i c z=>?_) d;obtain⟨x,y,j,_⟩:=AF _ 0 (n-1) rfl (by omega) a<|strS_mem.mp e;obtain⟨k,l,m,_⟩:=AF _ 0 (n-1) rfl (G1 h) b<|strS_mem.mp i;rw[j,m]at z c;have z:(x,y)=(k,l):=z;injection z with z1 z2;exact c (by rw[z1,z2])
theorem iG{α:Type}:∀{cs:List (List α)}{e:List (List α)},e.Nodup->(∀c∈cs,c.Nodup)->(AZ e cs).Nodup
 |[],_,h,_=>h
 |c::cs,e,h,j=>by
  refine iG (cs:=cs) ?_ λd hd=>j d<|G0 _ hd;refine pX.mpr ⟨λp k=>?_,h.imp λ{a b} i x hx y hy z=>?_⟩
  .refine j6.mpr ((j c L0).imp λ{a b} i z=>i ?_);have:=List.append_cancel_left z;injection this
  .obtain⟨u,_,rfl⟩:=M0.mp hx;obtain⟨v,_,rfl⟩:=M0.mp hy;exact i (List.append_inj' z rfl).1
theorem iS{b c:List (Int×Int)}(h:bo b=bo c):b=c:=by
 unfold bo at h;injection h with h1 h2;have e:∀l:List (Int×Int),l=(l.map (·.1)).zip (l.map (·.2)):=λl=>by
  induction l with
  |nil=>rfl
  |cons a l d=>rw[Y0,Y0,A5,<-d]
 rw[e b,e c,h1,h2]
theorem Ky(h:∀c∈sd,1<=c):(hbs sd).Nodup:=by refine(oJ _ _).nodup_iff.mpr ?_;unfold hb0;refine j6.mpr<|(iG (P3 _ _) λc d=>?_).imp λ{a b} e z=>e<|iS z;obtain⟨s,i,rfl⟩:=M0.mp d;exact Jx<|h s i
theorem mE:∀{l m:Qn},l.Perm m->l.sum=m.sum:=λh=>by
 induction h with
 |nil=>rfl
 |cons x _ a=>rw[W3,W3,a]
 |swap x y l=>rw[W3,W3,W3,W3];exact Int.add_left_comm _ _ _
 |trans _ _ b c=>rw[b,c]
noncomputable def yU(lo hi a b:Int):List (Int×Int):=if a<=lo/\hi<=b then [(lo,hi)] else if h:lo<hi then yU lo ((lo+hi) / 2) a b++yU ((lo+hi) / 2+1) hi a b else []
termination_by (hi-lo).toNat
decreasing_by all_goals lia
theorem jG{lo hi a b:Int}(h:a<=lo/\hi<=b):yU lo hi a b=[(lo,hi)]:=by rw[yU,De h]
theorem mU{lo hi a b:Int}(h:¬(a<=lo/\hi<=b))(hl:lo<hi):yU lo hi a b=yU lo ((lo+hi) / 2) a b++yU ((lo+hi) / 2+1) hi a b:=by rw[yU,Ce h,dif_pos hl]
theorem ND{lo hi a b:Int}(h:¬(a<=lo/\hi<=b))(hl:¬lo<hi):yU lo hi a b=[]:=by rw[yU,Ce h,dif_neg hl]
theorem kG{p:Int->Int->Prop}(h:∀lo hi:Int,lo<=hi->(lo<hi->p lo ((lo+hi) / 2))->(lo<hi->p ((lo+hi) / 2+1) hi)->p lo hi):∀lo hi:Int,lo<=hi->p lo hi:=by
 have a:∀(n:Nat) (lo hi:Int),(hi-lo).toNat=n->lo<=hi->p lo hi:=by
  intro n;induction n using U8 with
  |_ n c=>intro lo hi e b;exact h lo hi b (λhl=>c _ (Y_ e hl) _ _ rfl<|GS<|Q1 hl)<|λhl=>c _ (X_ e hl) _ _ rfl<|TN hl
 exact λlo hi b=>a _ lo hi rfl b
theorem OD{a b:Int}:∀lo hi:Int,lo<=hi->(b<lo\/hi<a)->yU lo hi a b=[]:=by
 refine kG λlo hi i d e h=>?_;have c:¬(a<=lo/\hi<=b):=by lia
 by_cases hl:lo<hi
 .rw[mU c hl,d hl<|by lia,e hl<|by lia];rfl
 .exact ND c hl
noncomputable abbrev f_(p:Int×Int):Qn:=[p.1,p.2]
theorem lG{a b:Int}:∀lo hi:Int,lo<=hi->∀p∈yU lo hi a b,f_ p∈hl lo hi/\a<=p.1/\p.1<=p.2/\p.2<=b/\lo<=p.1/\p.2<=hi:=by
 refine kG λlo hi q t v p c=>?_;by_cases hw:a<=lo/\hi<=b
 .rw[jG hw]at c;have:p=(lo,hi):=by simpa using c
  subst this;exact⟨by rw[hl];exact L0,hw.1,q,hw.2,a9 _,a9 _⟩
 .by_cases d:lo<hi
  .rw[mU hw d]at c;rcases O2.mp c with c|c
   .obtain⟨e,i,j,k,m,l⟩:=t d p c;exact⟨by rw[xU d];exact G0 _<|K2 _ e,i,j,k,m,Q1<|V1 l<|TN d⟩
   .obtain⟨e,i,j,k,m,l⟩:=v d p c;exact⟨by rw[xU d];exact G0 _<|v8 _ e,i,j,k,by lia,l⟩
  .rw[ND hw d]at c;simp at c
noncomputable def Tl:Int->Int->List (Int×Int)->Prop
 |s,e,[]=>s=e+1
 |s,e,p::l=>p.1=s/\p.1<=p.2/\Tl (p.2+1) e l
theorem Tl.app:∀{l a:List (Int×Int)}{s m e:Int},Tl s m l->Tl (m+1) e a->Tl s e (l++a)
 |[],_,_,_,_,h,h'=>by have h:_=_:=h;subst h;exact h'
 |p::l,a,s,m,e,⟨b,c,d⟩,h'=>⟨b,c,d.app h'⟩
theorem jS{a b:Int}(t:a<=b):∀lo hi:Int,lo<=hi->lo<=b->a<=hi->Tl (max lo a) (min hi b) (yU lo hi a b):=by
 refine kG λlo hi v j k i l=>?_;by_cases hw:a<=lo/\hi<=b
 .rw[jG hw];exact⟨by show lo=max lo a;lia,v,by show hi+1=min hi b+1;lia⟩
 .by_cases c:lo<hi
  .rw[mU hw c];by_cases d:(lo+hi) / 2<a
   .rw[OD lo ((lo+hi) / 2) (by lia)<|.inr d,aQ];have:=k c (E2 d t) l;rwa [show max ((lo+hi) / 2+1) a=max lo a by lia]at this
   .by_cases e:b<(lo+hi) / 2+1
    .rw[OD ((lo+hi) / 2+1) hi (by lia)<|.inl e,Z2];have:=j c i<|Int.le_of_not_gt d;rwa [show min ((lo+hi) / 2) b=min hi b by exact Fd e i]at this
    .have m:=j c i<|UQ.1 d;have q:=k c (Int.le_of_not_gt e) l;rw[show min ((lo+hi) / 2) b=(lo+hi) / 2 by exact Int.min_eq_left<|Q1<|Int.lt_of_add_one_le<|UQ.1 e]at m;rw[show max ((lo+hi) / 2+1) a=(lo+hi) / 2+1 by omega]at q;exact m.app q
  .lia
theorem Kw{a b:Int}:∀lo hi:Int,lo<=hi->((yU lo hi a b).length:Int)<=hi-lo+1:=by
 refine kG λlo hi d e i=>?_;by_cases hw:a<=lo/\hi<=b
 .rw[jG hw];simp;exact O7<|G1 d
 .by_cases c:lo<hi
  .rw[mU hw c,R0];have:=e c;have:=i c
   lia
  .rw[ND hw c];simp;exact AX (G1 d)<|l9 _
theorem nE{a b:Int}:∀lo hi:Int,lo<=hi->(yU lo hi a b).Pairwise λp q=>p.1<q.1:=by
 refine kG λlo hi k d e=>?_;by_cases hw:a<=lo/\hi<=b
 .rw[jG hw];exact P3 ..
 .by_cases c:lo<hi
  .rw[mU hw c,Q6];refine⟨d c,e c,λp i q j=>?_⟩;have:=lG _ _ (by lia) p i;have:=lG _ _ (by lia) q j;omega
  .rw[ND hw c];exact List.Pairwise.nil
theorem Vb{a b c d:Int}(h:a<c):HT.lexLt [c,d] [a,b]=false:=by rw[HT.lexLt_cons,Ce<|b9 h];exact Ve<|Y7<|Q1 h
theorem Kx{lo hi a b:Int}(h:lo<=hi):((yU lo hi a b).map f_).Pairwise λx y=>HT.lexLt y x=false:=by rw[j6];exact(nE lo hi h).imp λh=>Vb h
noncomputable abbrev g_(n a b:Int):Oe:=.list<|(yU 0 (n-1) a b).map BK
theorem Lw(l:List (Int×Int)):l.map BK=(l.map f_).map rwD:=by rw[O0];rfl
variable (P w K mg base) in
structure CalsCv:Prop where
 Hr:Cal P w K mg base 1 "two_halves" ["stretch"] (iZ K cS)
def h_:Con:=λc Q=>∃n a b:Int,c=[.fz<|.int n,.fz<|.int a,.fz<|.int b]/\1<=n/\n<=1000/\0<=a/\a<=b/\b<n/\∀o,Q (.ow<|g_ n a b) o
theorem kS(F:Co K "cover" (top 40) f fd)(T:Txt mg)(C:CalsCv P w K mg base):FnOk P w K mg base VJ 2 f fd ["side","low","high"] (iZ K h_):=by
 have S:FnScope ["side","low","high","found","waiting","stretch"] ["side","low","high"] (kZ<|top 40):={};refine GK F S (λye A outer s H E M=>hZ (FZ 3<|kJ jK)<|hZ (FZ 4<|kJ<|lZ<|aJ<|LZ OZ<|lZ<|ZW (wn 0) oZ)<|hZ (fD PassesOwn.never (SJ Iq ZD (wx<|BW T.Qo<|tZ 4) oZ)<|hZ (FZ 5<|oA pB rfl PySem.F.slot_list_pop PySem.F.type_list_pop uu<|wn 4)<|TZ<|aK (ME<|jN (SJ XG iV (wn 1)<|wx<|MZ (wn 5) oZ)<|IB<|SJ XG iV (wx<|MZ (wn 5) oZ)<|wn 2) (TZ<|rK<|HB qK rfl PySem.F.slot_list_append PySem.F.type_list_append WJ (wn 3)<|lZ<|wv 5)<|TZ<|aK (ME<|jN (SJ XG iV (wx<|MZ (wn 5) oZ)<|wn 2)<|IB<|SJ XG iV (wn 1)<|wx<|MZ (wn 5) oZ) (TZ<|rK<|HB UG rfl PySem.F.slot_list_extend PySem.F.type_list_extend KG (wn 4)<|lZ<|KZ C.Hr M.m<|tZ 5) sJ)<|PZ<|BZ PH (gW rfl) T.Zn Mi<|tZ 3) ?_;rintro U Qd ⟨n,a,b,rfl,G,Z,a0,ab,bn,q⟩;have je:=Hx _ 0 (n-1) rfl<|G1 G;have bg:=Kw (a:=a) (b:=b) 0 (n-1)<|G1 G;refine⟨λm ρ=>∃(dn k:List (Int×Int)) (x:Jn Sl),ρ=[Zt<|.int n,Zt<|.int a,Zt<|.int b,Yt<|.list<|dn.map BK,Yt<|.list<|k.map BK,x]/\(dn++k.flatMap λp=>yU p.1 p.2 a b).Perm (yU 0 (n-1) a b)/\(∀p∈k,0<=p.1/\p.1<=p.2/\p.2<=1000)/\m=(tK k).length/\m<=1999/\(x=none\/∃d,x=Zt d),⟨_,[],[(0,n-1)],none,rfl,by simp,by simp;exact⟨G,Q1<|Y9 Z⟩,rfl,by simp[tK];omega,.inl rfl⟩,?_⟩;rintro m ρ ⟨dn,k,x,rfl,i,hw,rfl,hm,hx⟩;rcases hx with rfl|⟨xd,rfl⟩;all_goals
  refine HJ (λh=>?_)<|λh=>?_
  .refine⟨λO=>∃m',m'<(tK k).length/\_,λO h=>h,?_⟩;obtain⟨c,p,rfl⟩:∃c p,k=c++[p]:=by
    rcases G9 k with e|⟨a,b,e⟩
    .subst e;simp at h
    .exact⟨a,b,by simpa using e⟩
   have e1:((c++[p]).map BK)[((c++[p]).map BK).length-1]?=some (BK p):=by simp
   have e2:((c++[p]).map BK).dropLast=c.map BK:=by simp
   have ea:(dn++[p]).map BK=dn.map BK++[BK p]:=by rw[U2];rfl
   have eb:(c++[(p.1,(p.1+p.2) / 2),((p.1+p.2) / 2+1,p.2)]).map BK=c.map BK++[BK (p.1,(p.1+p.2) / 2),BK ((p.1+p.2) / 2+1,p.2)]:=by rw[U2];rfl
   have l:=hw p (by simp);have t:∀p∈c,0<=p.1/\p.1<=p.2/\p.2<=1000:=λx hx=>hw x (by simp[hx]);have hL:=i.length_eq;rw[R0]at hL;have ft:c.length<=(tK c).length:=Bz c;have j:=hm;rw[zF,R0]at j ⊢;have Y:=gE p.1 p.2;have R:((c++[p]).flatMap λp=>yU p.1 p.2 a b)=(c.flatMap λp=>yU p.1 p.2 a b)++yU p.1 p.2 a b:=by simp
   rw[R]at i;refine⟨_,e1,?_⟩;rw[e2];refine⟨_,rfl,HJ (λv=>⟨_,rfl,HJ (λy=>?_)<|λy=>?_⟩)<|λv=>?_⟩
   .have v:a<=p.1:=Qe v;have y:p.2<=b:=Qe y;rw[jG ⟨v,y⟩]at i;refine⟨by rw[g0];exact W0 (show dn.length<=1999 by omega)<|by decide,?_⟩;refine⟨(tK c).length,A9 Y,dn++[p],c,_,by rw[ea];rfl,?_,t,rfl,i5 j,.inr ⟨_,rfl⟩⟩;refine List.Perm.trans ?_ i;rw[u3];exact List.Perm.append_left _ m8
   all_goals
    have ni:¬(a<=p.1/\p.2<=b):=by first|exact λz=>y (Je z.2)|exact λz=>v<|Je z.1
    refine⟨_,rfl,HJ (λI=>⟨_,rfl,HJ (λL=>?_)<|λL=>?_⟩)<|λI=>?_⟩
    .have I:p.1<=b:=Qe I;have L:a<=p.2:=Qe L;have B:p.1<p.2:=by omega
     rw[mU ni B]at i;rw[xU B]at j ⊢;refine⟨p.1,p.2,rfl,l.1,E2 l.1 l.2.1,E2 (Q1 B) (E2 l.2.2<|by decide),E2 l.2.2<|by decide,λo=>?_⟩;refine⟨by rw[g0];exact A0 (show c.length+2<=3000 by omega)<|by decide,?_⟩;simp only[L1,R0]at j ⊢;have epl:(tK<|c++[(p.1,(p.1+p.2) / 2),((p.1+p.2) / 2+1,p.2)]).length=(hl ((p.1+p.2) / 2+1) p.2).length+(hl p.1<|(p.1+p.2) / 2).length+(tK c).length:=by simp[tK];lia
     refine⟨(tK<|c++[(p.1,(p.1+p.2) / 2),((p.1+p.2) / 2+1,p.2)]).length,by omega,dn,c++[(p.1,(p.1+p.2) / 2),((p.1+p.2) / 2+1,p.2)],_,by rw[eb];rfl,?_,?_,rfl,by omega,.inr ⟨_,rfl⟩⟩
     .simpa using i
     .intro x hx;simp only[O2,E1,O8,or_false]at hx;rcases hx with hx|rfl|rfl
      .exact t x hx
      .exact⟨l.1,by show p.1<=(p.1+p.2) / 2;exact GS<|Q1 B,by show (p.1+p.2) / 2<=1000;omega⟩
      .exact⟨by show 0<=(p.1+p.2) / 2+1;omega,by show (p.1+p.2) / 2+1<=p.2;exact TN B,by show p.2<=1000;exact l.2.2⟩
    all_goals
     have no:b<p.1\/p.2<a:=by
      first
      |exact .inr<|J9.mp λz=>L<|Je z
      |exact .inl<|J9.mp λz=>I<|Je z
     rw[OD _ _ l.2.1 no,Z2]at i;exact⟨(tK c).length,A9 Y,dn,c,_,rfl,i,t,rfl,i5 j,.inr ⟨_,rfl⟩⟩
  .have e:k=[]:=by
    cases k with
    |nil=>rfl
    |cons a b=>exact absurd (Je<|by simp) h
   subst e;have i:dn.Perm (yU 0 (n-1) a b):=by simpa using i
   have hdl:=i.length_eq;refine⟨dn.map f_,Lw dn,by rw[g0];exact A0 (show _<=3000 by omega)<|by decide,λr M=>?_,λue r1 r2=>?_⟩
   .obtain⟨p,_,rfl⟩:=M0.mp M;simp
   .have e:ue=(yU 0 (n-1) a b).map f_:=SG.sorted_uniq (λa b=>SG.lex_eq) (r1.trans<|i.map _) r2<|Kx<|G1 G;subst e;have:=q;rw[<-Lw];exact q _
theorem Mw:∀{p:List α}{cs:List (List α)},nz p cs->p.length=cs.length
 |[],[],_=>rfl
 |_::_,_::_,h=>by rw[L1,L1,Mw h.2]
 |[],_::_,h=>h.elim
 |_::_,[],h=>h.elim
noncomputable def FM(q:Int×Int×Int):List (Int×Int):=yU 0 (q.1-1) q.2.1 q.2.2
noncomputable def Nw(sd lo hi:Qn):List (List<|Int×Int):=(sd.zip<|lo.zip hi).map FM
noncomputable def i_(sd lo hi:Qn):List lY:=(AZ [[]]<|Nw sd lo hi).map bo
noncomputable def Iz(sd lo hi:Qn):List lY:=Iy JY<|i_ sd lo hi
theorem Lx:∀{sd lo hi:Qn},Bx lo hi sd->∀q∈sd.zip (lo.zip hi),q.1∈sd/\0<=q.2.1/\q.2.1<=q.2.2/\q.2.2<q.1
 |[],[],[],_,q,h=>by simp at h
 |s::sd,a::lo,b::hi,h,q,c=>by
  have c:q∈(s,a,b)::sd.zip (lo.zip hi):=c;rcases E1.mp c with rfl|c
  .exact⟨L0,h.1.1,h.1.2.1,h.1.2.2⟩
  .have:=Lx h.2 q c;exact⟨G0 _ this.1,this.2⟩
 |_::_,[],[],h,_,_=>h.elim
 |z,[],_::_,h,_,_=>by cases z<;>exact h.elim
 |z,_::_,[],h,_,_=>by cases z<;>exact h.elim
 |[],_::_,_::_,h,_,_=>h.elim
theorem Mx{q:Int×Int×Int}(h0:0<=q.2.1)(c:q.2.1<=q.2.2)(d:q.2.2<q.1):FM q≠[]/\((FM q).length:Int)<=q.1/\Tl q.2.1 q.2.2 (FM q):=by have t:=jS c 0 (q.1-1) (E2 h0<|E2 c<|Q7 d) (E2 h0 c)<|E2 c<|Q7 d;rw[show max 0 q.2.1=q.2.1 by exact Int.max_eq_right h0,show min (q.1-1) q.2.2=q.2.2 by exact IQ<|Q7 d]at t;have l:=Kw (a:=q.2.1) (b:=q.2.2) 0 (q.1-1)<|G1<|V1 h0<|V1 c d;refine⟨λz=>?_,by unfold FM;omega,t⟩;have t:Tl q.2.1 q.2.2 (FM q):=t;rw[z]at t;have t:q.2.1=q.2.2+1:=t;exact Int.lt_irrefl _<|V1 c<|L5 t.symm
theorem PD:∀{sd lo hi:Qn},Bx lo hi sd->(yJ (Nw sd lo hi):Int)<=prodI sd
 |[],[],[],_=>by show (1:Int)<=1;decide
 |s::sd,a::lo,b::hi,h=>by
  have d:=PD h.2;obtain⟨_,l,_⟩:=Mx (q:=(s,a,b)) h.1.1 h.1.2.1 h.1.2.2;have e:(yJ (Nw (s::sd) (a::lo) (b::hi)):Int)=((FM (s,a,b)).length:Int)*(yJ (Nw sd lo hi):Int):=by show (((FM (s,a,b)).length*yJ (Nw sd lo hi):Nat):Int)=_;exact K7 _ _
  rw[e];show _<=s*prodI sd;have c:=h.1;exact X7 l d (X4 _)<|Q1<|V1 c.1<|V1 c.2.1 c.2.2
 |_::_,[],[],h=>h.elim
 |z,[],_::_,h=>by cases z<;>exact h.elim
 |z,_::_,[],h=>by cases z<;>exact h.elim
 |[],_::_,_::_,h=>h.elim
theorem oE(h:Bx lo hi sd):∀c∈Nw sd lo hi,c≠[]:=λc a=>by obtain⟨q,b,rfl⟩:=M0.mp a;obtain⟨_,h0,d,e⟩:=Lx h q b;exact(Mx h0 d e).1
theorem QN(h:Bx lo hi sd):(Nw sd lo hi).length=sd.length:=by have hl:=OK h;unfold Nw;rw[g0,P2,P2];exact o5<|u6 (P0 hl.1.symm)<|P0 hl.2.symm
theorem GM(a:Sd sd)(h:Bx lo hi sd):(i_ sd lo hi).length<=120:=by have b:=PD h;have c:=a.m;unfold i_;rw[g0,dJ];simp;exact c8.1<|E2 b c
noncomputable def ae:Oe->Oe
 | .tuple [.int s,.int a,.int b]=>g_ s a b
 |_=>.none
def Qc:Con:=λa Q=>∃sd lo hi:Qn,a=[.fz<|jZ sd,.fz<|UJ (lo,hi)]/\Sd sd/\Bx lo hi sd/\∀o,Q (.ow<|.list<|(Iz sd lo hi).map UJ) o
noncomputable def hit:List (Int×Int)->Qn->Bool
 |p::a,x::b=>(decide (p.1<=x)&&decide (x<=p.2))&&hit a b
 |_,_=>true
theorem Ow:∀(a:List (Int×Int)) (b:Qn),wU (bo a).1 b (bo a).2=hit a b
 |[],b=>by simp[bo,wU,hit]
 |p::a,[]=>by simp[bo,wU,hit]
 |p::a,x::b=>by show ((decide (p.1<=x)&&decide (x<=p.2))&&wU (bo a).1 b (bo a).2)=_;rw[Ow a b];rfl
theorem Jz:∀{p:List (Int×Int)}{a:Qn} (y:Int×Int) (x:Int),p.length=a.length->hit (p++[y]) (a++[x])=(hit p a&&(decide (y.1<=x)&&decide (x<=y.2)))
 |[],[],y,x,_=>by simp[hit]
 |q::p,z::a,y,x,h=>by show ((decide (q.1<=z)&&decide (z<=q.2))&&hit (p++[y]) (a++[x]))=(((decide (q.1<=z)&&decide (z<=q.2))&&hit p a)&&_);rw[Jz y x<|by simpa using h];simp only[Bool.and_assoc]
 |[],_::_,_,_,h=>by simp at h
 |_::_,[],_,_,h=>by simp at h
noncomputable def Ly:List (List<|Int×Int)->Qn->Nat
 |c::cs,x::xs=>c.countP (λp=>decide (p.1<=x)&&decide (x<=p.2))*Ly cs xs
 |_,_=>1
theorem Kz{b:Qn}(x:Int)(c:List (Int×Int)):∀(a:List (List<|Int×Int)),(∀p∈a,p.length=b.length) -> (a.flatMap λp=>c.map λy=>p++[y]).countP (λd=>hit d<|b++[x])=a.countP (λd=>hit d b)*c.countP (λp=>decide (p.1<=x)&&decide (x<=p.2))
 |[],_=>by simp
 |p::a,h=>by
  have i:=Kz x c a λq j=>h q<|G0 _ j;have k:=h p L0;rw[V2,List.countP_append,i,i7,o8,B8,List.countP_map];congr 1;have e:((λd=>hit d<|b++[x])∘λy=>p++[y])=λy:Int×Int=>hit p b&&(decide (y.1<=x)&&decide (x<=y.2)):=by funext y;exact Jz y x k
  rw[e];cases hit p b with
  |true=>simp
  |false=>simp
theorem Lz:∀(cs a:List (List<|Int×Int)) (d b:Qn),(∀p∈a,p.length=d.length)->b.length=cs.length->(AZ a cs).countP (λi=>hit i<|d++b)=a.countP (λi=>hit i d)*Ly cs b
 |[],a,d,b,_,hl=>by have e:b=[]:=List.length_eq_zero_iff.mp hl;subst e;rw[Z2];show a.countP _=_*1;rw[Nat.mul_one]
 |c::cs,a,d,[],_,hl=>by simp at hl
 |c::cs,a,d,x::b,h,hl=>by
  have e:d++x::b=(d++[x])++b:=by simp
  rw[e];show (AZ (a.flatMap λp=>c.map λy=>p++[y]) cs).countP _=_*(c.countP _*Ly cs b);rw[Lz cs _ (d++[x]) b (λq j=>?_) (by simpa using hl),Kz x c a h,S8];obtain⟨p,k,j⟩:=u5.mp j;obtain⟨y,_,rfl⟩:=M0.mp j;rw[R0,R0,h p k];rfl
theorem Tl.le:∀{l:List (Int×Int)}{s e:Int},Tl s e l->s<=e+1
 |[],s,e,h=>by have h:s=e+1:=h;exact L5 h
 |p::l,s,e,h=>by
  have a:=Tl.le h.2.2;have b:=h.1;have c:=h.2.1
  lia
theorem Tl.cnt(x:Int):∀{l:List (Int×Int)}{s e:Int},Tl s e l->l.countP (λp=>decide (p.1<=x)&&decide (x<=p.2))=if s<=x/\x<=e then 1 else 0
 |[],s,e,h=>by have h:s=e+1:=h;rw[Ce<|by lia];rfl
 |p::l,s,e,h=>by
  have c:=Tl.cnt x h.2.2;have d:=Tl.le h.2.2;have i:=h.1;have j:=h.2.1;rw[i7,c];by_cases a:p.1<=x/\x<=p.2
  .rw[Ce<|by lia,De (by rw[Je a.1,Je a.2];rfl),De<|⟨E2 (L5 i.symm) a.1,E2 a.2<|u8 d⟩]
  .rw[Ce<|show ¬(decide (p.1<=x)&&decide (x<=p.2))=true from λz=>a<|by simpa using z];by_cases b:p.2+1<=x/\x<=e
   .rw[De b,De<|by lia]
   .rw[Ce b,Ce<|by lia]
theorem Pw:∀{sd lo hi xs:Qn},Bx lo hi sd->xs.length=sd.length->Ly (Nw sd lo hi) xs=if wU lo xs hi=true then 1 else 0
 |[],[],[],[],_,_=>by simp[Nw,Ly,wU]
 |s::sd,a::lo,b::hi,x::xs,h,hl=>by
  have e:=Pw (xs:=xs) h.2 (by simpa using hl);have d:=h.1;obtain⟨_,_,t⟩:=Mx (q:=(s,a,b)) d.1 d.2.1 d.2.2;have i:=Tl.cnt x t;show (FM (s,a,b)).countP _*Ly (Nw sd lo hi) xs=if ((decide (a<=x)&&decide (x<=b))&&wU lo xs hi)=true then 1 else 0;rw[i,e];simp only;by_cases c:a<=x/\x<=b
  .rw[De c,Je c.1,Je c.2,r8];rfl
  .rw[Ce c,g9,Ce];intro z;rw[A4,A4,decide_eq_true_eq,decide_eq_true_eq]at z;exact c z.1
 |[],[],[],_::_,_,h=>by simp at h
 |_::_,_::_,_::_,[],_,h=>by simp at h
 |_::_,[],[],_,h,_=>h.elim
 |z,[],_::_,_,h,_=>by cases z<;>exact h.elim
 |z,_::_,[],_,h,_=>by cases z<;>exact h.elim
 |[],_::_,_::_,_,h,_=>h.elim
theorem HM{a:Qn}(h:Bx lo hi sd)(hl:a.length=sd.length):(Iz sd lo hi).countP (λb=>wU b.1 a b.2)=if wU lo a hi=true then 1 else 0:=by
 unfold Iz;rw[(oJ _ _).countP_eq];unfold i_;rw[List.countP_map];have e:((λb:lY=>wU b.1 a b.2)∘bo)=λc=>hit c ([]++a):=by funext c;exact Ow c a
 rw[e,Lz _ [[]] [] a (by simp) (by rw[QN h];exact hl),Pw h hl];show 1*_=_;rw[r8]
theorem mG(f g:β->List α):∀bs:List β,(bs.flatMap λb=>f b++g b).Perm (bs.flatMap f++bs.flatMap g)
 |[]=>.refl _
 |b::bs=>by have a:=mG f g bs;rw[V2,V2,V2];have c:(f b++g b++bs.flatMap λb=>f b++g b).Perm (f b++g b++(bs.flatMap f++bs.flatMap g)):=a.append_left _;refine c.trans ?_;rw[u3,u3];refine List.Perm.append_left _ ?_;rw[<-u3,<-u3];exact m8.append_right _
theorem Mz{p:α->Bool}{q:β->α->Bool}(bs:List β):∀{l:List α},(∀x∈l,bs.countP (λb=>q b x)=if p x=true then 1 else 0)->(l.filter p).Perm (bs.flatMap λb=>l.filter<|q b)
 |[],_=>by
  have e:(bs.flatMap λb=>([]:List α).filter<|q b)=[]:=by simp
  rw[e];exact .refl _
 |x::l,h=>by
  have a:=Mz bs (l:=l) λy hy=>h y<|G0 _ hy;have hx:=h x L0;have e:(bs.flatMap λb=>(x::l).filter<|q b)=bs.flatMap λb=>(if q b x=true then [x] else [])++l.filter (q b):=by congr 1;funext b;rw[S9];split<;>rfl
  rw[e];refine List.Perm.trans ?_ (mG _ _ bs).symm;have c:(bs.flatMap λb=>if q b x=true then [x] else [])=B1 (bs.countP λb=>q b x) x:=by
   clear h a hx e;induction bs with
   |nil=>rfl
   |cons b bs a =>
    rw[V2,i7,a];by_cases z:q b x=true
    .rw[De z,De z,U3];rfl
    .rw[Ce z,Ce z];rfl
  rw[c,hx,S9];by_cases z:p x=true
  .rw[De z,De z];exact a.cons x
  .rw[Ce z,Ce z];exact a
theorem pE(h:Bx lo hi sd){b:lY}(e:b∈Iz sd lo hi):b∈hbs sd:=by
 unfold Iz at e;rw[(oJ _ _).mem_iff]at e;obtain⟨c,k,rfl⟩:=M0.mp e;refine hbs_mem.mpr ⟨c,?_,rfl⟩;have i:∀{sd lo hi:Qn}{c:List (Int×Int)},Bx lo hi sd->nz c (Nw sd lo hi)->nz c (sd.map FK):=by
  intro sd;induction sd with
  |nil =>
   intro lo hi c h d;cases c with
   |nil=>trivial
   |cons=>cases lo<;>cases hi<;>first|exact h.elim|exact d.elim
  |cons s sd l =>
   intro lo hi c h d;cases lo with
   |nil=>cases hi<;>exact h.elim
   |cons a lo =>
    cases hi with
    |nil=>exact h.elim
    |cons b hi =>
     cases c with
     |nil=>exact d.elim
     |cons p c=>have j:=h.1;have m:p∈yU 0 (s-1) a b:=d.1;exact⟨DM (lG _ _ (E2 j.1<|E2 j.2.1<|Q7 j.2.2) p m).1,l h.2 d.2⟩
 exact i h<|nJ k
theorem RN(h:Bx lo hi sd):Iz sd lo hi≠[]:=λz=>by have b:=HV<|oE h;have a:=Te E5 z;unfold Iz at a;rw[(oJ _ _).length_eq]at a;unfold i_ at a;rw[g0,dJ]at a;simp at a;exact T2 _<|B0 b<|P0 a
theorem IM(d:∀c∈sd,1<=c)(h:Bx lo hi sd):(eJ sd cl lo hi).Perm ((Iz sd lo hi).flatMap λb=>eJ sd cl b.1 b.2):=by
 have e:((Iz sd lo hi).flatMap λb=>eJ sd cl b.1 b.2)=((Iz sd lo hi).flatMap λb=>(EZ sd).filter λp=>wU b.1 p b.2).map (OE sd cl):=by
  rw[M8];have a:∀l:List lY,(∀b∈l,b∈hbs sd)->(l.flatMap λb=>eJ sd cl b.1 b.2)=l.flatMap λb=>((EZ sd).filter λp=>wU b.1 p b.2).map (OE sd cl):=λl=>by
   induction l with
   |nil=>intro _;rfl
   |cons b l i=>intro hl;rw[V2,V2,i λc j=>hl c<|G0 _ j];rw[Gx<|Ix d<|hl b L0];rfl
  exact a _ λb k=>pE h k
 rw[e];unfold eJ;refine List.Perm.map _ ?_;rw[<-Gx h];exact Mz _ λx hx=>HM h<|EY<|mW hx
theorem qE{l:Qn}{bs:List lY}{f:lY->Qn}(h:l.Perm (bs.flatMap f))(c:bs≠[])(hf:∀b∈bs,f b≠[]):W_ l=[(bs.map λb=>(f b).sum).sum,SU<|bs.map λb=>SU<|f b,TU<|bs.map λb=>TU<|f b]:=by
 unfold W_;have m:l.sum=(bs.map λb=>(f b).sum).sum:=by
  rw[mE h];clear h c hf;induction bs with
  |nil=>rfl
  |cons b bs q=>rw[V2,List.sum_append,q];rfl
 have j:(bs.map λb=>SU<|f b)≠[]:=λz=>c<|v6.mp z;have k:(bs.map λb=>TU<|f b)≠[]:=λz=>c<|v6.mp z;have t:SU (bs.map λb=>SU<|f b)=SU l:=by
  refine LD (h.mem_iff.mpr ?_) λy hy=>?_
  .obtain⟨b,a,e⟩:=M0.mp (PK j).1;rw[<-e];exact u5.mpr ⟨b,a,(PK<|hf b a).1⟩
  .obtain⟨b,a,hy⟩:=u5.mp<|h.mem_iff.mp hy;have d:=(PK j).2 _<|M0.mpr ⟨b,a,rfl⟩;have i:=(PK<|hf b a).2 y hy;exact E2 d i
 have v:TU (bs.map λb=>TU<|f b)=TU l:=by
  refine MD (h.mem_iff.mpr ?_) λy hy=>?_
  .obtain⟨b,a,e⟩:=M0.mp (QK k).1;rw[<-e];exact u5.mpr ⟨b,a,(QK<|hf b a).1⟩
  .obtain⟨b,a,hy⟩:=u5.mp<|h.mem_iff.mp hy;have d:=(QK k).2 _<|M0.mpr ⟨b,a,rfl⟩;have i:=(QK<|hf b a).2 y hy;exact E2 i d
 rw[m,t,v]
theorem mS(d:∀c∈sd,1<=c):(hbs sd).Pairwise λa b=>JY a b=true:=by
 have e:(hbs sd).Pairwise λa b=>JY b a=false:=KD ltB_wk _;refine(e.and<|Ky d).imp λ{a b} ⟨x,y⟩=>?_;cases z:JY a b with
 |true=>rfl
 |false=>exact absurd (XB z x) y
theorem j_{L:List lY}(hl:L.Pairwise λa b=>JY a b=true){t:Nat}{b:lY}(v:L[t]?=some b){m:Nat}{c:lY}(x:L[m]?=some c):JY c b=decide (m<t):=by
 obtain⟨i,e⟩:=Y1.mp v;obtain⟨j,d⟩:=Y1.mp x;have k:=Q4.mp hl;by_cases q:m<t
 .rw[Je q,<-e,<-d];exact k m t j i q
 .rw[Ve q];by_cases y:m=t
  .subst y;rw[e]at d;rw[<-d];exact ltB_wk.irr b
  .have l:=k t m i j (by lia);rw[e,d]at l;cases B:JY c b with
   |false=>rfl
   |true=>have:=ltB_wk.tr _ _ _ l B;rw[ltB_wk.irr]at this;cases this
def Sc:Con:=λa Q=>∃(sd cl:Qn) (b:lY),a=[.fz<|.list<|(hbs sd).map<|Hz sd cl,.fz<|.tuple [UJ b]]/\Sd sd/\b∈hbs sd/\∀o,Q (.fz<|Hz sd cl b) o
theorem k_(F:Co K "entry_at" (top 10) f fd)(T:Txt mg):FnOk P w K mg base VJ 1 f fd ["table","key"] (iZ K Sc):=by
 have S:FnScope ["table","key","low","high","middle"] ["table","key"] (kZ<|top 10):={};refine GK F S (λye A outer s H E hr=>hZ (FZ 2 OZ)<|hZ (FZ 3<|ZW (wx<|BW T.Qo<|tZ 0) oZ)<|hZ (fD PassesOwn.never (SJ oU fV (wn 2)<|wn 3)<|hZ (FZ 4<|w_bin tW qW (wx<|bK (wn 2)<|wn 3) oZ)<|TZ<|aK (SJ AR (zR<|MB hr) (wx<|MZ (wn 0)<|wn 4)<|wn 1) (TZ<|FZ 2<|bK (wn 4) oZ)<|TZ<|Fj (i:=3) S.nd rfl (Or.inl rfl)<|wn 4)<|PZ<|MZ (wn 0)<|wn 2) ?_;rintro O Qd ⟨sd,cl,b,rfl,R,hb,q⟩;have hn:=Jw R;obtain⟨t,y,U⟩:=O6.mp hb;have l:(hbs sd)[t]?=some b:=by rw[J0 y,U]
 have Y:=mS R.p;generalize hbs sd=L at hn y U l Y ⊢;have C:∀{m:Nat},m<L.length->∃c,L[m]?=some c/\lV (L.map<|Hz sd cl) (m:Int)=some (Hz sd cl c):=λ{m} Z=>⟨L[m],J0 Z,rW<|by rw[S1,J0 Z];rfl⟩;have je:(L.map<|Hz sd cl).length=L.length:=g0 _;with_reducible refine FJ (λρ=>ρ=[Zt<|.list<|L.map<|Hz sd cl,Zt<|.tuple [UJ b],Zt<|.int 0,none,none]) ?_ ?_
 .intro N hN;exact hN _ rfl
 rintro _ rfl;with_reducible refine FJ (λρ=>ρ=[Zt<|.list<|L.map<|Hz sd cl,Zt<|.tuple [UJ b],Zt<|.int 0,Zt<|.int<|(L.length:Int)-1,none]) ?_ ?_
 .intro N hN;rw[<-je]at hN;exact hN _ rfl
 rintro _ rfl;with_reducible refine FJ (λρ=>∃j:Jn Sl,ρ=[Zt<|.list<|L.map<|Hz sd cl,Zt<|.tuple [UJ b],Zt<|.int (t:Nat),Zt<|.int (t:Nat),j]) ?_ ?_
 .intro N hN;refine⟨λm ρ=>∃(lo hi:Nat) (j:Jn Sl),(j=none\/∃d,j=Zt d)/\lo<=t/\t<=hi/\hi<L.length/\m=hi-lo/\ρ=[Zt<|.list<|L.map<|Hz sd cl,Zt<|.tuple [UJ b],Zt<|.int (lo:Nat),Zt<|.int (hi:Nat),j],⟨L.length-1,0,L.length-1,none,.inl rfl,j4 _,W1 y,K6 (zQ y)<|S3 _,rfl,?_⟩,?_⟩
  .rw[show ((L.length-1:Nat):Int)=(L.length:Int)-1 by exact Int.natCast_sub<|i5 y];rfl
  rintro m ρ ⟨lo,hi,j,I,h1,h2,h3,rfl,rfl⟩;refine HJ (λh=>?_)<|λh=>?_
  .have h:(lo:Int)<(hi:Int):=Qe h;refine⟨λρ=>∃(a v:Nat) (d:Oe),v-a<hi-lo/\a<=t/\t<=v/\v<L.length/\ρ=[Zt<|.list<|L.map<|Hz sd cl,Zt<|.tuple [UJ b],Zt<|.int (a:Nat),Zt<|.int (v:Nat),Zt d],?_,?_⟩
   .rintro ρ' ⟨a,v,d,k1,k2,k3,k4,rfl⟩;exact⟨v-a,k1,a,v,Zt d,.inr ⟨d,rfl⟩,k2,k3,k4,rfl,rfl⟩
   have em:((lo:Int)+(hi:Int)) / 2=(((lo+hi) / 2:Nat):Int):=rfl;have G:(lo+hi) / 2<L.length:=by lia
   obtain⟨c,B,x⟩:=C G;have k:=j_ Y l B;with_reducible refine FJ (λρ=>ρ=[Zt<|.list<|L.map<|Hz sd cl,Zt<|.tuple [UJ b],Zt<|.int (lo:Nat),Zt<|.int (hi:Nat),Zt<|.int (((lo+hi) / 2:Nat):Int)]) ?_ ?_
   .intro N2 M;rw[<-em]at M;rcases I with rfl|⟨d,rfl⟩
    .exact⟨⟨by decide,by decide⟩,M _ rfl⟩
    .exact⟨⟨by decide,by decide⟩,M _ rfl⟩
   rintro _ rfl;refine⟨_,x,c,b,.inr ⟨_,rfl,rfl⟩,?_⟩;refine HJ (λe=>?_)<|λe=>?_
   .have e:JY c b=true:=e;rw[k]at e;have e:=Qe e;exact⟨(lo+hi) / 2+1,hi,_,yd<|E8.1 h,by exact e,h2,h3,by rw[show (((lo+hi) / 2+1:Nat):Int)=(((lo+hi) / 2:Nat):Int)+1 by rfl];rfl⟩
   .have e:¬JY c b=true:=e;rw[k]at e;have e:¬(lo+hi) / 2<t:=λz=>e<|Je z;exact⟨lo,(lo+hi) / 2,_,wd<|E8.1 h,h1,A1 e,by omega,rfl⟩
  .have h:¬(lo:Int)<(hi:Int):=λz=>h<|Je z;have e1:lo=t:=by lia
   have e2:hi=t:=by lia
   subst e1;subst e2;exact hN _ ⟨j,rfl⟩
 rintro _ ⟨j,rfl⟩;obtain⟨c,B,x⟩:=C y;have ec:c=b:=by rw[l]at B;injection B with B;exact B.symm
 subst ec;exact⟨_,x,q _⟩
noncomputable def f30:Oe->Oe
 | .tuple [a,_,_]=>a
 |_=>.none
noncomputable def f31:Oe->Oe
 | .tuple [_,b,_]=>b
 |_=>.none
noncomputable def f32:Oe->Oe
 | .tuple [_,_,c]=>c
 |_=>.none
noncomputable def Wb(sd cl:Qn):Oe->Oe
 | .tuple [.tuple p,.tuple q]=>jZ<|Gz sd cl (p.map unI,q.map unI)
 |_=>.none
theorem rE(sd cl:Qn)(b:lY):Wb sd cl (UJ b)=jZ (Gz sd cl b):=by show jZ (Gz sd cl ((b.1.map q0).map unI,(b.2.map q0).map unI))=_;rw[RJ,RJ]
def Tc:Con:=λb Q=>∃a:List (Int×Int×Int),b=[.fz<|.list<|a.map λe=>jZ [e.1,e.2.1,e.2.2]]/\a≠[]/\a.length<=1000/\∀o,Q (.fz<|jZ [(a.map λe=>e.1).sum,SU<|a.map λe=>e.2.1,TU<|a.map λe=>e.2.2]) o
theorem l_(F:Co K "put_together" (top 47) f fd)(T:Txt mg):FnOk P w K mg base VJ 1 f fd ["parts"] (iZ K Tc):=by
 have S:FnScope ["parts","total"] ["parts"] (kZ<|top 47):={};refine GK F S (λB A outer s H E C=>hZ (FZ 1<|BZ XY (XJ (K:=K) rfl rfl) T.Xt Ci<|lZ<|SK ["part"] [] (fJ rfl<|wv 0)<|λ_ _ _ _=>MZ (wn 0) oZ)<|PZ<|aJ<|LZ (wv 1)<|LZ (BZ Nj (IH (K:=K) rfl rfl) T.Zs Hn<|lZ<|SK ["part"] [] (fJ rfl<|wv 0)<|λ_ _ _ _=>MZ (wn 0) oZ)<|lZ<|BZ Oj (KH (K:=K) rfl rfl) T.Jp boot_max<|lZ<|SK ["part"] [] (fJ rfl<|wv 0)<|λ_ _ _ _=>MZ (wn 0) oZ) ?_;rintro i G ⟨a,rfl,j,hl,q⟩;have h0:0<a.length:=Q8.mpr j;have k:(a.map λe=>jZ [e.1,e.2.1,e.2.2]).map f30=(a.map λe=>e.1).map q0:=by rw[O0,O0];rfl
 have l:(a.map λe=>jZ [e.1,e.2.1,e.2.2]).map f31=(a.map λe=>e.2.1).map q0:=by rw[O0,O0];rfl
 have t:(a.map λe=>jZ [e.1,e.2.1,e.2.2]).map f32=(a.map λe=>e.2.2).map q0:=by rw[O0,O0];rfl
 with_reducible refine FJ (λρ=>ρ=[Zt<|.list<|a.map λe=>jZ [e.1,e.2.1,e.2.2],Zt<|.int (a.map λe=>e.1).sum]) ?_ ?_
 .intro N hN;refine⟨rZ (by rw[g0];omega),iK f30 ?_ ?_⟩
  .intro d hd I v;obtain⟨e,_,rfl⟩:=M0.mp hd;exact⟨_,rfl,v⟩
  rw[k];exact⟨_,rfl,hN _ rfl⟩
 rintro _ rfl;refine⟨rZ (by rw[g0];omega),iK f31 ?_ ?_⟩
 .intro d hd N hN;obtain⟨e,_,rfl⟩:=M0.mp hd;exact⟨_,rfl,hN⟩
 rw[l];refine⟨a.map λe=>e.2.1,rfl,by rw[g0];exact h0,λm x b=>?_⟩;refine⟨rZ (by rw[g0];omega),iK f32 ?_ ?_⟩
 .intro d hd N hN;obtain⟨e,_,rfl⟩:=M0.mp hd;exact⟨_,rfl,hN⟩
 rw[t];refine⟨a.map λe=>e.2.2,rfl,by rw[g0];exact h0,λM y c=>?_⟩;rw[LD x b,MD y c];exact q _
variable (P w K mg base) in
structure CalsBh:Prop where
 Gr:Cal P w K mg base 3 "box_cover" ["sides","box"] (iZ K Qc)
 Fo:Cal P w K mg base 1 "entry_at" ["table","key"] (iZ K Sc)
 Fp:Cal P w K mg base 1 "put_together" ["parts"] (iZ K Tc)
def Uc:Con:=λa Q=>∃sd cl lo hi:Qn,a=[.fz<|jZ sd,.fz<|.list<|(hbs sd).map<|Hz sd cl,.fz<|UJ (lo,hi)]/\Sd sd/\Bx lo hi sd/\∀o,Q (.fz<|jZ<|Gz sd cl (lo,hi)) o
theorem m_(F:Co K "by_halves" (top 49) f fd)(T:Txt mg)(C:CalsBh P w K mg base):FnOk P w K mg base VJ 4 f fd ["sides","table","box"] (iZ K Uc):=by
 have S:FnScope ["sides","table","box"] ["sides","table","box"] (kZ<|top 49):={};refine GK F S (λx A outer s H E i=>PZ<|KZ C.Fp i.m<|lZ<|SK ["piece"] [1] (fJ rfl<|KZ C.Gr i.m<|IZ 0<|tZ 2)<|λ_ _ _ _=>MZ (wx<|KZ C.Fo i.m<|IZ 1<|lZ<|aJ<|lZ<|wv 0) oZ) ?_;rintro k l ⟨sd,cl,lo,hi,rfl,c,a,q⟩;have t:(Iz sd lo hi).length<=120:=by unfold Iz;rw[(oJ _ _).length_eq];exact GM c a
 refine⟨sd,lo,hi,rfl,c,a,λo=>⟨rZ (by rw[g0];exact A0 t<|K1 _ _),iK (Wb sd cl) ?_ ?_⟩⟩
 .intro d hd N hN;obtain⟨b,j,rfl⟩:=M0.mp hd;rw[rE]at hN;exact⟨sd,cl,b,rfl,c,pE a j,λo=>⟨_,rfl,hN⟩⟩
 have e:((Iz sd lo hi).map UJ).map (Wb sd cl)=((Iz sd lo hi).map λb=>((eJ sd cl b.1 b.2).sum,SU<|eJ sd cl b.1 b.2,TU<|eJ sd cl b.1 b.2)).map λe=>jZ [e.1,e.2.1,e.2.2]:=by rw[O0,O0];exact U1 λb _=>rE sd cl b
 rw[e];refine⟨_,rfl,λz=>RN a<|v6.mp z,by rw[g0];lia,λo=>?_⟩;have h:=qE (f:=λb=>eJ sd cl b.1 b.2) (IM (cl:=cl) c.p a) (RN a) λb j=>UU<|Ix c.p<|pE a j;unfold Gz at q;rw[h]at q;have v:∀o,l (.fz<|jZ [(((Iz sd lo hi).map λb=>((eJ sd cl b.1 b.2).sum,SU<|eJ sd cl b.1 b.2,TU<|eJ sd cl b.1 b.2)).map λe=>e.1).sum,SU<|((Iz sd lo hi).map λb=>((eJ sd cl b.1 b.2).sum,SU<|eJ sd cl b.1 b.2,TU<|eJ sd cl b.1 b.2)).map λe=>e.2.1,TU<|((Iz sd lo hi).map λb=>((eJ sd cl b.1 b.2).sum,SU<|eJ sd cl b.1 b.2,TU<|eJ sd cl b.1 b.2)).map λe=>e.2.2]) o:=λo=>by rw[O0,O0,O0];exact q o
 exact v _
theorem My(cl:Qn):ED cl.length (jZ cl)=true:=by
 have e:(cl.map q0).all Py=true:=by rw[List.all_map];exact L8.mpr λx _=>rfl
 show (decide ((cl.map q0).length=cl.length)&&(cl.map q0).all Py)=true;rw[e,g0];simp
theorem BF(f:α->β):∀cs:List (List α),yJ (cs.map<|X3 f)=yJ cs
 |[]=>rfl
 |c::cs=>by show (c.map f).length*_=c.length*_;rw[BF f cs,g0]
variable (P w K mg base) in
structure CalsAS:Prop where
 Vr:Cal P w K mg base 1 "is_whole" ["thing"] (iZ K vM)
theorem n_(F:Co K "are_sides" (top 14) f fd)(T:Txt mg)(C:CalsAS P w K mg base):FnOk P w K mg base VJ 2 f fd ["thing"] (iZ K Ic):=by
 have S:FnScope ["thing"] ["thing"] (kZ<|top 14):={};refine GK F S (λl A outer s H E j=>hZ (aK (ME<|CH (IW<|GY<|GB .tup rfl T.Qr T.Xo Ei<|wn 0)<|CH (SJ oU fV (wx<|BW T.Qo<|tZ 0) oZ)<|qU<|SJ Iq ZD (wx<|BW T.Qo<|tZ 0)<|wx<|OB T.Js) (PZ zH) sJ)<|PZ<|BZ wH (gY (K:=K) rfl rfl) T.Xs Lm<|lZ<|SK ["side"] [] (fJ rfl<|wv 0)<|λ_ _ _ _=>FB (KZ C.Vr j.m<|tZ 0)<|EB<|Jk eN VM (wn 0) oZ) ?_;rintro c t ⟨sd,rfl,a,q⟩;have v:=a.l1;have k:=a.l3;have b:(sd.map q0).length=sd.length:=g0 ..;refine HJ (λh=>?_)<|λh=>?_
 .have h:decide (((sd.map q0).length:Int)<1)=true:=h;rw[b]at h;have:=Qe h
  lia
 .refine HJ (λh=>?_) (λh=>?_)
  .have h:decide ((3:Int)<((sd.map q0).length:Int))=true:=h;rw[b]at h;have:=Qe h;omega
  .refine⟨by rw[b];exact rZ<|A0 k<|K1 _ _,iK (λ_=>.bool true) ?_ ?_⟩
   .intro d hd N hN;obtain⟨i,hi,rfl⟩:=M0.mp hd;refine⟨.int i,rfl,rfl,λo=>?_⟩;have e:decide ((1:Int)<=i)=true:=Je<|a.p i hi;have hN:N (.bool true) _:=hN;rw[<-e]at hN;exact hN
   .refine⟨_,XR _,?_⟩;rw[WR];exact q _
variable (P w K mg base) in
structure CalsIF:Prop where
 Fs:Cal P w K mg base 2 "are_sides" ["thing"] (iZ K Ic)
 Vs:Cal P w K mg base 2 "are_wholes" ["thing","many"] (iZ K XC)
 Ft:Cal P w K mg base 1 "product" ["numbers"] (iZ K NN)
theorem o_(F:Co K "is_field" (top 15) f fd)(T:Txt mg)(C:CalsIF P w K mg base):FnOk P w K mg base VJ 3 f fd ["thing"] (iZ K Ob):=by
 have S:FnScope ["thing","many"] ["thing"] (kZ<|top 15):={};refine GK F S (λt A outer s H E b=>hZ (aK (ME<|CH (IW<|GY<|GB .tup rfl T.Qr T.Xo Ei<|wn 0)<|CH (tD b (wx<|BW T.Qo<|tZ 0) oZ)<|qU<|IW<|GY<|KZ C.Fs b.m<|lZ<|MZ (wn 0) oZ) (PZ zH) sJ)<|hZ (FZ 1<|KZ C.Ft b.m<|lZ<|MZ (wn 0) oZ)<|PZ<|FB (Jk XG iV (wn 1)<|wx<|OB T.Jt)<|EB<|KZ C.Vs b.m<|LZ (MZ (wn 0) oZ)<|tZ 1) ?_;rintro d v ⟨sd,cl,rfl,a,j,q⟩;have k:=a.m;have l:=vK a.p;refine⟨jZ sd,rfl,sd,rfl,a,λo=>?_⟩;refine⟨jZ sd,rfl,sd,rfl,λc i=>⟨by have:=a.p c i;exact Q1<|X2.1<|G1 this,by have:=zJ a.p c i;lia⟩,λo=>?_⟩;have e:prodI sd=(cl.length:Int):=by rw[j,l]
 rw[e];refine HJ (λh=>?_)<|λh=>?_
 .refine⟨jZ cl,rfl,jZ cl,cl.length,rfl,GD cl,by lia,λo=>?_⟩;rw[My];exact q _
 .exact absurd (show decide ((cl.length:Int)<=120)=true from Je<|E2 (L5 e.symm) k) h
def Xb:Con:=λa Q=>∃cs:List (List<|Int×Int),a=[.fz<|.list<|cs.map λc=>.list<|c.map BK]/\(∀c∈cs,c≠[])/\yJ cs<=960/\cs.length<=3/\∀o,Q (.ow<|.list<|(Iy JY<|(AZ [[]] cs).map bo).map UJ) o
theorem p_(F:Co K "boxes_by" (top 43) f fd)(T:Txt mg)(C:CalsBy P w K mg base):FnOk P w K mg base VJ 2 f fd ["choices"] (iZ K Xb):=by
 have S:FnScope ["choices"] ["choices"] (kZ<|top 43):={};refine GK F S (λY A outer s H E j=>PZ<|BZ aC (Vq rfl<|MB j) T.Zn Mi<|lZ<|SK ["pairs"] [] (fJ rfl<|KZ C.Ks j.m<|tZ 0)<|λ_ _ _ _=>KZ C.Hs j.m<|tZ 0) ?_;rintro l Z ⟨cs,rfl,t,h9,v,q⟩;have x:(cs.map λc=>Y2<|c.map BK)=(cs.map<|X3 BK).map Y2:=by rw[O0];rfl
 have zt:=BF BK cs;refine⟨cs.map<|X3 BK,by rw[<-x];rfl,λc y=>?_,by lia,by rw[g0];exact A0 v<|K1 _ _,λo=>?_⟩
 .obtain⟨B,G,rfl⟩:=M0.mp y;intro z;exact t B G<|v6.mp z
 have I:(AZ [[]]<|cs.map<|X3 BK).map O1=(AZ [[]] cs).map λi=>O1 (i.map BK):=by have:=HK BK cs [[]];have e:([[]]:List (List<|Int×Int)).map (X3 BK)=[[]]:=rfl;rw[e]at this;rw[<-this,O0];rfl
 rw[I];have k:(AZ [[]] cs).length<=960:=by rw[dJ];simp;omega
 refine⟨rZ (by rw[g0];exact A0 k<|K1 _ _),iK Sb ?_ ?_⟩
 .intro d hd N hN;obtain⟨i,L,rfl⟩:=M0.mp hd;rw[jE]at hN;have M:i.length<=1000:=by
   have:=Mw<|nJ L
   lia
  exact⟨i,rfl,M,λo=>hN⟩
 .have O:((AZ [[]] cs).map λi=>O1<|i.map BK).map Sb=((AZ [[]] cs).map bo).map UJ:=by
   rw[O0,O0];exact U1 λi _=>jE i
  rw[O];refine⟨(AZ [[]] cs).map bo,rfl,by rw[g0];exact rZ<|by lia,λue R U=>?_⟩;rw[SG.sorted_uniq (lt:=JY) (λa b=>XB) (R.trans (oJ _ _).symm) U<|KD ltB_wk _];exact q _
variable (P w K mg base) in
structure CalsHx:Prop where
 Do:Cal P w K mg base 2 "boxes_by" ["choices"] (iZ K Xb)
 Dp:Cal P w K mg base 2 "stretches" ["side"] (iZ K b_)
theorem q_(F:Co K "half_boxes" (top 44) f fd)(T:Txt mg)(C:CalsHx P w K mg base):FnOk P w K mg base VJ 3 f fd ["sides"] (iZ K Nc):=by
 have S:FnScope ["sides"] ["sides"] (kZ<|top 44):={};refine GK F S (λy A outer s H E i=>PZ<|KZ C.Do i.m<|lZ<|SK ["side"] [] (fJ rfl<|wv 0)<|λ_ _ _ _=>KZ C.Dp i.m<|tZ 0) ?_;rintro j B ⟨sd,rfl,a,q⟩;have k:=a.l3;have G:=a.m;refine⟨rZ (by rw[g0];exact A0 k<|K1 _ _),iK Tb ?_ ?_⟩
 .intro d hd N hN;obtain⟨s,b,rfl⟩:=M0.mp hd;have e:=a.p s b;have l:=zJ a.p s b;refine⟨s,rfl,e,by lia,λI o t v=>?_⟩;have hN:N (.list<|(FK s).map BK) _:=hN;rw[<-iE e,<-BM t v]at hN;exact hN
 .refine⟨sd.map FK,by rw[O0,O0];rfl,λc x=>?_,Fz a,by rw[g0];omega,λo=>q _⟩;obtain⟨s,b,rfl⟩:=M0.mp x;intro z;have e:=Cz<|a.p s b;have l:=a.p s b;rw[z,U5]at e
  lia
variable (P w K mg base) in
structure CalsBc:Prop where
 Do:Cal P w K mg base 2 "boxes_by" ["choices"] (iZ K Xb)
 Dr:Cal P w K mg base 2 "cover" ["side","low","high"] (iZ K h_)
theorem r_(F:Co K "box_cover" (top 48) f fd)(T:Txt mg)(C:CalsBc P w K mg base):FnOk P w K mg base VJ 3 f fd ["sides","box"] (iZ K Qc):=by
 have S:FnScope ["sides","box"] ["sides","box"] (kZ<|top 48):={};refine GK F S (λG A outer s H E t=>PZ<|KZ C.Do t.m<|lZ<|Yj ["side","low","high"] [] (eD rfl T.Xr<|IZ 0<|LZ (MZ (wn 1) oZ)<|lZ<|MZ (wn 1) oZ) (λ_ _ _ _=>LK rfl rfl<|uZ (SZ 0)<|uZ (SZ 1)<|uZ (SZ 2) TJ)<|λ_ _ _ _=>KZ C.Dr t.m<|IZ 0<|IZ 1<|tZ 2) ?_;rintro v I ⟨sd,lo,hi,rfl,e,c,q⟩;have x:=e.l3;have L:=e.m;have y:=OK c;have i:=wW sd lo hi;refine⟨_,rfl,_,rfl,by rw[i,g0,P2];exact rZ<|A0 (T4 _ _)<|A0 x<|K1 _ _,iK ae ?_ ?_⟩
 .intro d hd N hN;rw[i]at hd;obtain⟨⟨s,a,b⟩,hx,rfl⟩:=M0.mp hd;obtain⟨B,j,k,l⟩:=Lx c _ hx;have M:=zJ e.p s B;simp only at j k l;exact⟨rfl,s,a,b,rfl,V1 j<|V1 k l,by lia,j,k,l,λo=>hN⟩
 .refine⟨Nw sd lo hi,?_,oE c,by have:=PD c;lia,by rw[QN c];exact x,λo=>q _⟩;rw[i,O0];unfold Nw;rw[O0];rfl
variable (P w K mg base) in
structure CalsSu:Prop where
 Go:Cal P w K mg base 6 "cells_in" ["field","box"] (iZ K aS)
def sE:Con:=λa Q=>∃sd cl lo hi:Qn,a=[.fz<|bV sd cl,.fz<|bxP lo hi]/\Sd sd/\cl.length=(EZ sd).length/\Bx lo hi sd/\∀o,Q (.fz<|.int (eJ sd cl lo hi).sum) o
theorem tE(F:Co K "sum_in" (top 36) f fd)(T:Txt mg)(C:CalsSu P w K mg base):FnOk P w K mg base VJ 7 f fd ["field","box"] (iZ K sE):=by have S:FnScope ["field","box"] ["field","box"] (kZ<|top 36):={};refine GK F S (λi A outer s H E b=>PZ<|BZ XY (XJ (K:=K) rfl rfl) T.Xt Ci<|lZ<|KZ C.Go b.m<|IZ 0<|tZ 1) ?_;rintro a j ⟨sd,cl,lo,hi,rfl,c,d,e,q⟩;refine⟨sd,cl,lo,hi,rfl,c,d,e,λ_=>?_⟩;exact⟨_,rfl,q _⟩
noncomputable def YK{α:Type}:List (List α)->List (List α)
 |[]=>[[]]
 |c::cs=>c.flatMap λx=>(YK cs).map (x::·)
theorem uE:∀(cs a:List (List α)),AZ a cs=a.flatMap λp=>(YK cs).map (p++·)
 |[],a=>by
  show a=a.flatMap λp=>[p++[]];induction a with
  |nil=>rfl
  |cons p a b=>rw[V2,<-b,Z2];rfl
 |c::cs,a=>by show AZ (a.flatMap λp=>c.map λx=>p++[x]) cs=_;rw[uE cs,List.flatMap_assoc];congr 1;funext p;show ((c.map λx=>p++[x]).flatMap λq=>(YK cs).map (q++·))=(c.flatMap λx=>(YK cs).map (x::·)).map (p++·);rw[NQ,M8];congr 1;funext x;rw[O0];refine U1 λq _=>?_;show (p++[x])++q=p++(x::q);simp
theorem Qw(cs:List (List α)):AZ [[]] cs=YK cs:=by rw[uE];simp
noncomputable def Nz:Qn->Qn->Qn->List (Int×Int)
 |a::lo,b::hi,t::bs=>(if t=0 then (a,1) else (b+1,-1))::Nz lo hi bs
 |_,_,_=>[]
noncomputable def ins:Qn->List (Int×Int)->Bool
 |s::sd,c::cs=>(decide (0<=c.1)&&decide (c.1<s))&&ins sd cs
 |[],[]=>true
 |_,_=>false
theorem ins_wi:∀{sd:Qn}{cs:List (Int×Int)},ins sd cs=true↔Wi (cs.map (·.1)) sd
 |[],[]=>by simp[ins,Wi]
 |s::sd,c::cs=>by have a:=ins_wi (sd:=sd) (cs:=cs);show ((decide (0<=c.1)&&decide (c.1<s))&&ins sd cs)=true↔((0<=c.1/\c.1<s)/\Wi (cs.map (·.1)) sd);rw[A4,A4,decide_eq_true_eq,decide_eq_true_eq,a]
 |[],_::_=>by simp[ins,Wi]
 |_::_,[]=>by simp[ins,Wi]
theorem Rw:∀{sd lo hi:Qn},Bx lo hi sd->((YK<|B1 sd.length [0,1]).map<|Nz lo hi).filter (ins sd)=YK (nY sd lo hi)
 |[],[],[],_=>rfl
 |s::sd,a::lo,b::hi,h=>by
  have c:=Rw h.2;have j:=h.1;have e:(YK<|B1 (s::sd).length [0,1]).map (Nz (a::lo) (b::hi))=((YK<|B1 sd.length [0,1]).map<|Nz lo hi).map ((a,1)::·)++((YK<|B1 sd.length [0,1]).map<|Nz lo hi).map ((b+1,-1)::·):=by rw[L1,U3];show (([0,1]:Qn).flatMap λx=>(YK<|B1 sd.length [0,1]).map (x::·)).map (Nz (a::lo) (b::hi))=_;rw[V2,V2,OQ,Z2,U2,O0,O0,O0,O0];rfl
  rw[e];generalize (YK<|B1 sd.length [0,1]).map (Nz lo hi)=M at c ⊢;rw[Y8,cQ,cQ];have i:(ins (s::sd)∘((a,1)::·))=ins sd:=by funext q;show ((decide (0<=a)&&decide (a<s))&&ins sd q)=ins sd q;rw[Je<|show 0<=a by omega,Je<|show a<s by lia];rfl
  rw[i,c];show _=(oG s a b).flatMap λx=>(YK<|nY sd lo hi).map (x::·);unfold oG;by_cases h0:b+1=s
  .have d:(ins (s::sd)∘((b+1,-1)::·))=λ_=>false:=by
    funext q;show ((decide (0<=b+1)&&decide (b+1<s))&&ins sd q)=false;rw[Ve<|show ¬b+1<s by omega,uX,W7]
   rw[d,De h0];simp
  .have d:(ins (s::sd)∘((b+1,-1)::·))=ins sd:=by
    funext q;show ((decide (0<=b+1)&&decide (b+1<s))&&ins sd q)=ins sd q;rw[Je<|show 0<=b+1 by lia,Je<|show b+1<s by lia];rfl
   rw[d,c,Ce h0];simp
 |[],[],_::_,h=>by exact h.elim
 |[],_::_,z,h=>by cases z<;>exact h.elim
 |_::_,[],[],h=>h.elim
 |_::_,[],_::_,h=>h.elim
 |_::_,_::_,[],h=>h.elim
theorem Sw:∀{lo hi bs:Qn},lo.length=bs.length->hi.length=bs.length->(∀t∈bs,t=0\/t=1)->AK (Nz lo hi bs)=1-2*(bs.sum % 2)
 |[],[],[],_,_,_=>by rfl
 |a::lo,b::hi,t::bs,c,d,h=>by
  have e:=Sw (lo:=lo) (hi:=hi) (bs:=bs) (by simpa using c) (by simpa using d) λx hx=>h x<|G0 _ hx;show AK ((if t=0 then (a,1) else (b+1,-1))::Nz lo hi bs)=_;rw[NV,e,W3];rcases h t L0 with rfl|rfl
  .rw[De rfl];simp only
   lia
  .rw[Ce<|by decide];simp only
   lia
 |[],_::_,[],_,h,_=>by simp at h
 |_::_,_,[],h,_,_=>by simp at h
 |[],_,_::_,h,_,_=>by simp at h
 |_::_,[],_::_,_,h,_=>by simp at h
noncomputable def Vc:Oe->Oe
 | .tuple [.int a,.int b,.int t]=>.int<|if t=0 then a else b+1
 |_=>.none
theorem vE:∀(lo hi bs:Qn),((lo.zip<|hi.zip bs).map λq=>O1 [.int q.1,.int q.2.1,.int q.2.2]).map Vc=((Nz lo hi bs).map (·.1)).map q0
 |a::lo,b::hi,t::bs=>by have c:=vE lo hi bs;rw[A5,A5,Y0,Y0,c];show q0 (if t=0 then a else b+1)::_=q0 ((if t=0 then (a,1) else (b+1,-1)):Int×Int).1::_;split<;>rfl
 |[],_,_=>by simp[Nz]
 |_::_,[],_=>by simp[Nz]
 |_::_,_::_,[]=>by simp[Nz]
theorem JM{cs:Qn}(v:Int)(j:∀c∈sd,1<=c)(hl:cs.length=(EZ sd).length)(h:Wi p sd):QH (lJ sd cs) p (.int v)=lJ sd (cs.set (CJ sd p).toNat v):=by
 unfold QH;have e:(lJ sd cs).map (·.1)=EZ sd:=by unfold lJ;rw[O0];show ((EZ sd).zip cs).map (λr=>r.1)=_;exact M9<|P0 hl.symm
 rw[e,De<|cG h];obtain⟨m,k⟩:=dG j h;refine u9 λi=>?_;unfold lJ;rw[S1,S1,S1];by_cases hi:i<(EZ sd).length
 .have b:((EZ sd).zip cs)[i]?=some ((EZ sd)[i],cs[i]'(B0 hi<|P0 hl.symm)):=by rw[P4];exact⟨J0 hi,J0<|lt_of_lt_of_eq hi hl.symm⟩
  have l:=(nW j<|J0 hi).2;by_cases c:(EZ sd)[i]=p
  .have d:(CJ sd p).toNat=i:=by rw[<-c];exact y_ l
   have a:((EZ sd).zip<|cs.set (CJ sd p).toNat v)[i]?=some ((EZ sd)[i],v):=by rw[P4];refine⟨J0 hi,?_⟩;rw[d];exact h8<|B0 hi<|P0 hl.symm
   rw[b,a];simp[c]
  .have d:(CJ sd p).toNat≠i:=λz=>c (by
     rw[z,X0,J0 hi]at k;exact k);have a:((EZ sd).zip<|cs.set (CJ sd p).toNat v)[i]?=some ((EZ sd)[i],cs[i]'(by lia)):=by
    rw[P4];refine⟨J0 hi,?_⟩;rw[P1 d];exact J0 (by lia)
   rw[b,a];simp[c]
 .have b:((EZ sd).zip cs)[i]?=none:=G6 (by rw[P2];exact A0 (T4 _ _)<|A1 hi);have a:((EZ sd).zip<|cs.set (CJ sd p).toNat v)[i]?=none:=G6 (by rw[P2];exact A0 (T4 _ _)<|A1 hi);rw[b,a];rfl
theorem Tw{cs:Qn}(d:∀c∈sd,1<=c)(hl:cs.length=(EZ sd).length)(h:Wi p sd):(p,q0<|cs.getD (CJ sd p).toNat 0)∈lJ sd cs:=by
 obtain⟨b,a⟩:=dG d h;rw[X0,J0 b]at a;have a:(EZ sd)[(CJ sd p).toNat]=p:=a;refine M0.mpr ⟨(p,cs.getD (CJ sd p).toNat 0),?_,rfl⟩;have e:((EZ sd).zip cs)[(CJ sd p).toNat]?=some (p,cs.getD (CJ sd p).toNat 0):=by rw[P4];refine⟨by rw[J0 b,a],?_⟩;rw[X0,J0<|B0 b<|P0 hl.symm];rfl
 exact O3 e
theorem wE(sd cs:Qn):OW ((EZ sd).map jZ) (cs.map q0)=(lJ sd cs).map λp=>.tuple [tI p.1,p.2]:=by
 unfold lJ OW;rw[O0];generalize EZ sd=l;induction l generalizing cs with
 |nil=>simp
 |cons p l a =>
  cases cs with
  |nil=>simp
  |cons c cs=>simp only[Y0,A5];rw[a];rfl
theorem KM(n:Nat):EZ (B1 n 2)=YK (B1 n [0,1]):=by unfold EZ;rw[Qw,List.map_replicate];rfl
theorem xE:∀{n:Nat}{bs:Qn},Wi bs (B1 n 2)->bs.length=n/\∀t∈bs,t=0\/t=1
 |0,[],_=>⟨rfl,λt h=>by cases h⟩
 |0,_::_,h=>h.elim
 |n+1,[],h=>h.elim
 |n+1,x::bs,h=>by
  obtain⟨b,c⟩:=xE (n:=n) (bs:=bs) h.2;refine⟨by rw[L1,b],λt a=>?_⟩;rcases E1.mp a with rfl|a
  .have d:0<=t/\t<2:=h.1
   lia
  .exact c t a
theorem LM(n:Nat):(B1 n [q0 2]).flatten=(B1 n (2:Int)).map q0:=by
 induction n with
 |zero=>rfl
 |succ n a=>rw[U3,i6,a,U3];rfl
theorem yE:∀{n:Nat},n<=3->prodI (B1 n 2)<=8
 |0,_=>by decide
 |1,_=>by decide
 |2,_=>by decide
 |3,_=>by decide
 |n+4,h=>False.elim<|T2 _<|J7 _ h
noncomputable def s_(sd cs:Qn):Oe->Oe
 | .tuple a=>.int<|cs.getD (CJ sd<|a.map unI).toNat 0
 |_=>.none
theorem Uw(sd cs p:Qn):s_ sd cs (jZ p)=.int (cs.getD (CJ sd p).toNat 0):=by show q0 (cs.getD (CJ sd<|(p.map q0).map unI).toNat 0)=_;rw[RJ]
theorem nS{cs:Qn}(a:∀c∈sd,1<=c)(hl:cs.length=(EZ sd).length):((EZ sd).map jZ).map (s_ sd cs)=cs.map q0:=by
 refine u9 λi=>?_;rw[S1,S1,S1];by_cases hi:i<(EZ sd).length
 .have b:=(nW a<|J0 hi).2;rw[J0 hi,J0<|show i<cs.length by exact B0 hi<|P0 hl.symm];show some (s_ sd cs<|jZ (EZ sd)[i])=some (q0 cs[i]);rw[Uw,show (CJ sd (EZ sd)[i]).toNat=i by exact y_ b,X0,J0<|show i<cs.length by omega];rfl
 .rw[G6<|A1 hi,G6<|show cs.length<=i by exact le_of_eq_of_le hl<|A1 hi];rfl
theorem Oz:∀{sd lo hi:Qn},Bx lo hi sd->∀c∈(nY sd lo hi).map (X3 λx:Int×Int=>x.1),c.Pairwise (· < ·)
 |[],[],[],_,c,h=>by simp[nY]at h
 |s::sd,a::lo,b::hi,h,c,d=>by
  have d:c∈((oG s a b).map λx=>x.1)::(nY sd lo hi).map (X3 λx:Int×Int=>x.1):=d;rcases E1.mp d with rfl|d
  .have i:=h.1;unfold oG;split
   .exact P3 _ _
   .refine v7.mpr ⟨λz e=>?_,P3 _ _⟩;have e:z=b+1:=by simpa using e
    show a<z;exact V1 i.2.1<|L5 e.symm
  .exact Oz h.2 c d
 |[],[],_::_,h,_,_=>h.elim
 |[],_::_,z,h,_,_=>by cases z<;>exact h.elim
 |_::_,[],[],h,_,_=>h.elim
 |_::_,[],_::_,h,_,_=>h.elim
 |_::_,_::_,[],h,_,_=>h.elim
theorem Ny(h:Bx lo hi sd):((dY sd lo hi).map λcs=>cs.map (·.1)).Pairwise (λa b=>HT.lexLt a b=true):=by have e:=HK (λx:Int×Int=>x.1) (nY sd lo hi) [[]];have c:([[]]:List (List<|Int×Int)).map (X3 λx:Int×Int=>x.1)=[[]]:=rfl;rw[c]at e;have d:((dY sd lo hi).map λcs=>cs.map (·.1))=AZ [[]] ((nY sd lo hi).map (X3 λx:Int×Int=>x.1)):=e;rw[d];exact mK (n:=0) (P3 _ _) (by simp)<|Oz h
variable (P w K mg base) in
structure CalsDuK:Prop where
 Wp:Cal P w K mg base 1 "_law_places" ["_law_sides_here"] (iZ K MV)
noncomputable abbrev Pz(sd st lo hi:Qn)(n:Int):Oe:=.tuple [ZJ<|KJ sd st lo hi n,.list ((dY sd lo hi).map λcs=>jZ (cs.map (·.1)))]
def t_:Con:=λa Q=>∃(sd st lo hi:Qn) (n:Int),a=[.fz<|jZ sd,.fz<|ZJ st,.fz<|KY (lo,hi),.fz<|.int n]/\Sd sd/\st.length=(EZ sd).length/\Bx lo hi sd/\∀o,Q (.fz<|Pz sd st lo hi n) o
theorem oS(F:Co K "_law_due" (top 62) f fd)(T:Txt mg)(C:CalsDuK P w K mg base):FnOk P w K mg base VJ 2 f fd ["_law_sides_here","_law_steps","_law_box_here","_law_number_here"] (iZ K t_):=by
 have S:FnScope ["_law_sides_here","_law_steps","_law_box_here","_law_number_here","_law_low","_law_high","_law_numbers","_law_places_here","_law_beyond","_law_place"] ["_law_sides_here","_law_steps","_law_box_here","_law_number_here"] (kZ<|top 62):={};refine GK F S (λye A outer s H E v=>hZ (Gj (wv 2)<|LK rfl rfl<|uZ (SZ 4)<|uZ (SZ 5) TJ)<|hZ (FZ 6<|nC rfl rfl (qD v) T.Jr (by decide +kernel)<|lZ<|fb rfl rfl T.Xn T.Xr<|LZ (KZ C.Wp v.m<|tZ 0)<|tZ 1)<|hZ (FZ 7<|kJ jK)<|hZ (jW [8,9] (fJ rfl<|KZ C.Wp v.m<|lZ<|mY (wx<|kJ<|lZ OZ)<|wx<|BW T.Qo<|tZ 0) (SZ 8)<|hZ (FZ 9<|YW T.Xo<|lZ<|Yj ["_law_first","_law_last","_law_bit"] [] (eD rfl T.Xr<|IZ 4<|IZ 5<|tZ 8) (λ_ _ _ _=>LK rfl rfl<|uZ (SZ 0)<|uZ (SZ 1)<|uZ (SZ 2) TJ)<|λ_ _ _ _=>MZ (wx<|kJ<|LZ (wv 0)<|lZ<|bK (wn 1) oZ)<|wn 2)<|TZ<|aK (G' (qD v) (wn 9)<|wn 6) (hZ (rK<|HB qK rfl PySem.F.slot_list_append PySem.F.type_list_append WJ (wn 7)<|lZ<|wv 9)<|TZ<|DR (mV v) (wn 6) (wn 9)<|bK (wx<|lC (qD v) (wn 6)<|wn 9)<|wx<|mY (wx<|ZW oZ<|wx<|mY oZ<|wx<|w_bin xY pY (wx<|BZ XY (XJ (K:=K) rfl rfl) T.Xt Ci<|tZ 8) oZ)<|wn 3) sJ)<|PZ<|aJ<|LZ (SK ["_law_place"] [6] (fJ rfl<|KZ C.Wp v.m<|tZ 0)<|λ_ _ _ _=>lC (qD v) (wn 1)<|wn 0)<|lZ<|BZ PH (gW rfl) T.Zn Mi<|tZ 7) ?_;rintro args Qd ⟨sd,st,lo,hi,n,rfl,j,ag,hb,q⟩;have U:=j.l3;have h1:=j.l1;have hm:=j.m;have cf:=vK j.p;have hbl:=OK hb;with_reducible refine FJ (λρ=>ρ=[Zt<|jZ sd,Zt<|ZJ st,Zt<|KY (lo,hi),Zt<|.int n,Zt<|jZ lo,Zt<|jZ hi,none,none,none,none]) ?_ ?_
 .intro N hN;exact⟨rfl,hN _ rfl⟩
 rintro _ rfl;with_reducible refine FJ (λρ=>ρ=[Zt<|jZ sd,Zt<|ZJ st,Zt<|KY (lo,hi),Zt<|.int n,Zt<|jZ lo,Zt<|jZ hi,Yt<|rH<|lJ sd st,none,none,none]) ?_ ?_
 .intro N hN;refine⟨sd,.inl rfl,j.p,by lia,U,λo=>⟨_,_,rfl,rfl,lJ sd st,wE sd st,?_,hN _ rfl⟩⟩;have e:(lJ sd st).map (·.1)=EZ sd:=by
   unfold lJ;rw[O0];show ((EZ sd).zip st).map (λr=>r.1)=_;exact M9<|P0 ag.symm
  rw[e];exact tF j.p
 rintro _ rfl;with_reducible refine FJ (λρ=>ρ=[Zt<|jZ sd,Zt<|ZJ st,Zt<|KY (lo,hi),Zt<|.int n,Zt<|jZ lo,Zt<|jZ hi,Yt<|rH<|lJ sd st,Yt<|.list [],none,none]) ?_ ?_
 .intro N hN;exact hN _ rfl
 rintro _ rfl;with_reducible refine FJ (λρ=>ρ=[Zt<|jZ sd,Zt<|ZJ st,Zt<|KY (lo,hi),Zt<|.int n,Zt<|jZ lo,Zt<|jZ hi,Yt<|rH<|lJ sd<|KJ sd st lo hi n,Yt (.list ((dY sd lo hi).map λcs=>jZ (cs.map (·.1)))),none,none]) ?_ ?_
 .intro N hN;refine⟨by rw[g0];lia,by rw[g0];lia,?_,?_⟩
  .rw[g0];show 1*((sd.length:Nat):Int).toNat<=sizeLine;exact rZ (by lia)
  have hr2:(B1 ((((sd.map q0).length:Nat):Int)).toNat [q0 2]).flatten=(B1 sd.length (2:Int)).map q0:=by rw[g0,B4];exact LM _
  have hrp:=yE U;refine⟨B1 sd.length 2,.inr<|Te (λl=>[Sl.fz<|Y2 l]) hr2,λc hc=>by rw[List.eq_of_mem_replicate hc];decide,by lia,by rw[E9];exact U,λo=>?_⟩;refine(?_:YY _ _ _ _ ((EZ<|B1 sd.length 2).map jZ) _);have xt:((EZ<|B1 sd.length 2).map<|Nz lo hi).filter (ins sd)=dY sd lo hi:=by rw[KM,Rw hb];exact(Qw _).symm
  have yp:∀bs∈EZ (B1 sd.length 2),bs.length=sd.length/\∀t∈bs,t=0\/t=1:=λbs hbs=>xE<|mW hbs;have G:=xW (lo:=lo) (hi:=hi) U;generalize EZ (B1 sd.length 2)=L at xt yp ⊢;refine nK (λrest ρ=>∃(dn x:List Qn) (cs:List (List<|Int×Int)),L=dn++x/\rest=x.map jZ/\cs=(dn.map<|Nz lo hi).filter (ins sd)/\ρ=[Zt<|jZ sd,Zt<|ZJ st,Zt<|KY (lo,hi),Zt<|.int n,Zt<|jZ lo,Zt<|jZ hi,Yt<|rH<|lJ sd<|cs.foldl (sK sd n) st,Yt (.list (cs.map λcs=>jZ (cs.map (·.1)))),none,none]) ?_ ?_ ⟨[],L,[],rfl,rfl,rfl,rfl⟩
  .rintro d ds ρ ⟨dn,x,cs,I,es,O,rfl⟩ M Y;cases x with
   |nil=>cases es
   |cons bs x =>
    cases es;obtain⟨hbn,y⟩:=yp bs (by rw[I];simp);have bg:cs.length<=8:=by
     have e:(((dn++bs::x).map<|Nz lo hi).filter<|ins sd).length<=8:=by rw[<-I,xt];exact G
     rw[U2,Y8,R0,<-O]at e;exact Z1 e
    have vo:(cs.foldl (sK sd n) st).length=(EZ sd).length:=by rw[lK,ag]
    have Z:=Sw (lo:=lo) (hi:=hi) (bs:=bs) (by lia) (by lia) y;obtain⟨one,eo⟩:∃one,one=Nz lo hi bs:=⟨_,rfl⟩;have hpk:=vE lo hi bs;rw[<-eo]at hpk Z;have k:ins sd one=true->M [Zt<|jZ sd,Zt<|ZJ st,Zt<|KY (lo,hi),Zt<|.int n,Zt<|jZ lo,Zt<|jZ hi,Yt<|rH<|lJ sd<|(cs++[one]).foldl (sK sd n) st,Yt (.list ((cs++[one]).map λcs=>jZ (cs.map (·.1)))),none,none]:=λh=>Y _ ⟨dn++[bs],x,cs++[one],by rw[I];simp,rfl,by rw[U2,Y8,<-O,Y0,T5,<-eo,S9,De h];rfl,rfl⟩;have hno:¬ins sd one=true->M [Zt<|jZ sd,Zt<|ZJ st,Zt<|KY (lo,hi),Zt<|.int n,Zt<|jZ lo,Zt<|jZ hi,Yt<|rH<|lJ sd<|cs.foldl (sK sd n) st,Yt (.list (cs.map λcs=>jZ (cs.map (·.1)))),none,none]:=λh=>Y _ ⟨dn++[bs],x,cs,by rw[I];simp,rfl,by rw[U2,Y8,<-O,Y0,T5,<-eo,S9,Ce h];simp,rfl⟩;clear Y O eo;have B:(cs++[one]).foldl (sK sd n) st=sK sd n (cs.foldl (sK sd n) st) one:=by rw[AQ];rfl
    rw[B]at k;generalize cs.foldl (sK sd n) st=i at vo k hno B;with_reducible refine Bb rfl ?_
    with_reducible refine FJ (λρ=>ρ=[Zt<|jZ sd,Zt<|ZJ st,Zt<|KY (lo,hi),Zt<|.int n,Zt<|jZ lo,Zt<|jZ hi,Yt<|rH<|lJ sd i,Yt (.list (cs.map λcs=>jZ (cs.map (·.1)))),Zt<|jZ bs,Zt (jZ (one.map (·.1)))]) ?_ ?_
    .intro N2 br;have hz:=wW lo hi bs;refine⟨by rw[hz,g0,P2];exact rZ<|by lia,iK Vc ?_ ?_⟩
     .intro d hd N' dm;rw[hz]at hd;obtain⟨⟨a,b,t⟩,hx,rfl⟩:=M0.mp hd;have ht:=y t (x6 (x6 hx).2).2;rcases ht with rfl|rfl
      .exact⟨rfl,_,rfl,dm⟩
      .exact⟨rfl,_,rfl,dm⟩
     .rw[hz,hpk];exact br _ rfl
    rintro _ rfl;have ek:(lJ sd i).map (·.1)=EZ sd:=by unfold lJ;rw[O0];show ((EZ sd).zip i).map (λr=>r.1)=_;exact M9<|P0 vo.symm
    refine⟨lJ sd i,one.map (·.1),rfl,rfl,HJ (λh=>?_)<|λh=>?_⟩
    .have h:decide (one.map (·.1)∈(lJ sd i).map (·.1))=true:=h;rw[ek]at h;have hw:=mW<|Qe h;have Y:=k<|ins_wi.mpr hw;have hsm:-3<1-2*(bs.sum % 2)/\1-2*(bs.sum % 2)<3:=by lia
     with_reducible refine FJ (λρ=>ρ=[Zt<|jZ sd,Zt<|ZJ st,Zt<|KY (lo,hi),Zt<|.int n,Zt<|jZ lo,Zt<|jZ hi,Yt<|rH<|lJ sd i,Yt (.list ((cs++[one]).map λcs=>jZ (cs.map (·.1)))),Zt<|jZ bs,Zt (jZ (one.map (·.1)))]) ?_ ?_
     .intro N2 br;refine⟨by rw[g0];exact W0 bg<|by decide,?_⟩;rw[U2]at br;exact br _ rfl
     rintro _ rfl;refine⟨lJ sd i,one.map (·.1),_,rfl,rfl,Tw j.p vo hw,bs,rfl,(by decide:(0:Int)<2),.inl ⟨by decide,by decide⟩,.inl ⟨by lia,by lia⟩,?_⟩;refine⟨one.map (·.1),lJ sd i,rfl,rfl,rfl,?_,?_⟩
     .unfold lJ;rw[g0,P2];exact W0 (show _<=120 by lia) (by decide)
     .have e:rH (QH (lJ sd i) (one.map (·.1)) (.int (i.getD (CJ sd (one.map (·.1))).toNat 0+(1-2*(bs.sum % 2))*n)))=rH (lJ sd<|sK sd n i one):=by
       rw[JM _ j.p vo hw,<-Z];rfl
      rw[<-e]at Y;exact Y
    .have h:¬decide (one.map (·.1)∈(lJ sd i).map (·.1))=true:=h;rw[ek]at h;exact hno λz=>h<|Je<|cG<|ins_wi.mp z
  .rintro ρ ⟨dn,x,cs,I,es,O,rfl⟩;cases x with
   |cons _ _=>cases es
   |nil=>rw[Z2]at I;subst I;rw[xt]at O;subst O;exact hN _ rfl
 rintro _ rfl;have je:(KJ sd st lo hi n).length=(EZ sd).length:=by rw[KJ,lK,ag]
 have eh:=nS j.p je;have R:=Ny hb;have G:=xW (lo:=lo) (hi:=hi) U;have nr:∀cs∈dY sd lo hi,Wi (cs.map (·.1)) sd:=λcs dg=>eG hb<|nJ dg;have q':∀o,Qd (.fz (.tuple [.list<|((EZ sd).map jZ).map<|s_ sd<|KJ sd st lo hi n,.list ((dY sd lo hi).map λcs=>jZ (cs.map (·.1)))])) o:=by rw[eh];exact q
 clear q;generalize KJ sd st lo hi n=i at je q' ⊢;refine⟨sd,.inl rfl,j.p,by lia,U,λo=>⟨by rw[g0];exact rZ<|by lia,iK (s_ sd i) ?_ ?_⟩⟩
 .intro d hd N hN;obtain⟨p,hp,rfl⟩:=M0.mp hd;rw[Uw]at hN;exact⟨lJ sd i,p,_,rfl,rfl,Tw j.p je<|mW hp,hN⟩
 .refine⟨(dY sd lo hi).map λcs=>cs.map (·.1),by rw[O0];rfl,by rw[g0];exact rZ<|A0 G<|K1 _ _,λr v=>?_,λue hp hs=>?_⟩
  .obtain⟨cs,dg,rfl⟩:=M0.mp v;have h5:=EY<|nr cs dg;intro z;rw[z,U5]at h5;exact T2 _<|B0 h1<|P0 h5.symm
  .have e:=SG.sorted_uniq (lt:=HT.lexLt) (λa b=>SG.lex_eq) hp hs<|R.imp λ{a b} h=>dE h;subst e;have e2:(((dY sd lo hi).map λcs=>cs.map (·.1)).map λr=>O1<|r.map q0)=(dY sd lo hi).map λcs=>jZ (cs.map (·.1)):=by rw[O0];rfl
   rw[e2];exact q' _
theorem zE:∀{sd:Qn},(∀c∈sd,1<=c)->Bx (sd.map λ_=>0) (sd.map λs=>s-1) sd
 |[],_=>trivial
 |s::sd,h=>by have a:=h s L0;exact⟨⟨by show (0:Int)<=0;decide,by show (0:Int)<=s-1;exact G1 a,by show s-1<s;exact Y9<|L5 rfl⟩,zE λc b=>h c<|G0 _ b⟩
theorem SN:∀{lo hi sd:Qn},Bx lo hi sd->Bx lo lo sd
 |[],[],[],_=>trivial
 |a::lo,b::hi,s::sd,h=>by have c:=h.1;exact⟨⟨c.1,L5 rfl,V1 c.2.1 c.2.2⟩,SN h.2⟩
 |[],[],_::_,h=>h.elim
 |[],_::_,z,h=>by cases z<;>exact h.elim
 |_::_,[],z,h=>by cases z<;>exact h.elim
 |_::_,_::_,[],h=>h.elim
theorem AE(sd:Qn):(B1 sd.length [q0 0]).flatten=(sd.map λ_=>(0:Int)).map q0:=by
 induction sd with
 |nil=>rfl
 |cons s sd a=>rw[L1,U3,i6,a];rfl
noncomputable def Yb:Oe->Oe
 | .int s=>.int<|s-1
 |_=>.none
def BE:Con:=λa Q=>∃(sd st lo hi:Qn) (n:Int),a=[.fz<|jZ sd,.io<|ZJ st,.fz<|KY (lo,hi),.fz<|.int n]/\Sd sd/\st.length=(EZ sd).length/\Bx lo hi sd/\∀(x:Jn Sl) (o:Ev),Q (.fz<|Pz sd st lo hi n) (x::some (.io<|ZJ st)::o)
theorem EE(F:Co K "lifted" (top 32) f fd)(T:Txt mg)(C:CalsLF P w K mg base):FnOk P w K mg base VJ 2 f fd ["sides","steps","box","number"] (iZ K BE):=by
 have S:FnScope ["sides","steps","box","number","behind","choices","places","chosen","signed","index"] ["sides","steps","box","number"] (kZ<|top 32):={};refine GK F S (λye A outer s H E t=>hZ (FZ 4<|WK vV (JK (K:=K) rfl) T.Xn Zh<|tZ 1)<|hZ (gD (i:=5) S.nd rfl rfl rfl (own:=["side","first","last"]) (fr:=[]) (by kernel_rfl) (eD rfl T.Xr<|IZ 0<|LZ (MZ (wn 2) oZ)<|lZ<|MZ (wn 2) oZ) (λ_ _ _ _=>LK rfl rfl<|uZ (SZ 0)<|uZ (SZ 1)<|uZ (SZ 2) TJ) (λ_ _ _ _=>pA)<|λ_ _ _ _=>KZ C.Vp t.m<|IZ 0<|IZ 1<|tZ 2)<|hZ (FZ 6<|kJ jK)<|hZ (jW [7,8,9] (fJ rfl<|KZ C.Ks t.m<|lZ<|wv 5) (SZ 7)<|hZ (FZ 8<|KZ C.Yr t.m<|tZ 7)<|hZ (FZ 9<|KZ C.Ys t.m<|IZ 0<|lZ<|MZ (wn 8) oZ)<|hZ (vA (bK (wx<|MZ (wn 4)<|wn 9)<|wx<|mY (wx<|MZ (wn 8) oZ)<|wn 3) (wn 4)<|wn 9)<|TZ<|rK<|HB qK rfl PySem.F.slot_list_append PySem.F.type_list_append WJ (wn 6)<|lZ<|MZ (wn 8) oZ)<|PZ<|aJ<|LZ (wv 4)<|lZ<|wv 6) ?_;rintro Y Qd ⟨sd,st,lo,hi,n,rfl,j,ag,Z,q⟩;have k:=j.l3;have hm:=j.m;have cf:=vK j.p;have hbl:=OK Z;have y:=wW sd lo hi;refine⟨jZ lo,rfl,jZ hi,rfl,by rw[y,g0,P2];exact rZ<|A0 (T4 _ _)<|A0 k<|K1 _ _,iK Hc ?_ ?_⟩
 .intro d hd N hN;rw[y]at hd;obtain⟨⟨a,b,c⟩,hp,rfl⟩:=M0.mp hd;exact⟨rfl,a,b,c,rfl,λo=>hN⟩
 .have e1:(xH (sd.map q0) (lo.map q0)<|hi.map q0).map Hc=((nY sd lo hi).map<|X3 aV).map Y2:=by
   rw[y,<-zw,O0,O0,O0];rfl
  rw[e1];refine⟨(nY sd lo hi).map<|X3 aV,rfl,?_,?_,?_,λo=>?_⟩
  .intro c B z;obtain⟨G,I,rfl⟩:=M0.mp B;exact PV (Pr:=λc=>c≠[]) TR G I<|v6.mp z
  .have h1:=lW (cs:=(nY sd lo hi).map<|X3 aV) λc B=>by
    obtain⟨G,I,rfl⟩:=M0.mp B;rw[g0];exact PV (Pr:=λc=>c.length<=2) Aw G I
   have L:=RU (sd:=sd) (lo:=lo) (hi:=hi);rw[g0]at h1;exact A0 h1 (A0 (A8 (by decide)<|show _<=3 by exact A0 L k)<|by decide)
  .have L:=RU (sd:=sd) (lo:=lo) (hi:=hi);rw[g0];exact A0 L<|A0 k<|K1 _ _
  have e2:AZ [[]] ((nY sd lo hi).map<|X3 aV)=(dY sd lo hi).map (X3 aV):=by have:=HK aV (nY sd lo hi) [[]];simp only[Y0,T5]at this;exact this.symm
  rw[e2];have bg:=xW (lo:=lo) (hi:=hi) k;have nr:∀cs∈dY sd lo hi,Wi (cs.map (·.1)) sd:=λcs dg=>eG Z<|nJ dg;have l:=UC (sd:=sd) (lo:=lo) (hi:=hi);refine nK (λrest ρ=>∃(dn e:List (List<|Int×Int)),dn++e=dY sd lo hi/\rest=(e.map<|X3 aV).map O1 /\
    ρ=[Zt<|jZ sd,some<|.io<|ZJ st,Zt<|KY (lo,hi),Zt<|.int n,Yt<|ZJ<|dn.foldl (sK sd n) st,Zt<|.list<|((nY sd lo hi).map<|X3 aV).map Y2,Yt (.list (dn.map λcs=>jZ (cs.map (·.1)))),none,none,none]) ?_ ?_
   ⟨[],dY sd lo hi,rfl,rfl,rfl⟩
  .rintro d ds ρ ⟨dn,e,hd,v,rfl⟩ N hN;cases e with
   |nil=>cases v
   |cons cs e =>
    cases v;have M:cs∈dY sd lo hi:=by rw[<-hd];simp
    have hw:=nr cs M;have ft:=EY hw;rw[g0]at ft;refine⟨cs,rfl,by lia,l cs M,λo=>?_⟩;refine⟨_,rfl,sd,cs.map (λx:Int×Int=>x.1),rfl,A0 k<|K1 _ _,λs hs=>⟨by have:=j.p s hs;exact Q1<|X2.1<|G1 this,by have:=zJ j.p s hs;lia⟩,λo=>?_⟩;have O:=oW hw;obtain⟨i,R⟩:=Z5 O.1;have hbl2:(dn.foldl (sK sd n) st).length=(EZ sd).length:=by rw[lK,ag]
    have hs1:=GN<|l cs M;have hv:lV ((dn.foldl (sK sd n) st).map q0) (CJ sd (cs.map (·.1)))=some (.int<|(dn.foldl (sK sd n) st).getD i 0):=by rw[R];exact BD (by lia)
    refine⟨_,hv,_,rfl,.inl ⟨by lia,by lia⟩,i,by rw[g0,R];exact JC<|by lia,?_⟩;have e4:((dn.foldl (sK sd n) st).map q0).set i (.int<|(dn.foldl (sK sd n) st).getD i 0+AK cs*n)=((dn++[cs]).foldl (sK sd n) st).map q0:=by rw[AQ,S4,List.foldl_nil,sK,List.map_set,R];rfl
    have U:dn.length<=8:=by
     have:=Te E5 hd;rw[R0]at this
     lia
    refine⟨_,rfl,by rw[g0];exact W0 U<|by decide,?_⟩;refine hN _ ⟨dn++[cs],e,by rw[<-hd];simp,rfl,?_⟩;have e5:ZJ ((dn++[cs]).foldl (sK sd n) st)=.list (((dn.foldl (sK sd n) st).map q0).set i<|.int<|(dn.foldl (sK sd n) st).getD i 0+AK cs*n):=Te Y2 e4.symm;rw[e5,U2];rfl
  .rintro ρ ⟨dn,e,hd,v,rfl⟩;cases e with
   |nil=>rw[Z2]at hd;subst hd;exact q _ _
   |cons _ _=>cases v
variable (P w K mg base) in
structure CalsNx:Prop where
 Kp:Cal P w K mg base 2 "_law_take" ["_law_state","_law_most"] (iZ K oF)
 Wr:Cal P w K mg base 3 "_law_box" ["_law_state","_law_sides_here"] (iZ K nM)
def Wc:Con:=λa Q=>∃(ns:Qn) (k l:Int) (sd:Qn) (b:Qn×Qn),a=[.io<|cJ ns k l,.fz<|jZ sd,.fz<|KY b]/\0<=k/\0<=l/\Sd sd/\Bx b.1 b.2 sd /\
 ∀(b:Qn×Qn) (c d:Int) (o:Ev),Bx b.1 b.2 sd->0<=c->0<=d->Q (.fz<|KY b) (some (.io<|cJ ns c d)::o)
theorem u_(F:Co K "_law_next_box" (top 63) f fd)(T:Txt mg)(C:CalsNx P w K mg base):FnOk P w K mg base VJ 4 f fd ["_law_state","_law_sides_here","_law_ahead"] (iZ K Wc):=by
 have S:FnScope ["_law_state","_law_sides_here","_law_ahead","_law_way","_law_box_here"] ["_law_state","_law_sides_here","_law_ahead"] (kZ<|top 63):={};refine GK F S (λye A outer s H E a=>hZ (FZ 3<|jJ C.Kp a.m<|IZ 0<|lZ OZ)<|hZ (aK (Xj a (wn 3) oZ) (uD 2) sJ)<|hZ (aK (Xj a (wn 3) oZ) (PZ<|aJ<|LZ (YW T.Xo<|lZ<|mY (wx<|kJ<|lZ OZ)<|wx<|BW T.Qo<|tZ 1)<|lZ<|YW T.Xo<|lZ<|SK ["_law_side"] [] (fJ rfl<|wv 1)<|λ_ _ _ _=>ZW (wn 0) oZ) sJ)<|hZ (FZ 4<|jJ C.Wr a.m<|IZ 0<|tZ 1)<|hZ (aK (Xj a (wn 3) oZ) (PZ<|aJ<|LZ (MZ (wn 4) oZ)<|lZ<|MZ (wn 4) oZ) sJ)<|uD 4) ?_;rintro y Qd ⟨ns,k,l,sd,b,rfl,O,hl,c,R,q⟩;have U:=c.l3;refine⟨ns,k,l,_,rfl,O,hl,by decide,by decide,λr i l1 _ r0 r1 j t=>?_⟩;refine HJ (λh=>?_)<|λh=>?_
 .exact q b i l1 _ R j t
 refine HJ (λY=>?_)<|λY=>?_
 .refine⟨by rw[g0];lia,by rw[g0];lia,?_,?_⟩
  .rw[g0];show 1*((sd.length:Nat):Int).toNat<=sizeLine;exact rZ (by lia)
  have v:(B1 ((((sd.map q0).length:Nat):Int)).toNat [q0 0]).flatten=(sd.map λ_=>(0:Int)).map q0:=by rw[g0,B4];exact AE _
  have x:(sd.map q0).map Yb=(sd.map λs=>s-1).map q0:=by rw[O0,O0];rfl
  refine⟨rZ (by rw[g0];exact A0 U<|K1 _ _),iK Yb (λd hd N hN=>?_) ?_⟩
  .obtain⟨s,_,rfl⟩:=M0.mp hd;exact hN
  have B:=q (sd.map λ_=>0,sd.map λs=>s-1) i l1;have e:KY (sd.map λ_=>0,sd.map λs=>s-1)=.tuple [.tuple (B1 ((((sd.map q0).length:Nat):Int)).toNat [q0 0]).flatten,.tuple<|(sd.map q0).map Yb]:=by rw[v,x]
  rw[e]at B;exact B _ (zE c.p) j t
 refine⟨ns,i,l1,sd,rfl,j,t,c,λb2 G l2 _ I L M=>?_⟩;refine HJ (λZ=>?_)<|λZ=>?_
 .exact⟨_,rfl,_,rfl,q (b2.1,b2.1) G l2 _ (SN I) L M⟩
 .exact q b2 G l2 _ I L M
theorem Qz{s:Str}:(!decide (s=s))=false:=by simp
theorem QD{c:Int}(h:c.natAbs<10 ^ 32):(q0 c).shown.length<=33/\(q0 c).showable=true:=⟨bF (k:=32) (by decide) h,AV (k:=140) (B0 h<|by decide)<|by decide⟩
theorem pS{l:Qn}(h:∀c∈l,c.natAbs<10 ^ 32):(jZ l).shown.length<=l.length*35+3/\(jZ l).showable=true:=by
 refine⟨?_,L3.showableAll_of λd hd=>?_⟩
 .have e:=bW (l:=l.map q0) (b:=33) λd hd=>by
   obtain⟨c,a,rfl⟩:=M0.mp hd;exact(QD<|h c a).1
  rw[g0]at e;exact A0 e<|P0 rfl
 .obtain⟨c,a,rfl⟩:=M0.mp hd;exact(QD<|h c a).2
theorem qS{a b:Oe}(c:a.shown.length<=n/\a.showable=true)(e:b.shown.length<=n/\b.showable=true):(O1 [a,b]).shown.length<=2*n+7/\(O1 [a,b]).showable=true:=by
 refine⟨?_,L3.showableAll_of λd hd=>?_⟩
 .have i:=bW (l:=[a,b]) (b:=n) λd hd=>by
   simp only[E1,O8,or_false]at hd;rcases hd with rfl|rfl
   .exact c.1
   .exact e.1
  exact A0 i (by simp only[L1,U5];exact P0 rfl)
 .simp only[E1,O8,or_false]at hd;rcases hd with rfl|rfl
  .exact c.2
  .exact e.2
theorem Vw:∀lo p hi:Qn,RK lo p hi=wU lo p hi
 |a::lo,x::p,b::hi=>by show ((decide (a<=x)&&decide (x<=b))&&RK lo p hi)=((decide (a<=x)&&decide (x<=b))&&wU lo p hi);rw[Vw lo p hi]
 |[],_,_=>by simp[RK,wU]
 |_::_,[],_=>by simp[RK,wU]
 |_::_,_::_,[]=>by simp[RK,wU]
theorem Rz(a:∀c∈sd,1<=c)(hl:cl.length=(EZ sd).length)(h:Bx lo hi sd):(((EZ sd).zip cl).filter λr=>RK lo r.1 hi).map (·.2)=eJ sd cl lo hi:=by
 rw[<-fE a hl h];unfold Pb;have e:(λr:Qn×Int=>RK lo r.1 hi)=λr=>wU lo r.1 hi:=by funext r;exact Vw _ _ _
 rw[e]
noncomputable def Vz(sd cl lo hi:Qn)(n:Int):Qn:=((EZ sd).zip cl).map λx=>x.2+n*(if RK lo x.1 hi=true then 1 else 0)
theorem rS{n:Int}(hl:cl.length=(EZ sd).length):(Vz sd cl lo hi n).length=(EZ sd).length:=by unfold Vz;rw[g0,P2];exact o5<|P0 hl.symm
theorem v_{n b:Int}(h:Bd b cl)(e:-(10 ^ 30)<n/\n<10 ^ 30):Bd (b+10 ^ 30) (Vz sd cl lo hi n):=λc d=>by obtain⟨x,hx,rfl⟩:=M0.mp d;have i:=h x.2 (x6 (a:=x.1) (b:=x.2) hx).2;split<;>lia
theorem Ww{n:Int}(a:∀c∈sd,1<=c)(hl:cl.length=(EZ sd).length)(e:Bx lo hi sd):KJ sd (GJ sd cl) lo hi n=GJ sd (Vz sd cl lo hi n)/\aG sd (KJ sd (GJ sd cl) lo hi n)=Vz sd cl lo hi n:=by
 have d:(GJ sd cl).length=(EZ sd).length:=by simp[GJ,AJ a]
 have b:=tM (n:=n) a d e;rw[KN a<|by rw[hl,AJ a]]at b;have b:aG sd (KJ sd (GJ sd cl) lo hi n)=Vz sd cl lo hi n:=b;refine⟨?_,b⟩;rw[<-b,P' a<|by rw[KJ,lK,d,AJ a]]
theorem MM{l:Qn}(h:∀c∈l,c.natAbs<10 ^ 32)(i:l.length<=n)(j:n<=200):(ZJ l).showable=true/\(ZJ l).shown.length<=7500:=by
 refine⟨L3.showableAll_of λd hd=>?_,?_⟩
 .obtain⟨c,a,rfl⟩:=M0.mp hd;exact(QD<|h c a).2
 .have e:=GH (l:=l.map q0) (b:=33) λd hd=>by
   obtain⟨c,a,rfl⟩:=M0.mp hd;exact(QD<|h c a).1
  rw[g0]at e;exact A0 e (by lia)
theorem NM(k:Sd sd)(y:Bx lo hi sd):(Y2 ((dY sd lo hi).map λcs=>jZ (cs.map (·.1)))).showable=true/\(Y2 ((dY sd lo hi).map λcs=>jZ (cs.map (·.1)))).shown.length<=7500:=by
 have B:=k.l3;have L:=k.m;have C:=xW (lo:=lo) (hi:=hi) B;have key:∀cs∈dY sd lo hi,(jZ (cs.map (·.1))).shown.length<=120/\(jZ (cs.map (·.1))).showable=true:=λcs j=>by
  have hw:=eG y<|nJ j;have hl:=EY hw;have t:=pS (l:=cs.map (·.1)) λc a=>by
   obtain⟨i,hi,M⟩:=O6.mp a;have e:(120:Nat)<10 ^ 32:=by decide
   have q:∀{p sd:Qn},Wi p sd->∀c∈p,∃s∈sd,0<=c/\c<s:=by
    intro p;induction p with
    |nil=>intro sd _ c a;cases a
    |cons x p F =>
     intro sd h c a;cases sd with
     |nil=>exact h.elim
     |cons s sd =>
      rcases E1.mp a with rfl|a
      .exact⟨s,L0,h.1⟩
      .obtain⟨s',G,h'⟩:=F h.2 c a;exact⟨s',G0 _ G,h'⟩
   obtain⟨s,I,O,R⟩:=q hw c a;have:=zJ k.p s I
   lia
  exact⟨A0 t.1 (by rw[hl];lia),t.2⟩
 refine⟨L3.showableAll_of λd hd=>?_,?_⟩
 .obtain⟨cs,j,rfl⟩:=M0.mp hd;exact(key cs j).2
 .have v:=GH (l:=(dY sd lo hi).map λcs=>jZ (cs.map (·.1))) (b:=120) λd hd=>by
   obtain⟨cs,j,rfl⟩:=M0.mp hd;exact(key cs j).1
  rw[g0]at v;exact A0 v (by lia)
theorem OM{n:Int}(a:Sd sd)(hl:cl.length=(EZ sd).length)(j:Bx lo hi sd)(h:Bd (10 ^ 31) (Vz sd cl lo hi n)):Nice 3 (Pz sd (GJ sd cl) lo hi n)/\(Pz sd (GJ sd cl) lo hi n).showable=true/\(Pz sd (GJ sd cl) lo hi n).shown.length<=sizeLine:=by
 have B:=a.m;have C:=vK a.p;have e:=(Ww (n:=n) a.p hl j).1;have b:=X' (by decide) a.l3 h;rw[<-e]at b;have v:(KJ sd (GJ sd cl) lo hi n).length<=120:=by
  rw[e];have:(GJ sd<|Vz sd cl lo hi n).length=(EZ sd).length:=by simp[GJ,AJ a.p]
  lia
 have k:=MM (l:=KJ sd (GJ sd cl) lo hi n) (λc x=>by have:=b c x;omega) v (by decide);have q:=NM a j;have t:=qS (And.intro k.2 k.1)<|And.intro q.2 q.1;have i:2*7500+7<=sizeLine:=by decide
 have y:Nice 3 (Pz sd (GJ sd cl) lo hi n):=Nice.tuple (n:=2) λd hd=>by
  rcases E1.mp hd with rfl|hd
  .exact(Nice.ints _).mono (by decide)
  .rcases E1.mp hd with rfl|hd
   .exact .list λd hd=>by obtain⟨cs,_,rfl⟩:=M0.mp hd;exact Nice.tup _
   .cases hd
 exact⟨y,t.2,A0 t.1 i⟩
noncomputable def sS(n:Int)(lo hi:Qn):Oe->Oe
 | .tuple [.tuple a,.int c]=>.int<|c+n*(if RK lo (a.map unI) hi=true then 1 else 0)
 |_=>.none
theorem Xw(n:Int)(lo hi:Qn)(x:Qn×Int):sS n lo hi (ES x)=.int (x.2+n*(if RK lo x.1 hi=true then 1 else 0)):=by show q0 (x.2+n*(if RK lo ((x.1.map q0).map unI) hi=true then 1 else 0))=_;rw[RJ]
noncomputable def w_(lo hi:Qn):Oe->Bool
 | .tuple [.tuple a,_]=>RK lo (a.map unI) hi
 |_=>false
theorem Ox(lo hi:Qn)(x:Qn×Int):w_ lo hi (ES x)=RK lo x.1 hi:=by show RK lo ((x.1.map q0).map unI) hi=_;rw[RJ]
noncomputable def uS:Oe->Oe
 | .tuple [_,c]=>c
 |_=>.none
theorem Yw(lo hi:Qn)(a:List (Qn×Int)):((a.map ES).filter<|w_ lo hi).map uS=((a.filter λr=>RK lo r.1 hi).map (·.2)).map q0:=by
 rw[cQ,O0,O0];have e:(w_ lo hi∘ES)=λr=>RK lo r.1 hi:=by funext r;exact Ox lo hi r
 rw[e];rfl
theorem PM(v:Sd sd)(hl:cl.length=(EZ sd).length)(t:Bx lo hi sd)(h:Bd (10 ^ 31) cl):(jZ<|Gz sd cl (lo,hi)).showable=true/\(jZ<|Gz sd cl (lo,hi)).shown.length<=sizeLine:=by
 have a:∀x∈eJ sd cl lo hi,-(10 ^ 31)<=x/\x<=10 ^ 31:=λx hx=>by
  obtain⟨p,C,rfl⟩:=M0.mp hx;have hi:=oW<|Ex t C;have O:=vK v.p;have F:(CJ sd p).toNat<cl.length:=by omega
  unfold OE;rw[X0,J0 F];exact h _<|X5 _
 have G:(eJ sd cl lo hi).length<=120:=by
  have I:=(HD t).1;have j:=v.m;have e:(eJ sd cl lo hi).length=yJ ((lo.zip hi).map λq=>OJ q.1 q.2):=by unfold eJ rF;rw[g0,dJ];simp
  exact le_of_eq_of_le e<|c8.1<|E2 I j
 have y:=UU (cl:=cl) t;have R:=a _ (PK y).1;have hx:=a _ (QK y).1;have L:=TC (f:=λx:Int=>x) a;rw[List.map_id']at L;have U:((eJ sd cl lo hi).length:Int)*10 ^ 31<=120*10 ^ 31:=v5 (c8.2 G) (by decide);have key:∀c∈Gz sd cl (lo,hi),c.natAbs<10 ^ 40:=λc i=>by have i:c∈[(eJ sd cl lo hi).sum,SU<|eJ sd cl lo hi,TU<|eJ sd cl lo hi]:=i;simp only[E1,O8,or_false]at i;rcases i with rfl|rfl|rfl<;>omega
 have B:∀c∈Gz sd cl (lo,hi),(q0 c).shown.length<=41/\(q0 c).showable=true:=λc i=>⟨bF (k:=40) (by decide)<|key c i,AV (k:=140) (B0 (key c i)<|by decide)<|by decide⟩;refine⟨L3.showableAll_of λd hd=>?_,?_⟩
 .obtain⟨c,a,rfl⟩:=M0.mp hd;exact(B c a).2
 .have j:=bW (l:=(Gz sd cl (lo,hi)).map q0) (b:=41) λd hd=>by
   obtain⟨c,a,rfl⟩:=M0.mp hd;exact(B c a).1
  have M:((Gz sd cl (lo,hi)).map q0).length=3:=rfl;rw[M]at j;exact A0 j (by decide)
theorem both{d:Oe}{a:Sl->Prop}(h:a (.fz d))(k:a (.fz d)->a (.ow d)):∀s,(s=.ow d\/s=.fz d)->a s
 |_,.inl rfl=>k h
 |_,.inr rfl=>h
variable (P w K mg base) in
structure CalsL:Prop where
 Ds:Cal P w K mg base 1 "_law_begin" ["_law_script"] (iZ K vC)
 Ho:Cal P w K mg base 3 "_law_sides" ["_law_state","_law_most"] (iZ K ax)
 Wp:Cal P w K mg base 1 "_law_places" ["_law_sides_here"] (iZ K MV)
 Dt:Cal P w K mg base 4 "_law_cells" ["_law_state","_law_many"] (iZ K zC)
 Ao:Cal P w K mg base 4 "steps_of" ["field"] (iZ K QC)
 Kp:Cal P w K mg base 2 "_law_take" ["_law_state","_law_most"] (iZ K oF)
 Wr:Cal P w K mg base 3 "_law_box" ["_law_state","_law_sides_here"] (iZ K nM)
 Ap:Cal P w K mg base 4 "_law_next_box" ["_law_state","_law_sides_here","_law_ahead"] (iZ K Wc)
 Kr:Cal P w K mg base 3 "_law_number" ["_law_state"] (iZ K OU)
 Ar:Cal P w K mg base 2 "_law_due" ["_law_sides_here","_law_steps","_law_box_here","_law_number_here"] (iZ K t_)
 As:Cal P w K mg base 2 "lifted" ["sides","steps","box","number"] (iZ K BE)
 Wt:Cal P w K mg base 1 "_law_lies" ["_law_box_here","_law_place"] (iZ K LC)
 Bo:Cal P w K mg base 3 "field_by" ["sides","steps"] (iZ K Jc)
 Uo:Cal P w K mg base 3 "is_field" ["thing"] (iZ K Ob)
 Bp:Cal P w K mg base 7 "sum_in" ["field","box"] (iZ K sE)
 Vo:Cal P w K mg base 3 "sum_by_running" ["sides","table","box"] (iZ K LR)
 Up:Cal P w K mg base 2 "running_of" ["field"] (iZ K qx)
 Br:Cal P w K mg base 4 "by_halves" ["sides","table","box"] (iZ K Uc)
 Bt:Cal P w K mg base 7 "halves_of" ["field"] (iZ K Pc)
def FE:Con:=λa Q=>∃ns:Qn,a=[.fz<|JJ ns]/\ns.length<=63/\∀o,Q (.fz<|.bool true) o
theorem QM{K:K0}{a:Ee}{ns:Qn}(hl:ns.length<=63)(h:SqL K H a (ns.map V.int)):iZ K FE [.ref a] H (λv _=>v=.bl true) λ_ _ _=>Ln:=by
 refine⟨⟨H,H,λ_=>none⟩,H,[.fz<|JJ ns],λr _=>r=.fz (.bool true),?_,⟨ns,rfl,hl,λ_=>rfl⟩,?_⟩
 .refine⟨rfl,Sub.refl _,Sub.refl _,λa o h=>.inl h,λa o h _=>h,?_,?_,?_,?_,?_,?_⟩
  .intro i d e;cases i with
   |zero=>cases e;exact⟨_,rfl,.scr h⟩
   |succ i=>cases e
  .intro i s e w;cases i with
   |zero=>cases e;cases w
   |succ i=>cases e
  .intro i d a e;cases i with
   |zero=>cases e
   |succ i=>cases e
  .intro i a e;cases e
  .intro i d e;cases i with
   |zero=>cases e
   |succ i=>cases e
  .intro i j s t a e w;cases i with
   |zero=>cases e;cases w
   |succ i=>cases e
 .intro v H' c r k _ _ b e;subst e;have b:Da K c v (.bool true):=b;cases b;rfl
theorem vS(F:Co K "law" (top 64) f fd)(T:Txt mg)(C:CalsL P w K mg base):FnOk P w K mg base VJ 8 f fd ["_law_script"] (iZ K FE):=by
 have S:FnScope ["_law_script","_law_state","_law_sides_here","_law_places_here","_law_cells_here","_law_steps","_law_box_here","_law_number_here","_law_turn","_law_given","_law_due_here","_law_again","_law_found","_law_field","_law_some"] ["_law_script"] (kZ<|top 64):={};refine GK F S (λye A outer s H E j=>hZ (FZ 1<|KZ C.Ds j.m<|tZ 0)<|hZ (FZ 2<|jJ C.Ho j.m<|IZ 1<|lZ OZ)<|hZ (FZ 3<|KZ C.Wp j.m<|tZ 2)<|hZ (FZ 4<|jJ C.Dt j.m<|IZ 1<|lZ<|BW T.Qo<|tZ 3)<|hZ (FZ 5<|KZ C.Ao j.m<|lZ<|aJ<|LZ (wv 2)<|lZ<|YW T.Xo<|tZ 4)<|hZ (FZ 6<|jJ C.Wr j.m<|IZ 1<|tZ 2)<|hZ (FZ 7<|jJ C.Kr j.m<|tZ 1)<|hZ (jW [8,9,10,11] (gU T.Xp<|lZ<|jJ C.Kp j.m<|IZ 1<|lZ OZ) (SZ 8)<|hZ (FZ 6<|jJ C.Ap j.m<|IZ 1<|IZ 2<|tZ 6)<|hZ (FZ 7<|MZ (wx<|kJ<|LZ (jJ C.Kr j.m<|tZ 1)<|LZ (jJ C.Kr j.m<|tZ 1)<|LZ (ZW oZ<|wn 7)<|lZ OZ)<|wx<|jJ C.Kp j.m<|IZ 1<|lZ OZ)<|hZ (FZ 9<|WK vV (JK (K:=K) rfl) T.Xn Zh<|tZ 5)<|hZ (FZ 10<|KZ C.Ar j.m<|LZ (wv 2)<|LZ (wv 5)<|LZ (wv 6)<|lZ<|wv 7)<|hZ (jW [11,12] (gU T.Xp<|lZ OZ) (SZ 11)<|bM C.As j.m rfl (wn 2) (wn 9) (wn 6) (wn 7) S.nd rfl (Or.inl rfl) (wn 12) (wn 12)<|ME<|CH (IW<|GY<|GB .tup rfl T.Qr T.Xo Ei<|wn 12)<|CH (tD j (wx<|BZ KU (zY (K:=K) rfl j) T.Zo Um<|tZ 12)<|wx<|BZ KU (zY (K:=K) rfl j) T.Zo Um<|tZ 10)<|qU<|tD j (wn 9)<|wn 5)<|hZ (FZ 5<|MZ (wn 10) oZ)<|hZ (gD (i:=4) S.nd rfl rfl rfl (own:=["_law_place","_law_cell"]) (fr:=[7,6]) (by kernel_rfl) (ZY rfl T.Xr<|LZ (wv 3)<|lZ<|wv 4) (λ_ _ _ _=>LK rfl rfl<|uZ (SZ 0)<|uZ (SZ 1) TJ) (λ_ _ _ _=>pA)<|λ_ _ _ _=>bK (wn 1)<|wx<|mY (wn 2)<|wx<|WK sP qv T.Qs boot_int<|lZ<|KZ C.Wt j.m<|IZ 3<|tZ 0)<|hZ (FZ 13<|KZ C.Bo j.m<|IZ 2<|lZ<|WK vV (JK (K:=K) rfl) T.Xn Zh<|tZ 5)<|hZ (aK (ME<|CH (tD j (wn 13)<|wx<|aJ<|LZ (wv 2)<|lZ<|YW T.Xo<|tZ 4)<|qU<|SJ GL oy (wx<|KZ C.Uo j.m<|tZ 13)<|wx zH) (PZ zH) sJ)<|TZ<|aK (tD j (wx<|KZ C.Bp j.m<|IZ 13<|tZ 6)<|wx<|BZ XY (XJ (K:=K) rfl rfl) T.Xt Ci<|lZ<|Eb ["_law_place","_law_cell"] [6] (ZY rfl T.Xr<|LZ (wv 3)<|lZ<|wv 4) (λ_ _ _ _=>LK rfl rfl<|uZ (SZ 0)<|uZ (SZ 1) TJ) (λ_ _ _ _=>Dc<|GY<|KZ C.Wt j.m<|IZ 2<|tZ 0)<|λ_ _ _ _=>wv 1) (PZ zH) sJ)<|hZ (FZ 13<|KZ C.Bo j.m<|IZ 2<|lZ<|WK vV (JK (K:=K) rfl) T.Xn Zh<|tZ 5)<|hZ (gD (i:=14) S.nd rfl rfl rfl (own:=["_law_place","_law_cell"]) (fr:=[6]) (by kernel_rfl) (ZY rfl T.Xr<|LZ (wv 3)<|lZ<|wv 4) (λ_ _ _ _=>LK rfl rfl<|uZ (SZ 0)<|uZ (SZ 1) TJ) (λ_ _ _ _=>Dc<|GY<|KZ C.Wt j.m<|IZ 2<|tZ 0)<|λ_ _ _ _=>wv 1)<|hZ (aK (tD j (wx<|KZ C.Vo j.m<|IZ 2<|LZ (KZ C.Up j.m<|tZ 13)<|tZ 6)<|wx<|BZ XY (XJ (K:=K) rfl rfl) T.Xt Ci<|tZ 14) (PZ zH) sJ)<|hZ (aK (tD j (wx<|BZ KU (zY (K:=K) rfl j) T.Zo Um<|lZ<|KZ C.Br j.m<|IZ 2<|LZ (KZ C.Bt j.m<|tZ 13)<|tZ 6)<|wx<|BZ KU (zY (K:=K) rfl j) T.Zo Um<|lZ<|aJ<|LZ (BZ XY (XJ (K:=K) rfl rfl) T.Xt Ci<|tZ 14)<|LZ (BZ Nj (IH (K:=K) rfl rfl) T.Zs Hn<|tZ 14)<|lZ<|BZ Oj (KH (K:=K) rfl rfl) T.Jp boot_max<|tZ 14) (PZ zH) sJ)<|PZ<|Jk fN (zB (K:=K) rfl j.units) (wx<|KZ C.Ao j.m<|tZ 13)<|wn 5) ?_;rintro args Qd ⟨ns,rfl,hn,q⟩;with_reducible refine FJ (λρ=>ρ=[Zt<|JJ ns,Yt<|cJ ns 0 0,none,none,none,none,none,none,none,none,none,none,none,none,none]) ?_ ?_
 .intro N hN;exact⟨ns,rfl,λo=>hN _ rfl⟩
 rintro _ rfl;with_reducible refine FJ (λρ=>∃(sd:Qn) (k l:Int),Sd sd/\0<=k/\0<=l/\ρ=[Zt<|JJ ns,Yt<|cJ ns k l,Zt<|jZ sd,none,none,none,none,none,none,none,none,none,none,none,none]) ?_ ?_
 .intro N hN;exact⟨ns,0,0,120,rfl,by decide,by decide,by decide,by decide,λsd k1 l1 _ a hpm yf gf=>hN _ ⟨sd,k1,l1,a,yf,gf,rfl⟩⟩
 rintro _ ⟨sd,k,l,a,y,hl,rfl⟩;have h120:=a.m;have h3:=a.l3;have cf:=vK a.p;have vi:=PJ a.p;have hkm:((EZ sd).map jZ).length=(EZ sd).length:=g0 ..;with_reducible refine FJ (λρ=>ρ=[Zt<|JJ ns,Yt<|cJ ns k l,Zt<|jZ sd,Yt<|.list<|(EZ sd).map jZ,none,none,none,none,none,none,none,none,none,none,none]) ?_ ?_
 .intro N hN;exact⟨sd,.inl rfl,a.p,by lia,h3,λo=>hN _ rfl⟩
 rintro _ rfl;with_reducible refine FJ (λρ=>∃(cl:Qn) (k l:Int),cl.length=(EZ sd).length/\Bd (10 ^ 30) cl/\0<=k/\0<=l/\ρ=[Zt<|JJ ns,Yt<|cJ ns k l,Zt<|jZ sd,Yt<|.list<|(EZ sd).map jZ,Yt<|ZJ cl,none,none,none,none,none,none,none,none,none,none]) ?_ ?_
 .intro N hN;exact⟨ns,k,l,(EZ sd).length,by rw[hkm];rfl,y,hl,by lia,λcs k2 l2 _ dg hB eg af=>hN _ ⟨cs,k2,l2,dg,λc Y=>(by have:=hB c Y;unfold K' at this;exact⟨Q1 this.1,Q1 this.2⟩),eg,af,rfl⟩⟩
 clear y hl;rintro _ ⟨cl,k,l,L,Z,y,hl,rfl⟩;with_reducible refine FJ (λρ=>ρ=[Zt<|JJ ns,Yt<|cJ ns k l,Zt<|jZ sd,Yt<|.list<|(EZ sd).map jZ,Yt<|ZJ cl,Yt<|ZJ<|GJ sd cl,none,none,none,none,none,none,none,none,none]) ?_ ?_
 .intro N hN;exact⟨sd,cl,rfl,a,L,λo=>hN _ rfl⟩
 rintro _ rfl;with_reducible refine FJ (λρ=>∃(b:Qn×Qn) (k l:Int),Bx b.1 b.2 sd/\0<=k/\0<=l/\ρ=[Zt<|JJ ns,Yt<|cJ ns k l,Zt<|jZ sd,Yt<|.list<|(EZ sd).map jZ,Yt<|ZJ cl,Yt<|ZJ<|GJ sd cl,Zt<|KY b,none,none,none,none,none,none,none,none]) ?_ ?_
 .intro N hN;exact⟨ns,k,l,sd,rfl,y,hl,a,λb k2 l2 _ v eg af=>hN _ ⟨b,k2,l2,v,eg,af,rfl⟩⟩
 clear y hl;rintro _ ⟨b,k,l,v,y,hl,rfl⟩;with_reducible refine FJ (λρ=>∃n k l:Int,(-(10 ^ 30)<n/\n<10 ^ 30)/\0<=k/\0<=l/\ρ=[Zt<|JJ ns,Yt<|cJ ns k l,Zt<|jZ sd,Yt<|.list<|(EZ sd).map jZ,Yt<|ZJ cl,Yt<|ZJ<|GJ sd cl,Zt<|KY b,Zt<|.int n,none,none,none,none,none,none,none]) ?_ ?_
 .intro N hN;exact⟨ns,k,l,rfl,y,hl,λn k2 l2 _ eg af n0 n1=>hN _ ⟨n,k2,l2,⟨n0,n1⟩,eg,af,rfl⟩⟩
 clear y hl;rintro _ ⟨n,k,l,yh,y,hl,rfl⟩;with_reducible refine FJ (λρ=>∃(cl:Qn) (b:Qn×Qn) (n k l:Int) (B G O:Sl) (I:Jn Sl),(B=.ow (.list<|(EZ sd).map jZ)\/B=.fz (.list<|(EZ sd).map jZ))/\(G=.ow (ZJ cl)\/G=.fz (ZJ cl))/\(O=.ow (ZJ<|GJ sd cl)\/O=.fz (ZJ<|GJ sd cl))/\(I=none\/∃d,I=Zt d)/\cl.length=(EZ sd).length/\Bx b.1 b.2 sd/\(-(10 ^ 30)<n/\n<10 ^ 30)/\0<=k/\0<=l/\Bd (10 ^ 31) cl/\ρ=[Zt<|JJ ns,Yt<|cJ ns k l,Zt<|jZ sd,some B,some G,some O,Zt<|KY b,Zt<|.int n,none,none,none,none,none,I,none]) ?_ ?_
 .intro N0 hN0;refine⟨ns,k,l,_,rfl,y,hl,by decide,by decide,λtn k4 l4 _ t0 t1 gi fi=>?_⟩;refine⟨by lia,by lia,?_⟩;refine nK (λrest ρ=>∃(cl:Qn) (b:Qn×Qn) (n k l:Int) (B G O:Sl) (I:Jn Sl),(B=.ow (.list<|(EZ sd).map jZ)\/B=.fz (.list<|(EZ sd).map jZ))/\(G=.ow (ZJ cl)\/G=.fz (ZJ cl))/\(O=.ow (ZJ<|GJ sd cl)\/O=.fz (ZJ<|GJ sd cl))/\(I=none\/∃d,I=Zt d)/\cl.length=(EZ sd).length/\Bx b.1 b.2 sd/\(-(10 ^ 30)<n/\n<10 ^ 30)/\0<=k/\0<=l/\Bd ((9-(rest.length:Int))*10 ^ 30) cl/\rest.length<=7/\ρ=[Zt<|JJ ns,Yt<|cJ ns k l,Zt<|jZ sd,some B,some G,some O,Zt<|KY b,Zt<|.int n,none,none,none,none,none,I,none]) ?_ ?_ ⟨cl,b,n,k4,l4,_,_,_,none,.inl rfl,.inl rfl,.inl rfl,.inl rfl,L,v,yh,gi,fi,λc Y=>?_,?_,rfl⟩
  .clear y hl v yh Z L gi fi;rintro d ds ρ ⟨cl,b,n,k,l,B,G,O,I,hpx,hcx,yo,U,L,v,yh,y,hl,Z,hrl,rfl⟩ M hM;rw[L1]at hrl Z;have hbd9:Bd (8*10 ^ 30) cl:=λc Y=>(by have:=Z c Y;lia);with_reducible refine Bb rfl ?_
   with_reducible refine FJ (λρ=>∃(b:Qn×Qn) (k l:Int),Bx b.1 b.2 sd/\0<=k/\0<=l/\ρ=[Zt<|JJ ns,Yt<|cJ ns k l,Zt<|jZ sd,some B,some G,some O,Zt<|KY b,Zt<|.int n,Zt d,none,none,none,none,I,none]) ?_ ?_
   .intro N hN;exact⟨ns,k,l,sd,b,rfl,y,hl,a,v,λb2 k2 l2 _ yg eg af=>hN _ ⟨b2,k2,l2,yg,eg,af,rfl⟩⟩
   clear y hl v;rintro _ ⟨b,k,l,v,y,hl,rfl⟩;with_reducible refine FJ (λρ=>∃n k l:Int,(-(10 ^ 30)<n/\n<10 ^ 30)/\0<=k/\0<=l/\ρ=[Zt<|JJ ns,Yt<|cJ ns k l,Zt<|jZ sd,some B,some G,some O,Zt<|KY b,Zt<|.int n,Zt d,none,none,none,none,I,none]) ?_ ?_
   .intro N hN;refine⟨ns,k,l,rfl,y,hl,λr1 k1 l1 _ yf gf a0 a1=>⟨ns,k1,l1,rfl,yf,gf,λr2 k2 l2 _ eg af b0 b1=>⟨ns,k2,l2,_,rfl,eg,af,by decide,by decide,λt k3 l3 _ t0 t1 qp zi=>?_⟩⟩⟩;rcases (show t=0\/t=1\/t=2\/t=3 by lia) with rfl|rfl|rfl|rfl
    .exact⟨_,rfl,hN _ ⟨r1,k3,l3,⟨a0,a1⟩,qp,zi,rfl⟩⟩
    .exact⟨_,rfl,hN _ ⟨r2,k3,l3,⟨b0,b1⟩,qp,zi,rfl⟩⟩
    .exact⟨_,rfl,hN _ ⟨0-n,k3,l3,⟨by lia,by lia⟩,qp,zi,rfl⟩⟩
    .exact⟨_,rfl,hN _ ⟨0,k3,l3,⟨by decide,by decide⟩,qp,zi,rfl⟩⟩
   clear y hl yh;rintro _ ⟨n,k,l,yh,y,hl,rfl⟩;have xg:(GJ sd cl).length=(EZ sd).length:=by simp[GJ,AJ a.p]
   obtain⟨lst,lru⟩:=Ww (n:=n) a.p L v;have hul:=rS (n:=n) (lo:=b.1) (hi:=b.2) L;have hub:=v_ (sd:=sd) (lo:=b.1) (hi:=b.2) Z yh;have hub9:Bd (10 ^ 31) (Vz sd cl b.1 b.2 n):=λc Y=>(by have:=hub c Y;lia);have hbl:=OK v;obtain⟨nL,sL,lL⟩:=OM (n:=n) a L v hub9;have dL:=nL.d;have R:=Nice.ints<|GJ sd cl;with_reducible refine FJ (λρ=>ρ=[Zt<|JJ ns,Yt<|cJ ns k l,Zt<|jZ sd,some B,some G,some O,Zt<|KY b,Zt<|.int n,Zt d,Yt<|ZJ<|GJ sd cl,none,none,none,I,none]) ?_ ?_
   .intro N hN;rcases yo with rfl|rfl
    .exact hN _ rfl
    .exact hN _ rfl
   rintro _ rfl;with_reducible refine FJ (λρ=>ρ=[Zt<|JJ ns,Yt<|cJ ns k l,Zt<|jZ sd,some B,some G,Zt<|ZJ<|GJ sd cl,Zt<|KY b,Zt<|.int n,Zt d,Yt<|ZJ<|GJ sd cl,Zt<|Pz sd (GJ sd cl) b.1 b.2 n,none,none,I,none]) ?_ ?_
   .intro N hN;rcases yo with rfl|rfl
    .exact⟨sd,GJ sd cl,b.1,b.2,n,rfl,a,xg,v,λo=>hN _ rfl⟩
    .exact⟨sd,GJ sd cl,b.1,b.2,n,rfl,a,xg,v,λo=>hN _ rfl⟩
   rintro _ rfl;with_reducible refine FJ (λρ=>ρ=[Zt<|JJ ns,Yt<|cJ ns k l,Zt<|jZ sd,some B,some G,Zt<|ZJ<|GJ sd cl,Zt<|KY b,Zt<|.int n,Zt d,Yt<|ZJ<|GJ sd cl,Zt<|Pz sd (GJ sd cl) b.1 b.2 n,none,none,I,none]) ?_ ?_
   .intro N hN;refine⟨by decide,by decide,?_⟩;generalize DZ 0 (2:Int).toNat=L2;refine nK (λrest ρ=>ρ=[Zt<|JJ ns,Yt<|cJ ns k l,Zt<|jZ sd,some B,some G,Zt<|ZJ<|GJ sd cl,Zt<|KY b,Zt<|.int n,Zt d,Yt<|ZJ<|GJ sd cl,Zt<|Pz sd (GJ sd cl) b.1 b.2 n,none,none,I,none]) ?_ ?_ rfl
    .rintro g gs ρ rfl N4 hN4;with_reducible refine Bb rfl ?_
     refine⟨sd,GJ sd cl,b.1,b.2,n,rfl,rfl,rfl,rfl,trivial,sd,GJ sd cl,b.1,b.2,n,rfl,a,xg,v,λx o=>⟨rfl,_,_,rfl,?_,?_⟩⟩
     .rw[g0,KJ,lK,xg];exact W0 (show _<=120 by lia) (by decide)
     .refine⟨nL.p,sL,by show (Pz sd (GJ sd cl) b.1 b.2 n).depth+1<=64;exact A0 (x8 dL _)<|K1 _ _,lL,nL.p,sL,by show (Pz sd (GJ sd cl) b.1 b.2 n).depth+1<=64;exact W0 dL<|by decide,lL,?_⟩;refine HJ (λh=>absurd (show (!decide ((Pz sd (GJ sd cl) b.1 b.2 n).shown=(Pz sd (GJ sd cl) b.1 b.2 n).shown))=true from h)<|by rw[Qz];decide)<|λ_=>?_;refine⟨R.p,R.p,R.sh<|by decide,R.sh<|by decide,MK _ R.p,HJ (λh=>?_)<|λ_=>hN4 _ rfl⟩;have h:(!same (ZJ<|GJ sd cl) (ZJ<|GJ sd cl))=true:=h;rw[same_self]at h;cases h
    .rintro ρ rfl;exact hN _ rfl
   rintro _ rfl;with_reducible refine FJ (λρ=>ρ=[Zt<|JJ ns,Yt<|cJ ns k l,Zt<|jZ sd,some B,some G,Zt<|ZJ<|KJ sd (GJ sd cl) b.1 b.2 n,Zt<|KY b,Zt<|.int n,Zt d,Yt<|ZJ<|GJ sd cl,Zt<|Pz sd (GJ sd cl) b.1 b.2 n,none,none,I,none]) ?_ ?_
   .intro N hN;exact⟨_,rfl,hN _ rfl⟩
   rintro _ rfl;with_reducible refine FJ (λρ=>ρ=[Zt<|JJ ns,Yt<|cJ ns k l,Zt<|jZ sd,Zt<|.list<|(EZ sd).map jZ,Yt<|ZJ<|Vz sd cl b.1 b.2 n,Zt<|ZJ<|KJ sd (GJ sd cl) b.1 b.2 n,Zt<|KY b,Zt<|.int n,Zt d,Yt<|ZJ<|GJ sd cl,Zt<|Pz sd (GJ sd cl) b.1 b.2 n,none,none,I,none]) ?_ ?_
   .intro N hN;have hz:=ux (EZ sd) cl;have e3:(((EZ sd).zip cl).map ES).map (sS n b.1 b.2)=(Vz sd cl b.1 b.2 n).map q0:=by
     unfold Vz;rw[O0,O0];exact U1 λx _=>Xw n b.1 b.2 x
    revert B;refine both ?_<|λh=>h;revert G;refine both ?_<|λh=>h;refine⟨by rw[hz,g0,P2];exact rZ<|by lia,?_⟩;rw[hz];refine iK (sS n b.1 b.2) ?_ ?_
    .intro d hd N' dm;obtain⟨x,hx,rfl⟩:=M0.mp hd;rw[Xw]at dm;refine⟨rfl,b.1,b.2,x.1,rfl,by lia,λo=>?_⟩;refine⟨.inr ?_,dm⟩;cases RK b.1 x.1 b.2<;>decide
    .rw[e3];exact hN _ (by rcases U with rfl|⟨d',rfl⟩<;>rfl)
   rintro _ rfl;with_reducible refine FJ (λρ=>ρ=[Zt<|JJ ns,Yt<|cJ ns k l,Zt<|jZ sd,Zt<|.list<|(EZ sd).map jZ,Yt<|ZJ<|Vz sd cl b.1 b.2 n,Zt<|ZJ<|KJ sd (GJ sd cl) b.1 b.2 n,Zt<|KY b,Zt<|.int n,Zt d,Yt<|ZJ<|GJ sd cl,Zt<|Pz sd (GJ sd cl) b.1 b.2 n,none,none,Zt<|bV sd<|Vz sd cl b.1 b.2 n,none]) ?_ ?_
   .intro N hN;rcases U with rfl|⟨d',rfl⟩
    .refine⟨sd,KJ sd (GJ sd cl) b.1 b.2 n,_,rfl,.inr rfl,a,by rw[KJ,lK,xg],λo=>?_⟩;rw[lru];exact hN _ rfl
    .refine⟨sd,KJ sd (GJ sd cl) b.1 b.2 n,_,rfl,.inr rfl,a,by rw[KJ,lK,xg],λo=>?_⟩;rw[lru];exact hN _ rfl
   rintro _ rfl;have ar:=Rz a.p hul v;have nF:Nice 2 (bV sd<|Vz sd cl b.1 b.2 n):=.tuple λd hd=>by
    rcases E1.mp hd with rfl|hd
    .exact Nice.tup _
    .rcases E1.mp hd with rfl|hd
     .exact Nice.tup _
     .cases hd
   generalize Vz sd cl b.1 b.2 n=cm at hul hub hub9 ar nF lst lru hM ⊢;rw[lst];clear nL sL lL dL lst lru;generalize Pz sd (GJ sd cl) b.1 b.2 n=dd;with_reducible refine FJ (λρ=>ρ=[Zt<|JJ ns,Yt<|cJ ns k l,Zt<|jZ sd,Zt<|.list<|(EZ sd).map jZ,Yt<|ZJ cm,Zt<|ZJ<|GJ sd cm,Zt<|KY b,Zt<|.int n,Zt d,Yt<|ZJ<|GJ sd cl,Zt dd,none,none,Zt<|bV sd cm,none]) ?_ ?_
   .intro N hN;refine⟨nF.p,nF.p,nF.sh<|by decide,nF.sh<|by decide,MK _ nF.p,HJ (λh=>?_)<|λ_=>?_⟩
    .have h:(!same (bV sd cm) (bV sd cm))=true:=h;rw[same_self]at h;cases h
    .exact⟨sd,cm,rfl,a,hul,λo=>hN _ rfl⟩
   rintro _ rfl;refine⟨sd,cm,b.1,b.2,rfl,a,hul,v,λo=>?_⟩;have hz:=ux (EZ sd) cm;refine⟨by rw[hz,g0,P2];exact rZ<|by lia,?_⟩;rw[hz];refine lA (w_ b.1 b.2) uS (λd hd N' M' dm hM'=>?_) ?_
   .obtain⟨x,hx,rfl⟩:=M0.mp hd;rw[Ox]at dm hM';refine⟨rfl,b.1,b.2,x.1,rfl,by lia,λo=>?_⟩;cases z:RK b.1 x.1 b.2 with
    |true=>exact dm z
    |false=>exact hM' z
   rw[Yw,ar];refine⟨_,rfl,HJ (λh=>absurd (show (!decide ((eJ sd cm b.1 b.2).sum=(eJ sd cm b.1 b.2).sum))=true from h)<|by simp)<|λ_=>?_⟩;exact hM _ ⟨cm,b,n,k,l,_,_,_,_,.inr rfl,.inr rfl,.inr rfl,.inr ⟨_,rfl⟩,hul,v,yh,y,hl,λc Y=>(by have:=hub c Y;lia),N1 hrl,rfl⟩
  .rintro ρ ⟨cl,b,n,k,l,B,G,O,I,hpx,hcx,yo,U,L,v,yh,y,hl,Z,hrl,rfl⟩;exact hN0 _ ⟨cl,b,n,k,l,B,G,O,I,hpx,hcx,yo,U,L,v,yh,y,hl,λc Y=>(by have:=Z c Y;simp at this;lia),rfl⟩
  .have h1:=Z c Y;have h2:((DZ 0 tn.toNat).length:Int)<=7:=by rw[DZ,g0,N7];lia
   constructor<;>lia
  .rw[DZ,g0,N7]
   lia
 clear y hl v yh Z L;rintro _ ⟨cl,b,n,k,l,B,G,O,I,hpx,hcx,yo,U,L,v,yh,y,hl,Z,rfl⟩;have xg:(GJ sd cl).length=(EZ sd).length:=by simp[GJ,AJ a.p]
 have hru:aG sd (GJ sd cl)=cl:=KN a.p (by rw[L,AJ a.p]);have hbl:=OK v;have ar:=Rz a.p L v;have sf:=UU (cl:=cl) v;have h0:0<(eJ sd cl b.1 b.2).length:=Q8.mpr sf;obtain⟨sT,lT⟩:=PM a L v Z;have nT:Nice 1 (jZ<|Gz sd cl (b.1,b.2)):=Nice.tup _;have dT:=nT.d;have R:=Nice.ints<|GJ sd cl;with_reducible refine FJ (λρ=>ρ=[Zt<|JJ ns,Yt<|cJ ns k l,Zt<|jZ sd,some B,some G,some O,Zt<|KY b,Zt<|.int n,none,none,none,none,none,Zt<|bV sd cl,none]) ?_ ?_
 .intro N hN;rw[<-hru]at hN;rcases U with rfl|⟨d',rfl⟩
  .rcases yo with rfl|rfl
   .exact⟨sd,GJ sd cl,_,rfl,.inr rfl,a,xg,λo=>hN _ rfl⟩
   .exact⟨sd,GJ sd cl,_,rfl,.inr rfl,a,xg,λo=>hN _ rfl⟩
  .rcases yo with rfl|rfl
   .exact⟨sd,GJ sd cl,_,rfl,.inr rfl,a,xg,λo=>hN _ rfl⟩
   .exact⟨sd,GJ sd cl,_,rfl,.inr rfl,a,xg,λo=>hN _ rfl⟩
 rintro _ rfl;with_reducible refine FJ (λρ=>ρ=[Zt<|JJ ns,Yt<|cJ ns k l,Zt<|jZ sd,Zt<|.list<|(EZ sd).map jZ,Zt<|ZJ cl,some O,Zt<|KY b,Zt<|.int n,none,none,none,none,none,Zt<|bV sd cl,Yt<|ZJ<|eJ sd cl b.1 b.2]) ?_ ?_
 .intro N hN;have hz:=ux (EZ sd) cl;revert B;refine both ?_<|λh=>h;revert G;refine both ?_<|λh=>h;refine⟨by rw[hz,g0,P2];exact rZ<|by lia,?_⟩;rw[hz];refine lA (w_ b.1 b.2) uS (λd hd N' M' dm hM'=>?_) ?_
  .obtain⟨x,hx,rfl⟩:=M0.mp hd;rw[Ox]at dm hM';refine⟨rfl,b.1,b.2,x.1,rfl,by lia,λo=>?_⟩;cases z:RK b.1 x.1 b.2 with
   |true=>exact dm z
   |false=>exact hM' z
  rw[Yw,ar];exact hN _ (by rcases yo with rfl|rfl<;>rfl)
 rintro _ rfl;with_reducible refine FJ (λρ=>ρ=[Zt<|JJ ns,Yt<|cJ ns k l,Zt<|jZ sd,Zt<|.list<|(EZ sd).map jZ,Zt<|ZJ cl,some O,Zt<|KY b,Zt<|.int n,none,none,none,none,none,Zt<|bV sd cl,Yt<|ZJ<|eJ sd cl b.1 b.2]) ?_ ?_
 .intro N hN;have isom:∀cs∈gx b.1 b.2,(lV (aG sd cl) (CJ sd (cs.map (·.1)))).isSome=true:=λcs dg=>by
   have h1:=oW<|CD v<|nJ dg;exact kw h1.1 (by rw[QR a.p];exact Int.lt_of_lt_of_le h1.2<|L5 cf.symm)
  have e:OC ((EZ sd).zip cl) b.1 b.2=(eJ sd cl b.1 b.2).sum:=by unfold OC;rw[ar]
  refine⟨sd,cl,_,rfl,.inl rfl,a,L,λo=>⟨sd,aG sd cl,b.1,b.2,_,rfl,.inr rfl,by lia,le_of_eq_of_le hbl.1 h3,A0 h3<|K1 _ _,λs hs=>⟨by have:=a.p s hs;exact Q1 this,by have:=zJ a.p s hs;lia⟩,isom,λo=>?_⟩⟩;rw[PC a.p L v,e];exact⟨_,rfl,HJ (λh=>absurd (show (!decide ((eJ sd cl b.1 b.2).sum=(eJ sd cl b.1 b.2).sum))=true from h)<|by simp)<|λ_=>hN _ rfl⟩
 rintro _ rfl;with_reducible refine FJ (λρ=>ρ=[Zt<|JJ ns,Yt<|cJ ns k l,Zt<|jZ sd,Zt<|.list<|(EZ sd).map jZ,Zt<|ZJ cl,some O,Zt<|KY b,Zt<|.int n,none,none,none,none,none,Zt<|bV sd cl,Yt<|ZJ<|eJ sd cl b.1 b.2]) ?_ ?_
 .intro N hN;refine⟨sd,cl,rfl,a,L,λo=>⟨sd,cl,b.1,b.2,rfl,a,v,λo=>?_⟩⟩;refine⟨nT.p,sT,by show (jZ<|Gz sd cl (b.1,b.2)).depth+1<=64;exact A0 (x8 dT _)<|K1 _ _,lT,?_⟩;refine⟨eJ sd cl b.1 b.2,rfl,eJ sd cl b.1 b.2,rfl,h0,λm hm hmy=>⟨eJ sd cl b.1 b.2,rfl,h0,λM hM hMy=>?_⟩⟩;rw[LD hm hmy,MD hM hMy];refine⟨nT.p,sT,by show (jZ<|Gz sd cl (b.1,b.2)).depth+1<=64;lia,lT,?_⟩;exact HJ (λh=>absurd (show (!decide ((jZ<|Gz sd cl (b.1,b.2)).shown=(jZ<|Gz sd cl (b.1,b.2)).shown))=true from h)<|by rw[Qz];decide)<|λ_=>hN _ rfl
 rintro _ rfl;have fin:∀o,Qd (.fz<|.bool<|same (ZJ<|GJ sd cl)<|ZJ<|GJ sd cl) o:=λo=>by rw[same_self];exact q o
 refine⟨sd,cl,rfl,a,L,λo=>?_⟩;rcases yo with rfl|rfl
 .exact⟨R.p,R.p,R.sh<|by decide,R.sh<|by decide,MK _ R.p,fin _⟩
 .exact⟨R.p,R.p,R.sh<|by decide,R.sh<|by decide,MK _ R.p,fin _⟩
theorem Zb{p:List Be->Prop}(h:p []):∀us:List Be,us.length=0->p us:=λus e=>by
 cases us with
 |nil=>exact h
 |cons x us=>cases e
theorem len1{p:List Be->Prop}(h:∀a,p [a]):∀us:List Be,us.length=1->p us:=λus e=>by
 cases us with
 |nil=>cases e
 |cons x us=>exact Zb (p:=λl=>p (x::l)) (h x) us<|c9 e
theorem len2{p:List Be->Prop}(h:∀b a,p [b,a]):∀us:List Be,us.length=2->p us:=λus e=>by
 cases us with
 |nil=>cases e
 |cons x us=>exact len1 (p:=λl=>p (x::l)) (λa=>h x a) us<|c9 e
theorem x_{p:List Be->Prop}(h:∀c a b,p [c,a,b]):∀us:List Be,us.length=3->p us:=λus e=>by
 cases us with
 |nil=>cases e
 |cons x us=>exact len2 (p:=λl=>p (x::l)) (λa b=>h x a b) us<|c9 e
theorem cc{p:List Be->Prop}(h:∀d a b c,p [d,a,b,c]):∀us:List Be,us.length=4->p us:=λus e=>by
 cases us with
 |nil=>cases e
 |cons x us=>exact x_ (p:=λl=>p (x::l)) (λa b c=>h x a b c) us<|c9 e
structure Df(K:K0)(mg:Str->Jn Be)(x:Str)(st:Ah)(f:Ee)(d:Yg):Prop where
 F:Fun K x x st f d
 m:mg x=some (.ref f)
 k:t7 K (.ref f)=true
section
variable {K:K0}{mg:Str->Jn Be}
theorem df_mk(X:K.In h)(G:h.Ns Ue mg){x:Str}{st:Ah}{f:Ee}{m:Be}{q d:Jn Ee}{t:Kn (Jn Be)}{kV e i b j:Be}(a:Y3 K Ue x=some (some<|.ref f))(l:K.lookup f=some ⟨m,q,.func<|L7 x x (rY st) (eK st) (kZ st) .none kV e i d b j,t⟩)(c:jQ K b x=true)(k:t7 K (.ref f)=true):Df K mg x st f (L7 x x (rY st) (eK st) (kZ st) .none kV e i d b j):=⟨LO l c k,NX X G a,k⟩
theorem XZ(P:Cf)(w:Xe)(base:Gf){k:Nat}{x:Str}{a:List Str}{c:Sp}{st:Ah}{f:Ee}{d:Yg}(D:Df K mg x st f d)(h:FnOk P w K mg base VJ k f d a c)(b:∀(kV e i:Be) (j:Jn Ee) (l q:Be) (us:List Be),us.length=a.length->bindArgs (L7 x x (rY st) (eK st) (kZ st) .none kV e i j l q) ⟨us,[]⟩=pure (a.zip us):=by first|exact λ_ _ _ _ _ _=>len1 λ_=>rfl|exact λ_ _ _ _ _ _=>len2 λ_ _=>rfl|exact λ_ _ _ _ _ _=>x_ λ_ _ _=>rfl|exact λ_ _ _ _ _ _=>cc λ_ _ _ _=>rfl):Cal P w K mg base k x a c:=⟨⟨f,d,h,D.m,D.k,D.F.binds b⟩⟩
end
theorem all_mk{l:dX}{w:Xe}{K:K0}{mg:Str->Jn Be}{fa f0 f1 f2 f3 f4 f5 f6 f7 f8 f9 f10 f11 f12 f13 f14 f15 f16 f17 f18 f19 f20 f21 f22 f23 f24 f25 f26 f27 f28 f29 f30 f31 f32 f33 f34 f35 f36 f37 f38 f39 f40 f41 f42 f43 f44 f45 f46 f47 f48 f49:Ee}{d0 d1 d2 d3 d4 d5 d6 d7 d8 d9 d10 d11 d12 d13 d14 d15 d16 d17 d18 d19 d20 d21 d22 d23 d24 d25 d26 d27 d28 d29 d30 d31 d32 d33 d34 d35 d36 d37 d38 d39 d40 d41 d42 d43 d44 d45 d46 d47 d48 i:Yg}(X:K.In h)(G:h.Ns Ue mg)(hfa:mg "law"=some (.ref fa)){tk0 tk1:Tok}(D0:Df K mg "_law_begin" (top 51) f0 d0) (D1:Df K mg "_law_mixed" (top 52) f1 d1) (D2:Df K mg "_law_take" (top 53) f2 d2) (D3:Df K mg "_law_sides" (top 54) f3 d3) (D4:Df K mg "_law_places" (top 57) f4 d4) (D5:Df K mg "_law_number" (top 55) f5 d5) (D6:Df K mg "_law_cells" (top 56) f6 d6) (D7:Df K mg "one_of_each" (top 7) f7 d7) (D8:Df K mg "places_between" (top 8) f8 d8) (D9:Df K mg "first_place" (top 19) f9 d9) (j:Df K mg "last_place" (top 20) f10 d10) (k:Df K mg "all_places" (top 21) f11 d11) (q:Df K mg "index_of" (top 9) f12 d12) (t:Df K mg "corner_numbers" (top 26) f13 d13) (x:Df K mg "signed_place" (top 27) f14 d14) (y:Df K mg "corners" (top 25) f15 d15) (B:Df K mg "sum_by_running" (top 28) f16 d16) (C:Df K mg "steps_of" (top 30) f17 d17) (I:Df K mg "_law_box" (top 60) f18 d18) (L:Df K mg "_law_next_box" (top 63) f19 d19) (M:Df K mg "_law_due" (top 62) f20 d20) (O:Df K mg "ends" (top 33) f21 d21) (R:Df K mg "lifted" (top 32) f22 d22) (U:Df K mg "_law_lies" (top 61) f23 d23) (Y:Df K mg "add_along" (top 24) f24 d24) (Z:Df K mg "running_of" (top 23) f25 d25) (D26:Df K mg "field_by" (top 31) f26 d26) (D27:Df K mg "is_whole" (top 4) f27 d27) (D28:Df K mg "are_sides" (top 14) f28 d28) (D29:Df K mg "are_wholes" (top 5) f29 d29) (D30:Df K mg "product" (top 6) f30 d30) (D31:Df K mg "is_field" (top 15) f31 d31) (D32:Df K mg "is_place" (top 16) f32 d32) (D33:Df K mg "is_box" (top 17) f33 d33) (D34:Df K mg "ask_for_box" (top 18) f34 d34) (D35:Df K mg "cells_in" (top 35) f35 d35) (D36:Df K mg "sum_in" (top 36) f36 d36) (D37:Df K mg "box_of" (top 42) f37 d37) (D38:Df K mg "boxes_by" (top 43) f38 d38) (D39:Df K mg "two_halves" (top 38) f39 d39) (D40:Df K mg "cover" (top 40) f40 d40) (D41:Df K mg "box_cover" (top 48) f41 d41) (D42:Df K mg "entry_at" (top 10) f42 d42) (D43:Df K mg "put_together" (top 47) f43 d43) (D44:Df K mg "by_halves" (top 49) f44 d44) (D45:Df K mg "stretches" (top 39) f45 d45) (D46:Df K mg "half_boxes" (top 44) f46 d46) (D47:Df K mg "told_of" (top 46) f47 d47) (D48:Df K mg "halves_of" (top 45) f48 d48) (a:Df K mg "law" (top 64) f49 i)(z0:Y3 K Ue "len"=some none) (z1:Y3 K Ue "isinstance"=some none) (z2:Y3 K Ue "int"=some none) (z3:Y3 K Ue "bool"=some none) (z4:Y3 K Ue "list"=some none) (z5:Y3 K Ue "tuple"=some none) (z6:Y3 K Ue "range"=some none) (z7:Y3 K Ue "zip"=some none) (z8:Y3 K Ue "all"=some none) (z9:Y3 K Ue "sum"=some none) (z10:Y3 K Ue "sorted"=some none) (z11:Y3 K Ue "repr"=some none) (z12:Y3 K Ue "enumerate"=some none) (z13:Y3 K Ue "reversed"=some none) (z14:Y3 K Ue "min"=some none) (z15:Y3 K Ue "abs"=some none) (z16:Y3 K Ue "max"=some none) (z17:Y3 K Ue "dict"=some none) (y0:Y3 K Ue "MOST_WAYS"=some (some<|.int 3 tk0)) (y1:Y3 K Ue "MOST_CELLS"=some (some<|.int 120 tk1)):∃fd:Yg,(∀(s:Ge) (v:Be),Wl s fd ⟨[v],[]⟩ [("_law_script",v)])/\∀base:Gf,K.In base->base.Ns Ue mg->FnOk l.prog w K mg base VJ 8 fa fd ["_law_script"] (iZ K FE):=by
 cases hfa.symm.trans a.m;have T:Txt mg:=⟨Q2 X G z0,Q2 X G z1,Q2 X G z2,Q2 X G z3,Q2 X G z4,Q2 X G z5,Q2 X G z6,Q2 X G z7,Q2 X G z8,Q2 X G z9,Q2 X G z10,Q2 X G z11,Q2 X G z12,Q2 X G z13,Q2 X G z14,Q2 X G z15,Q2 X G z16,Q2 X G z17,⟨_,NX X G y0⟩,⟨_,NX X G y1⟩⟩;obtain⟨oc,od,kV,fh,pm,an,ye,ct,qm,e,lk,lh⟩:=a.F.ex;refine⟨i,λs v=>by subst e;exact .of_eq rfl,λb _ _=>?_⟩;have C0:=XZ l.prog w b D0<|wC D0.F;have C1:=XZ l.prog w b D1<|yC D1.F;have d:=XZ l.prog w b D2<|dM D2.F T ⟨C1⟩;have C3:=XZ l.prog w b D3<|BC D3.F T ⟨d⟩;have C4:=XZ l.prog w b D4<|Cy D4.F T;have C5:=XZ l.prog w b D5<|By D5.F ⟨d⟩;have C6:=XZ l.prog w b D6<|AC D6.F T ⟨d,C5⟩;have C7:=XZ l.prog w b D7<|eM D7.F;have C8:=XZ l.prog w b D8<|IR D8.F T ⟨C7⟩;have C9:=XZ l.prog w b D9<|DC D9.F T;have C10:=XZ l.prog w b j<|fM j.F T;have C11:=XZ l.prog w b k<|vD k.F ⟨C8,C9,C10⟩;have c:=XZ l.prog w b q<|EC q.F T;have C13:=XZ l.prog w b t<|Dy t.F T;have C14:=XZ l.prog w b x<|Ey x.F T;have C15:=XZ l.prog w b y<|jx y.F T ⟨C7,C13,C14⟩;have C16:=XZ l.prog w b B<|MR B.F T ⟨c,C15⟩;have C17:=XZ l.prog w b C<|RC C.F ⟨C11,C16⟩;have C18:=XZ l.prog w b I<|PR I.F T ⟨d⟩;have C19:=XZ l.prog w b L<|u_ L.F T ⟨d,C18⟩;have C20:=XZ l.prog w b M<|oS M.F T ⟨C4⟩;have C21:=XZ l.prog w b O<|rM O.F;have C22:=XZ l.prog w b R<|EE R.F T ⟨C21,C7,C14,c⟩;have C23:=XZ l.prog w b U<|oM U.F T;have C24:=XZ l.prog w b Y<|mM Y.F T;have C25:=XZ l.prog w b Z<|KC Z.F T ⟨C24⟩;have C26:=XZ l.prog w b D26<|Y' D26.F T ⟨C25⟩;have C27:=XZ l.prog w b D27<|VR D27.F T;have C28:=XZ l.prog w b D28<|n_ D28.F T ⟨C27⟩;have C29:=XZ l.prog w b D29<|wM D29.F T ⟨C27⟩;have C30:=XZ l.prog w b D30<|xM D30.F;have C31:=XZ l.prog w b D31<|o_ D31.F T ⟨C28,C29,C30⟩;have C32:=XZ l.prog w b D32<|Ax D32.F T ⟨C29⟩;have C33:=XZ l.prog w b D33<|ZC D33.F T ⟨C32⟩;have C34:=XZ l.prog w b D34<|ZR D34.F ⟨C33⟩;have C35:=XZ l.prog w b D35<|bS D35.F T ⟨C34,C8,c⟩;have C36:=XZ l.prog w b D36<|tE D36.F T ⟨C35⟩;have C37:=XZ l.prog w b D37<|c_ D37.F T;have C38:=XZ l.prog w b D38<|p_ D38.F T ⟨C7,C37⟩;have C39:=XZ l.prog w b D39<|dS D39.F;have C40:=XZ l.prog w b D40<|kS D40.F T ⟨C39⟩;have C41:=XZ l.prog w b D41<|r_ D41.F T ⟨C38,C40⟩;have C42:=XZ l.prog w b D42<|k_ D42.F T;have C43:=XZ l.prog w b D43<|l_ D43.F T;have C44:=XZ l.prog w b D44<|m_ D44.F T ⟨C41,C42,C43⟩;have C45:=XZ l.prog w b D45<|fS D45.F T ⟨C39⟩;have C46:=XZ l.prog w b D46<|q_ D46.F T ⟨C38,C45⟩;have C47:=XZ l.prog w b D47<|d_ D47.F T;have C48:=XZ l.prog w b D48<|e_ D48.F T ⟨C46,C35,C47⟩;exact vS a.F T ⟨C0,C3,C4,C6,C17,d,C18,C19,C5,C20,C22,C23,C26,C31,C36,C16,C25,C44,C48⟩
theorem walk{l:dX}{q:Cf}{d:DefRec}{K:Params->K0}(b:l.most=some 63)(c:d.params.defaults=[])(e:∀(w:Xe) (h:Gf),YP w h->(K w.params).In h)(F:∀(w:Xe) (mg:Str->Jn Be) (fa:Ee) (h:Gf),(K w.params).In h->h.Ns Ue mg->mg d.name=some (.ref fa) -> ∃fd:Yg,(∀(s:Ge) (u:Be),Wl s fd ⟨[u],[]⟩ [("_law_script",u)])/\∀base:Gf,(K w.params).In base->base.Ns Ue mg->FnOk l.prog w (K w.params) mg base VJ 8 fa fd ["_law_script"] (iZ (K w.params) FE)):PySem.W.WalkO q rl XP YP l.row.toRowW d [] (λf i=>PySem.call f i):=
 L2.walk_of (n:=63) (k:=8) (x:="_law_script") (CX:=λ_=>VJ) (sp:=λw=>iZ (K w.params) FE) b (by decide) c ⟨rfl,by decide,by decide,rfl⟩ e F (λ_ _ a ns hl _ j=>QM hl j) λ_ _ _ _ _ z=>z
end
end R34
open PySem.W
structure PySem.W.Fast:Prop where(tw5172299282901087230 tw11493949012915420925 tw14162074499835321475 tw18267575503786255130 tw17596648351711611367 tw5313774082950671687 tw3682800929204519557 tw2686537823188989133 tw13311448668015359917 tw16666258587915340266 tw1939270483240757213 tw12298439512893053218 tw1794448439212120842 tw7131259483041490076 tw17639744168278949246 tw4715896081313719128 tw165449667839160468 tw17278601993391705006 tw12955949200439058927 tw4165674694600015318 tw8743205995255068543 tw748130547974633967 tw17691423970220547338 tw1669828298449009634 tw16245788692405469246 tw1071113141060847217 tw12800541204858203658 tw909166799614240364 tw13290789724662898559 tw7883290553932823531 tw9422947366347546390 tw10444976211846487827 tw2985102147281594314 tw9873591946662030243 tw17946301892531813398 tw7093742261631820032 tw3000314467829471652 tw3404095157938656479 tw14928089613840669038 tw7607199847733370696 tw9638121127005940649 tw9269105845845584704 tw17418560742865037098 tw7669667272581409402 tw7820427970403164306 tw11725118534290440809 tw8256922230537768371 tw10008117284808550178 tw766553848585041530 tw7547440375673816819 tw5707714365915905958 tw8821869509850840514 tw6904922008733445056 tw14350306831689245537 tw18395762514074430930 tw3809354899875857701 tw10521529146060174300 tw15963666785517487931 tw7688407594154981280 tw8822120339117690460 tw3235362530119420315 tw4317826588156348749 tw12477914041406286736 tw12570623603369636782 tw910483072398927086 tw14260498670602679746 tw5185107286253744595 tw6094377930219725715 tw14245277233942638724 tw11466042311189206806 tw9001865465735564396 tw17104326866817628205 tw12443418166622754882 tw6968312626010890495 tw17570904705762760432 tw13069206745826004753 tw13133192125795887578 tw7431168809717072498 tw13450950593403299573 tw3963883102261963253 tw7104742826388126927 tw1285287033049457362 tw3174486072546855215 tw14536740967334163686 tw15565922839421604266 tw14982521094350066335 tw9557466059476093810 tw16390171644761116343 tw1411266755722294650 tw17238837014532667730 tw15604495761960490825 tw11505336031786024165 tw8414272235943407429 tw16678055592503351489 tw14781829108030359474 tw10764678494740247996 tw7373551963399703302 tw1864969437040607097 tw3749608739204588711 tw15612380999904523588 tw2005830353782590565 tw18041027761417597419 tw18189353158556235407 tw14115560644277765676 tw8938906367855269269 tw5195115408240586054 tw17902947090577852342 tw1669737648404722566 tw15046881281921460034 tw18123370341766720556 tw9515368521606140341 tw10857828524084556007 tw11046543145801769109 tw18210976930616795851 tw14645625953550837033 tw8313585241384183629 tw3444494228630456160 tw17613791743658676272 tw9131577220791078121 tw14168953569595458529 tw1993601108729223288 tw16175085197906456546 tw8965308171040271488 tw6430645611363749566 tw10206694934794761334 tw6695424195619368293 tw17159896962300289019 tw7619146906278219306 tw16602576381511630520 tw8454084068038117058 tw17236009247713901477 tw4374374234665775864 tw18066808703697250019 tw15852681010870135144 tw13569472054597792655 tw14784523334255647829 tw17387922272047450015 tw11169466233085554586 tw15909643918075611199 tw7417026301167319603 tw236421213549270541 tw17551601125642629130 tw12237258745942454267 tw11646092953604563776 tw7665544305577273402 tw10132496564433331213 tw10093823496340885896 tw10995770041976489838 tw5417073456023649312 tw585552179283856698 tw7890388929702612915 tw1715080222545999974 tw11380629975516761481 tw883980214517933280 tw13251457033368544804 tw12162841228617337971 tw4582311995830723401 tw16660433956789844191 tw12875278358591084441 tw16446708862942541541 tw2788677202195172389 tw6302157139397946718 tw608650010525897745 tw14560049870658427328 tw564648662957924214 tw17321023012357242529 tw9124208767723209893 tw8599343819794935435 tw3857856914713476972 tw7224035502503247133 tw879282881921953139 tw6373064295919677119 tw5667449334020925229 tw6390562121393034455 tw9988039336275740752 tw9653101241197193859 tw12750610931045109829 tw1244462586759615847 tw12188911966531775808 tw16536647052007896613 tw6497463629961947314 tw12091427707239904433 tw12372004795533767673 tw14541231367703566935 tw1257705285408063680 tw3036002479220858755 tw16498842298085314374 tw5306276126371436065 tw2269078878186087266 tw7282574168942597520 tw6242245661800014714 tw12553781839022646969 tw15226493731938321652 tw3522219648099899752 tw8716444111554663553 tw414008606418557057 tw11816896530546364281 tw5529976014881394943 tw7357975273313727089:True)
set_option maxRecDepth 100000 in
set_option maxHeartbeats 0 in
theorem PySem.Challenge.cw_boxsums_k34_whole_boxes_lifted_holds : PySem.Challenge.rw_boxsums_k34_whole_boxes_lifted.Holds := by
 w_on;o_law;k_head;(case hw=>w_witness2)
 k_fill
 refine R34.walk (l:=PySem.Challenge.rw_boxsums_k34_whole_boxes_lifted) rfl rfl (λw h Y=>PySem.W.kIn_of Y) ?F
 case F =>
  intro w mg fa h KX G hmg
  refine' R34.all_mk KX G hmg ?_ ?_ ?_ ?_ ?_ ?_ ?_ ?_ ?_ ?_ ?_ ?_ ?_ ?_ ?_ ?_ ?_ ?_ ?_ ?_ ?_ ?_ ?_ ?_ ?_ ?_ ?_ ?_ ?_ ?_ ?_ ?_ ?_ ?_ ?_ ?_ ?_ ?_ ?_ ?_ ?_ ?_ ?_ ?_ ?_ ?_ ?_ ?_ ?_ ?_ ?_ ?_ ?_ ?_ ?_ ?_ ?_ ?_ ?_ ?_ ?_ ?_ ?_ ?_ ?_ ?_ ?_ ?_ ?_ ?_
  any_goals refine' R34.df_mk KX G ?_ ?_ ?_ ?_
  any_goals (show _=_;k_is)
