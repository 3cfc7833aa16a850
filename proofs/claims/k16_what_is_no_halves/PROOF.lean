import PyProof.Rows.All
import Wide.All
import OpenK.AllK
import PySem.Challenge.RW_boxsums_k16_what_is_no_halves
set_option Elab.async false
set_option linter.all false
set_option maxRecDepth 100000
set_option maxHeartbeats 4000000
set_option bootstrap.genMatcherCode false
open PySem renaming wpAny_bind->Ab,Value->Bb,wpAny_pure->Db,Addr->Eb,PyData->Fb,Shared->Gb,wpAny->Hb,model->Kb,starEach->Pb,mainGlobals->Ub,Expr->Vb,World->Wb,wpAny_holding->Xb,wpAny_field->Yb,wpAny_callSpecial?_slot->Zb,sysModules->Ac,compareOp->Bc,Program->Cc,Heap->Dc,cellsFrom->Ec,bootBuiltins->Gc,call_isinstance->Ic,wpAny_seqItems->Jc,assignEach->Kc,wpAny_setField_rec->Lc,cLine->Oc,wpAny_rule->Qc,binaryOp->Rc,backTo->Sc,intItems->Uc,eval->Wc,wpAny_truthy_bool->Xc,wpAny_newObj_type->Yc,call_meets->Zc,wpAny_isInstance->Ad,wpAny_Call_Name_kw->Cd,getattributeRaised->Ed,builtinLookup_eq_fast->Fd,wpAny_passesOwn->Gd,FuncData->Hd,wpAny_typeOf->Jd,foldedSetIterable->Ld,pyNext->Md,wpAny_attempt->Od,wpAny_forIn_list->Td,holding->Ud,NameKind->Vd,codeAny_builtin->Wd,intKind->Yd,wpAny_binaryOp_repeat_ref->Zd,Around->Ae,Stmt->Be,plainId_quiet->De,attributeBase->Ee,wpAny_specialOf->Fe,wpAny_ite_false->Ge,typeLookup_type->He,wpAny_pyIter_tuple->Ie,tupleKind->Je,sliceBounds->Ke,rawInt->Le,wpAny_newTuple->Me,wpAny_pyIter_list->Oe,wpAny_notOrdered_dict->Pe,isinstance_false_dict->Qe,isSubtype_tuple_tuple->Re,typeLookup->Te,typeIs_int->Ue,behindInMarks->Ve,ReadsAll->We,wpAny_execs_nil->Xe,letOwnedTupleGo->Ye,IsZip->Af,getItem->Cf,codeAny->Ef,swapsWith->Ff,builtinsNs->Hf,IsTupleKey->Jf,repr_of_reads'->Kf,isSubtype_stop->Lf,wpAny_tupleItemsOf->Mf,sub_AttributeError->Nf,field->Of,dictSet->Pf,Keyword->Qf,unsupported->Sf,wpAny_pyIter_enum->Uf,assign->Wf,wpAny_newList->Xf,nums_intItems->Zf,wpAny_getItem_list_slice->Ag,wpAny_comprehension_free->Bg,numAt->Cg,wpAny_pyIter_zip->Gg,noFill_tuple_add->Hg,kt_code_dict_new->Ig,wpAny_pyNext_enum_itemD->Jg,IsPart->Lg,callerA->Pg,codeAny_mono->Rg,callType_new->Tg,isinstance_true->Vg,getAttr?->Wg,subscripted->Yg,keywordEach->Zg,intItems_at->Ah,wpAny_tryCatch->Dh,newFunctionEnv->Eh,callType_codes->Fh,wpAny_raiseAttrError->Hh,BindsTo->Jh,isSubtype->Kh,wpAny_dictSet_pairs->Lh,Scope->Oh,wpAny_standAt->Ph,swapsWithSole->Qh,swappedStores->Rh,seq_tuple_add->Th,evalPart_none->Uh,typeOf->Vh,reduceHash->Xh,setItem->Bi,seqIndex_neg->Di,concat_meets->Fi,eqIsQuiet->Gi,PassesOwn->Hi,seqIndex_of->Ii,loadIfAlive->Ji,relabel->Li,bindL->Mi,bindC->Ni,Reads->Oi,Meets->Qi,isTrue->Ti,Result->Ui,numAt_eq->Vi,backToKw->Xi
open PyProof.Rows renaming wpS_bind->Jb,wpS_pure->Lb,Keyed->Mb,SortSt->Nb,pendingOf->Tb,wpS_forRange->Hc,elem'->Nc,wpS_mono->Pc,IntsAre->Tc,SortKind->Vc,wpS_modify->Nd,failedOf->Pd,listUpdate_at->Xd,reverseSlice'->Ce,boot_list->Se,get?_update_seq->Ze,wpS_get->Bf,envOfC->Gf,AllBare->Rf,seqEpoch_at->Tf,mirror->Vf,subscriptTail->Yf,wpS_lift->Eg,pairsOf->Ng,setPending->Qg,subscriptTail_builtinR->Ug,boot_all->Xg,boot_sorted->Bh,getElem?_mirror_all->Mh,entry_tuple_getitem->Nh,size_push'->Wh,boot_tuple->Yh,Subscript_->Zh,IsTup->Ai,gallopOf->Ci,listItems_at->Ei,setArr->Si
open PySem.Spec renaming same->Kg,sameAll->Ih
abbrev Ib:=@if_pos
abbrev Ob:=@of_decide_eq_true
abbrev Qb:=@decide_eq_false
abbrev Rb:=@congrArg
abbrev Sb:=@decide_eq_true
abbrev Mc:=@of_decide_eq_false
abbrev Yi:=@Option
abbrev Zi:=@Array
abbrev Al:=@False
open PySem.Heap renaming get?_push_of_some->g0,lt_size->G0,get?_push_size->L0,size_push->u3,SameBut->E3,get?_update_ne->G4,get?_update_self->l7,get?_push_ne->u7,get?_update_other->E8,size_update->P8
open List renaming mem_cons_of_mem->i0,length_map->j0,mem_cons_self->u0,mem_map->J0,getElem?_eq_getElem->M0,length_append->N0,map_map->O0,size_toArray->P0,mem_append_right->S0,mem_cons->T0,mem_append->W0,mem_singleton->Y0,map_cons->E1,getElem?_map->G1,getElem?_eq_some_iff->L1,replicate->O1,map_congr_left->S1,length_cons->U1,getElem?_set_ne->W1,take_of_length_le->Y1,getD_eq_getElem?_getD->B2,length_take->E2,length_drop->K2,mem_of_getElem?->P2,getElem?_append_right->Q2,range->S2,append_assoc->Y2,mem_append_left->i3,getElem?_append_left->m3,append_nil->B3,forall_mem_cons->G3,pairwise_map->J3,getElem?_cons_succ->O3,length_singleton->P3,map_append->Q3,mem_of_mem_take->v4,drop_of_length_le->B4,zip_cons_cons->E4,all_eq_true->L4,getElem?_eq_none_iff->M4,extract_eq_take_drop->N4,pairwise_iff_getElem->O4,mem_range->Q4,length->U4,lookup_cons->V4,drop_eq_getElem_cons->W4,replicate_succ->X4,getElem_of_mem->Y4,length_set->j5,mem_of_mem_drop->u5,pairwise_singleton->G5,flatMap_cons->L5,take_append_drop->U5,pairwise_reverse->V5,getElem_mem->W5,sum_cons->X5,length_range->e6,getElem?_cons_zero->i6,nodup_cons->k6,of_mem_zip->l6,length_zip->o6,mem_map_of_mem->u6,flatten_cons->M6,nodup_append->N6,pairwise_append->O6,mem_flatMap->T6,map_id->U6,pairwise_cons->V6,length_nil->c7,any_cons->i7,mem_iff_getElem?->m7,map->y7,cons_append->P7,getElem?_zip_eq_some->S7,foldl_cons->Y7,map_inj_right->g8,length_eq_zero_iff->k8,take_sublist->v8,reverse_cons->w8,drop_sublist->y8,ext_getElem?->A8,getElem?_set_self->B8,eq_nil_or_concat->J8,perm_append_comm->L8,getElem?_eq_none->M8,foldl->N8,countP_cons->R8,getElem?_zipIdx->X8,length_take_le'->Y8,mem_filter->Z8,nil_append->a9,filterMap_cons->c9,map_eq_nil_iff->i9,map_nil->l9,all_map->o9,getElem?_drop->A9,forIn_toArray->E9,set_cons_succ->F9,nodup_iff_pairwise_ne->K9,exists_cons_of_ne_nil->L9,lookup->M9,take_add_one->O9,reverse_perm->S9,getElem?_inj->T9,map_inj_left->U9,all_cons->V9,map_take->X9,getElem?_take_of_lt->Z9,mem_reverse->dQ,getElem_zip->eQ,map_snd_zip->fQ,zipIdx_cons->gQ,flatMap_nil->iQ,filter_cons->jQ,getElem?_replicate->lQ,append_cancel_left->oQ,filter_eq_nil_iff->tQ,forIn_cons->vQ,dropLast_eq_take->zQ,pairwise_flatMap->BQ,forIn_nil->GQ,drop_drop->HQ,mem_iff_getElem->MQ,length_reverse->UQ,mem_filterMap->ZQ,set_cons_zero->dX,map_set->hX
open PySem.PyData renaming int->n0,tuple->J1,list->X3,bool->Y3,depth->P4,showable->t6,depthAll->e7,shownAll->g7,dict->j8,shown->t8,canLay0->v9,canLayAll0->P9,depthKv->IQ,shownKv->JQ,showableAll->cX,hasDictAll->kX,showableKv->lX
open Nat renaming le_trans->q0,lt_of_lt_of_le->v0,le_refl->A0,add_le_add_left->Q0,lt_of_le_of_lt->R0,ne_of_lt->U0,le_of_lt->V0,le_of_eq->A1,le_add_right->B1,le_of_ble_eq_true->N1,le_of_add_right_le->Q1,le_of_not_lt->T1,le_sub_of_add_le->V1,zero_le->V2,ne_of_gt->X2,sub_lt_right_of_lt_add->Z2,lt_of_le_of_ne->A3,add_sub_cancel_left->K3,add_lt_add_left->S3,lt_succ_self->Z3,lt_irrefl->j4,add_sub_cancel'->m4,le_of_lt_succ->o4,lt_succ_of_le->u4,min_eq_left->J4,le_antisymm->S4,add_assoc->T4,le_succ_of_le->Z4,le_add_left->i5,lt_of_not_le->o5,add_le_add_right->A5,mul_le_mul_right->B5,lt_of_succ_lt->K5,le_min_of_le_of_le->M5,sub_lt_left_of_lt_add->P5,sub_le_sub_right->Z5,le_of_succ_le->c6,sub_lt->j6,ne_of_beq_eq_false->w6,lt_of_sub_ne_zero->B6,le_of_add_left_le->E6,lt_of_add_right_lt->W6,sub_le_iff_le_add'->X6,one_le_iff_ne_zero->Y6,lt_add_left->h7,sub_eq_zero_of_le->j7,add_lt_of_lt_sub'->k7,lt_succ_of_lt->v7,sub_le->A7,lt_of_add_lt_add_right->K7,lt_trans->L7,min_eq_right->N7,min_le_right->O7,succ_le_succ->Q7,strongRecOn->Z7,le_mul_of_pos_right->l8,lt_or_ge->m8,succ_mul->n8,zero_add->o8,le_add_right_of_le->G8,lt_of_sub_eq_succ->K8,le_max_right->O8,le_succ->V8,lt_of_le_sub_one->W8,min_le_left->b9,add_comm->k9,sub_pos_of_lt->R9,sub_sub_self->bQ,sub_lt_of_lt->cQ,eq_of_le_of_lt_succ->mQ,lt_add_of_pos_right->nQ,mul_comm->pQ,sub_self->qQ,length_repr_le_iff->sQ,le_of_sub_eq_zero->yQ,le_sub_of_add_le'->AQ,one_mul->EQ,add_sub_add_left->KQ,lt_sub_of_add_lt->NQ,add_le_of_le_sub->OQ,sub_succ_lt_self->PQ,sub_le_sub_left->TQ,mul_assoc->WQ,two_mul->nX
open PySem.W renaming Frag->B0,mg_none_of->O2,nsIn->i4,keepIn->Y5,fnOf->J6,codeHdIn->S6,findIn->u8,codeIn->u9,tabObj->y9,methodObj->N9,cellsFrom_some->rQ,OpenLaw->wQ,tabIn->VQ,specialIn->jX,instObj->oX
open Bool renaming false_ne_true->X0,and_eq_true->X1,false_eq_true->U2,eq_false_iff->g6,eq_iff_iff->Z6,beq_eq_decide_eq->o7,and_eq_true_iff->F7,not_true->U7,and_true->V7,false_and->FQ
open Array renaming length_toList->Z0,toList_append->T3,getElem_toList->A4,toList_extract->v5,perm_iff_toList_perm->N5,getElem?_eq_getElem->S5,getElem?_toList->T5,toList_reverse->G7,size_extract->c8,forIn_toList->e8,toList_map->Q8,toList_push->Q9,size_setIfInBounds->aQ,toArray_toList->QQ,toList->fX
open Option.some renaming inj->Z1
open PySem.Builtin.SmallTypes renaming ownedTupleIsFree->G2,nextOf->T2,ownedTupleHandOut->T7
open PySem.Obj renaming mapSeq->W2
open Ne renaming symm->U3
open PyProof.Rows renaming callWith_type1->W3,slot_tuple_getitem->O5,K->x9
open PySem.Value renaming ref->K4,none->b8,int->h8,builtin->W9,isInt->CQ,notImplemented->LQ,type->YQ,bool->pX
open Int renaming lt_of_le_of_lt->m5,eq_ofNat_of_zero_le->J5,le_trans->K6,ofNat_lt->L6,toNat_natCast->t7,mul_le_mul->B7,lt_add_one_of_le->E7,zero_add->M7,le_refl->i8,not_lt_of_ge->S8,mul_le_mul_of_nonneg_right->T8,lt_irrefl->U8,le_of_lt->j9,ofNat_le->q9,natCast_nonneg->G9,natCast_mul->xQ,one_mul->DQ,sub_nonneg_of_le->RQ,add_le_add_left->SQ,mul_assoc->XQ,mul_comm->eX,lt_trans->gX,le_of_eq->iX
open PySem.Builtin.Dict renaming updateFrom->E5,addKeywords->W7,selfAndRest->X7,pairItems->F8
open PySem.Builtin.Tuple renaming tupleHashOf->Q5,tupleExact->P6,tupleItemsOf->J7
open Option renaming map_some->m6,map_eq_some_iff->v6,getD_some->A6,isNone_none->B9,isSome_some->bX,getD_none->mX
open PySem.Builtin.Slice renaming slicePlaces->G6,sliceAdjust->R7,sliceApplied->J9
open PySem.Builtin.List renaming listTooLong->Q6
open PySem.Heap.SameBut renaming update->g9
open Nat.succ renaming inj->m9
open Eq renaming trans->t9
open Int.ofNat renaming inj->Y9
open PySem.Builtin.Range renaming rangeSize->kQ
open PySem.Heap.DictOf renaming new->uQ
open PySem.Heap.IsSliceOf renaming new->aX
open Option renaming some->O,none->U
open Bool renaming true->Ul,false->Um
open Decidable renaming decide->Uo
abbrev Z:=@rfl
theorem ja{b:Int}(h:a<b):(a+b) / 2<b:=Int.ediv_lt_of_lt_mul (by decide)<|eX b 2 ▸ Int.two_mul b ▸ Int.add_lt_add_right h b
theorem ka{b:Int}(h:a<=b):a<=(a+b) / 2:=Int.le_ediv_of_mul_le (by decide)<|eX a 2 ▸ Int.two_mul a ▸ SQ h a
theorem d_{b:Int}{c:Nat}(h0:(a-b).toNat=c)(d:b<a):(a-((b+a) / 2+1)).toNat<c:=h0 ▸ (Int.toNat_lt_toNat<|Int.sub_pos_of_lt d).2 (Int.sub_lt_sub_left (E7<|ka<|j9 d) a)
theorem ZT{b:Int}{c:Nat}(h0:(a-b).toNat=c)(d:b<a):((b+a) / 2-b).toNat<c:=h0 ▸ (Int.toNat_lt_toNat<|Int.sub_pos_of_lt d).2 (Int.sub_lt_sub_right (ja d) b)
theorem ma(h:a<=b):a<=(a+b) / 2:=(Nat.le_div_iff_mul_le<|by decide).2<|pQ a 2 ▸ nX a ▸ Q0 h a
theorem qa:a / 2<=a-1:=by cases a;decide;exact o4 (Nat.div_lt_self (Nat.succ_pos _)<|by decide)
theorem e_(h0:a-b<=c-d):(a-(b+(a-b)/2+1))<=c-(d+1):=by rw[T4,<-Nat.sub_sub];exact q0 (TQ (i5 1 _) _)<|Z5 h0 1
theorem f_(h0:a-b<=c-d):(b+(a-b)/2)-b<=c-(d+1):=by rw[K3];exact q0 qa<|Z5 h0 1
theorem g_(h:b<=a):(b+a) / 2=b+(a-b) / 2:=by obtain⟨k,rfl⟩:=Nat.le.dest h;rw[<-T4,<-nX,Nat.mul_add_div<|by decide,K3]
theorem ua{e:Nat}(h0:((a+b)+c)<=d):((min (a+b) d)-(a+e))=(b-e):=by rw[J4<|Q1 h0,KQ]
theorem va(h0:¬((a-b)=0)):((c+b)+((a-b)-1))=((c+a)-1):=by obtain⟨k,rfl⟩:=Nat.exists_eq_add_of_lt<|B6 h0;rw[T4 b,K3,<-T4 c];rfl
theorem arg(h0:(a-b)<=(c-d)):(a-(((b+a) / 2)+1))<=(c-(d+1)):=by
 rcases Nat.le_total b a with h|h
 .rw[g_ h];exact e_ h0
 .rw[j7<|k9 a b ▸ Z4 (ma h)];exact V2 _
theorem wa(h0:(a-b)<=(c-d)):(((b+a) / 2)-b)<=(c-(d+1)):=by
 rcases m8 b a with h|h
 .rw[g_<|V0 h];exact f_ h0
 .rw[j7<|Nat.div_le_of_le_mul<|nX b ▸ Q0 h b];exact V2 _
theorem xa(h:a<=b):a-1=b-1-(b-a):=by rw[Nat.sub_right_comm,bQ h]
theorem iT(h0:(a-b)=0)(c:b<=a):b=a:=S4 c<|yQ h0
theorem aA(h0:(a-b)=(c+1)):(a-(b+1))=c:=Rb Nat.pred h0
theorem h_(h0:2<=a)(b:¬(a-1=1)):2<=a-1:=A3 (V1 h0)<|U3 b
theorem i_(h0:(a-b)<=(c-(max 0 c)))(d:b<=a):b=a:=by rw[Nat.zero_max,qQ]at h0;exact S4 d<|yQ<|Nat.le_zero.1 h0
theorem ya{f:Nat}(h0:a<b)(g:b=c-d):e+d+a<e+c+f:=v0 (T4 .. ▸ S3 (k7<|g ▸ h0) e)<|B1 ..
theorem Aa(h0:¬((a-b)=0)):c+b+(a-b)-1=c+a-1:=by rw[T4,m4<|V0<|B6 h0]
theorem j_(h0:¬((a-b)=0)):c+a=c+b+(a-b):=by rw[T4,m4<|V0<|B6 h0]
theorem Ba(h0:a+(b+1)<=c):c-(a+b)=c-(a+(b+1))+1:=by obtain⟨k,rfl⟩:=Nat.le.dest h0;rw[K3,<-T4,T4<|a+b,K3,k9]
theorem Ca{c:Nat}(h0:¬((a-b)<c))(d:¬(a<b)):a=b+c+(a-b-c):=by rw[T4,m4<|T1 h0,m4<|T1 d]
theorem Ea(h0:a<b+1-min c (b+1)):a<=b-c:=by
 rcases Nat.le_total c (b+1) with h|h
 .rw[J4 h]at h0;exact V1<|o4<|Nat.add_lt_of_lt_sub h0
 .rw[N7 h,qQ]at h0;exact absurd h0<|Nat.not_lt_zero _
theorem bA(h0:1<=a)(d:a<=b):c+b-1<c+b:=j6 (q0 h0<|q0 d<|i5 ..) Nat.one_pos
theorem Fa(h0:a+b+c<=d+e+1)(g:0<c-1-f):a+b+f<=d+e+1:=q0 (Q0 (q0 (V0<|Nat.lt_of_sub_pos g)<|A7 ..) _) h0
theorem k_(h0:a<b+c+d)(g:e=c-f+d)(i:¬(c-f=0)):a-(b+f)<e :=
 have j:=V0<|B6 i;have hl:a<b+f+e:=by rw[g,<-T4,T4 b,m4 j];exact h0
 (m8 a<|b+f).elim (λh=>j7 (V0 h) ▸ g ▸ Nat.add_pos_left (Nat.pos_of_ne_zero i) _) (λh=>P5 h hl)
theorem cA(h0:a+b+c<=d)(f:¬(b-e=0)):a+e+(b-e)-1<d:=by have h:=B6 f;rw[<-j_ f];exact v0 (j6 (R0 (V2 _)<|S3 h a) Nat.one_pos)<|Q1 h0
abbrev Ql:=List Int
open PySem PySem.Spec PyProof.Rows
abbrev Up:=List Bb
abbrev Ur:=List Fb
abbrev Us:=List Str
abbrev Ut:=List (Eb×Obj)
abbrev Bl:=List Vb
abbrev Bm:=List Nat
abbrev Bn:=List (Int×Int)
variable {its us:Up}{u:Bb}{h h':Dc}{α κ:Type}{o ot:Obj}{kk lo n t':Nat}{ch fp ts:List Eb}{S T f i1 i2 it l1 l2 z:Eb}{N qh:Us}{A:Ae}{E Q:Bb->Gb->Prop}{s s':Gb}{gb:Ut}{we cc tg:Vb}{md:Pos}{cl hi:Ql}{p:Up->Prop}{g:Int->Int->Int}{fd:Hd}{sc scope:Oh}{name qual:Str}{prog:Cc}{env:Env}{XP:(Str->Yi Bb)->Dc->Prop}{YP:Wb->Dc->Prop}{fr:Bm}{ff:Bl}{fl:Bool}{xs1 xs2:Zi Bb}{jb:Ur}
namespace L2
noncomputable abbrev wZ:=Sum Int Str
noncomputable def BH:wZ->Bb->Bool
 | .inl k,v=>CQ k v
 | .inr x,v=>Value.isStrOf x v
noncomputable def dA(w:Wb):wZ->Int
 | .inl k=>hashInt k
 | .inr x=>hashStr w x
theorem pZ:∀{k:wZ}{v:Bb},BH k v=Ul->(∃i t,k=Sum.inl i/\v=h8 i t)\/(∃x t,k=Sum.inr x/\v=Value.str x t)
 | .inl i,v,h=>by obtain⟨t,e⟩:=Value.isInt_shape (k:=i) (v:=v) h;exact .inl ⟨i,t,Z,e⟩
 | .inr x,v,h=>by obtain⟨t,e⟩:=Value.isStrOf_shape (x:=x) (v:=v) h;exact .inr ⟨x,t,Z,e⟩
theorem jx(i:Int)(t:Tok):BH (.inl i) (.int i t)=true:=by simp[BH,CQ]
theorem kx(x:Str)(t:Tok):BH (.inr x) (.str x t)=true:=by simp[BH,Value.isStrOf]
theorem HL(a b:Int):Uo ((Sum.inl a:wZ)=Sum.inl b)=(a==b):=by
 by_cases e:a=b
 .subst e;simp
 .have h:¬(Sum.inl a:wZ)=Sum.inl b:=λq=>e<|Sum.inl.inj q;rw[Qb h];exact(beq_eq_false_iff_ne.mpr e).symm
theorem IL(a b:Str):Uo ((Sum.inr a:wZ)=Sum.inr b)=Uo (a=b):=by
 by_cases e:a=b
 .subst e;simp
 .have h:¬(Sum.inr a:wZ)=Sum.inr b:=λq=>e<|Sum.inr.inj q;rw[Qb h,Qb e]
theorem JL(a:Int)(b:Str):Uo ((Sum.inl a:wZ)=Sum.inr b)=false:=Qb<|λq=>nomatch q
theorem KL(a:Str)(b:Int):Uo ((Sum.inr a:wZ)=Sum.inl b)=false:=Qb<|λq=>nomatch q
noncomputable def jZ(prog:Cc)(w:Wb):PySem.KeyKind prog w wZ where
 is:=BH
 hash:=dA w
 inj:=λv a b l d=>by
  rcases pZ l with⟨i,t,rfl,rfl⟩|⟨x,t,rfl,rfl⟩
  .rcases pZ d with⟨j,u,rfl,e⟩|⟨y,u,rfl,e⟩
   .injection e with e1 _;rw[e1]
   .exact nomatch e
  .rcases pZ d with⟨j,u,rfl,e⟩|⟨y,u,rfl,e⟩
   .exact nomatch e
   .injection e with e1 _;rw[e1]
 byValue:=λk v h=>by rcases pZ h with⟨i,t,rfl,rfl⟩|⟨x,t,rfl,rfl⟩<;>rfl
 pyHash:=λc h=>by
  rcases pZ c with⟨i,t,rfl,rfl⟩|⟨x,t,rfl,rfl⟩
  .exact wpAny_pyHash_int h
  .exact wpAny_pyHash_str h
 eqBool:=λm c h=>by
  rcases pZ m with⟨i,t,rfl,rfl⟩|⟨x,t,rfl,rfl⟩
  .rcases pZ c with⟨j,u,rfl,rfl⟩|⟨y,u,rfl,rfl⟩
   .rw[HL]at h;exact wpAny_eqBool_int h
   .rw[JL]at h;exact SeqAt.EqAt.int_str i t y u _ _ _ _ h
  .rcases pZ c with⟨j,u,rfl,rfl⟩|⟨y,u,rfl,rfl⟩
   .rw[KL]at h;exact SeqAt.EqAt.str_int x t j u _ _ _ _ h
   .rw[IL]at h;exact wpAny_eqBool_str h
 «strs»:=λk x t v h=>by
  rcases pZ h with⟨i,u,rfl,e⟩|⟨y,u,rfl,e⟩
  .exact nomatch e
  .injection e with e1 _
   subst e1
   cases v<;>rfl
theorem yF(prog:Cc)(w:Wb)(i:Int)(t:Tok):(jZ prog w).is (.inl i) (.int i t)=true:=jx i t
theorem zF(prog:Cc)(w:Wb)(x:Str)(t:Tok):(jZ prog w).is (.inr x) (.str x t)=true:=kx x t
inductive V where
 |non|bl (b:Bool)|int (i:Int)|str (x:Str)|byt (b:Zi UInt8)|flt (b:UInt64)|ref (a:Eb)|ty (n:String)
 deriving DecidableEq
noncomputable def RelV:V->Bb->Prop
 | .non,u=>u=b8
 | .bl b,u=>u=pX b
 | .int i,u=>∃t,u=h8 i t
 | .str x,u=>∃t,u=Value.str x t
 | .byt b,u=>∃t,u=Value.bytes b t
 | .flt b,u=>∃t,u=Value.float b t
 | .ref a,u=>u=K4 a
 | .ty n,u=>u=YQ n
abbrev Vals:List V->Up->Prop:=Paired RelV
theorem Vals.length(r:Vals xs us):xs.length=us.length:=Paired.length r
theorem Vals.get:∀{a:List V}{us:Up}{i:Nat}{x:V},Vals a us->a[i]?=O x->∃u,us[i]?=O u/\RelV x u
 |_,_,_,_,.nil,e=>by simp at e
 |_,_,0,_,.cons r _,e=>by simp at e;subst e;exact⟨_,Z,r⟩
 |_,_,i+1,x,.cons _ t,e=>by obtain⟨u,b,c⟩:=Vals.get (i:=i) (x:=x) t (by simpa using e);exact⟨u,by simpa using b,c⟩
theorem Vals.set{x:V}(r:RelV x u):∀{a:List V}{us:Up} (i:Nat),Vals a us->Vals (a.set i x) (us.set i u)
 |_,_,_,.nil=>.nil
 |_,_,0,.cons _ t=>.cons r t
 |_,_,i+1,.cons q t=>.cons q<|Vals.set r i t
theorem Vals.append:∀{a b:List V}{us c:Up},Vals a us->Vals b c->Vals (a++b) (us++c)
 |_,_,_,_,.nil,s=>s
 |_,_,_,_,.cons r t,s=>.cons r<|Vals.append t s
theorem Vals.take:∀{xs:List V}{us:Up} (n:Nat),Vals xs us->Vals (xs.take n) (us.take n)
 |_,_,0,_=>.nil
 |_,_,_+1,.nil=>.nil
 |_,_,n+1,.cons r t=>.cons r<|Vals.take n t
theorem Vals.drop:∀{a:List V}{us:Up} (n:Nat),Vals a us->Vals (a.drop n) (us.drop n)
 |_,_,0,r=>r
 |_,_,_+1,.nil=>.nil
 |_,_,n+1,.cons _ t=>Vals.drop n t
theorem Vals.none_of:∀{a:List V}{us:Up}{i:Nat},Vals a us->a[i]?=U->us[i]?=none:=λ{a us i} r e=>by have b:=r.length;have c:a.length<=i:=M4.mp e;exact M4.mpr (by omega)
noncomputable def cP:Yi V->Yi Bb->Prop
 |some v,O u=>RelV v u
 |none,U=>True
 |_,_=>Al
def KV{κ:Type}:List (κ×V)->List (κ×Bb)->Prop:=Paired λ(p:κ×V) (q:κ×Bb)=>p.1=q.1/\RelV p.2 q.2
noncomputable def kV:wZ->V
 | .inl i=>.int i
 | .inr x=>.str x
inductive HO where
 |lst (xs:List V)
 |tup (xs:List V)
 |dK (kvs:List (wZ×V))|dT (kvs:List (List wZ×V))
 |set (S:Int->Bool) (n:Nat)
 |ins (C dx:Eb) (fs:List (Str×V))
 |own (x:Eb)
 |xd (fs:List (Str×V))
 |met (f x:Eb)
 |rng (lo hi:Int)
 |frz (o:Obj) (u:HO)
 |tbl (ps:Zi Bb)
 |ext (φ:Dc->Prop)
noncomputable abbrev Hp:=Eb->Yi HO
noncomputable def kZ(H:Hp)(a:Eb)(o:HO):Hp:=λb=>if b=a then O o else H b
theorem OX{o:HO}:kZ H a o a=O o:=by unfold kZ;rw[Ib Z]
theorem zX{o:HO}(h:b≠a):kZ H a o b=H b:=by unfold kZ;rw[if_neg h]
theorem FB{o u:HO}:kZ (kZ H a o) a u=kZ H a u:=by funext b;unfold kZ;split<;>rfl
theorem AX{H:Hp}{o:HO}(h:H a=O o)(h':H b=U):a≠b:=by intro e;subst e;rw[h]at h';cases h'
def IsTupD(h:Dc)(a:Eb)(items:Zi Bb):Prop:=∃o,h.get? a=O o/\o.cls=.type "tuple"/\∃n,o.data=.seq items n/\o.dict=U
theorem IsTupD.t:IsTupD h a items->Ai h a items:=λ⟨o,e,c,n,d,_⟩=>⟨o,e,c,n,d⟩
theorem IsTupD.new(h:Dc)(items:Zi Bb):IsTupD (h.push {cls:=.type "tuple",data:=.seq items}) h.objs.size items:=⟨_,L0 _ Z,Z,_,Z,Z⟩
section
variable (P:Cc)(w:Wb)
noncomputable def ObjOk(H:Hp)(h:Dc)(a:Eb):HO->Prop
 | .lst c=>c.length<=sizeLine/\∃(its:Up) (n:Nat),Vals c its/\h.get? a=O {cls:=.type "list",data:=.seq its.toArray n}
 | .tup c=>c.length<=sizeLine/\∃its:Up,Vals c its/\IsTupD h a its.toArray
 | .dK b=>b.length<=sizeLine/\(a==Ac)=Um/\∃j,KV b j/\h.DictOf (jZ P w) a j
 | .dT b=>b.length<=sizeLine/\(a==Ac)=Um/\∃c:List (List wZ×Eb×Bb),
   Paired (λ(p:List wZ×V) (q:List wZ×Eb×Bb)=>p.1=q.1/\H q.2.1=O (.tup<|p.1.map kV)/\RelV p.2 q.2.2) b c /\
   ∃o k r,h.get? a=O o/\o.ExactDict/\o.data=.dict k r/\k.toList=c.map (entryOfKey<|Je<|jZ P w)/\(c.map (·.1)).Nodup
 | .set S n=>h.SetOf (Yd P w) a S n
 | .ins C e fs=>H e=O (.own a)/\fs.length<=1000/\e≠a/\h.get? a=O (oX C e) /\
   ∃d,h.Ns1 e d/\(∀f,cP (fs.lookup f)<|d f)/\PySem.Within d (fs.map (·.1))
 | .own _=>∃o,h.get? a=O o
 | .xd fs=>∃d,h.Ns1 a d/\∀f,cP (fs.lookup f) (d f)
 | .rng lo hi=>∃t u v,h.get? a=O {cls:=.type "range",data:=.fields #[.int lo t,.int hi u,.int 1 v]}
 | .frz o u=>h.get? a=O o/\ObjOk H h a u
 | .tbl y=>h.get? a=O {cls:=.none,data:=.fields y}
 | .met f x=>h.get? a=O (N9 (.ref f)<|.ref x)
 | .ext i=>i h/\(∃o,h.get? a=O o)/\∀l m:Dc,i l->(∀o,l.get? a=O o->m.get? a=O o)->i m
def HOk(H:Hp)(h:Dc):Prop:=∀a o,H a=O o->ObjOk P w H h a o
end
section
variable {P:Cc}{w:Wb}{H H':Hp}{a:Eb}{o:HO}
theorem ObjOk.lt(x:ObjOk P w H h a o):a<h.objs.size:=by
 cases o with
 |lst c=>obtain⟨_,_,_,_,e⟩:=x;exact G0 e
 |tup c=>obtain⟨_,_,_,p⟩:=x;exact p.t.lt
 |dK b=>obtain⟨_,_,_,_,o,_,_,e,_⟩:=x;exact G0 e
 |dT b=>obtain⟨_,_,_,_,o,_,_,e,_⟩:=x;exact G0 e
 |set S n=>obtain⟨o,_,_,_,e,_⟩:=x;exact G0 e
 |ins C d fs=>obtain⟨_,_,_,e,_⟩:=x;exact G0 e
 |own y=>obtain⟨_,e⟩:=x;exact G0 e
 |xd fs=>obtain⟨_,⟨_,_,_,e,_⟩,_⟩:=x;exact G0 e
 |rng lo hi=>obtain⟨_,_,_,e⟩:=x;exact G0 e
 |frz i u=>obtain⟨e,_⟩:=x;exact G0 e
 |tbl j=>exact G0<|show h.get? a=O _ from x
 |met f y=>exact G0<|show h.get? a=O _ from x
 |ext k=>obtain⟨_,⟨_,e⟩,_⟩:=x;exact G0 e
theorem Paired.mapP{e:Type}{F G:α->e->Prop}:∀{c:List α}{d:List e},Paired F c d->(∀a b,F a b->G a b)->Paired G c d
 |_,_,.nil,_=>.nil
 |_,_,.cons r t,f=>.cons (f _ _ r)<|Paired.mapP t f
theorem ObjOk.stay(x:ObjOk P w H h a o)(k:∀b u,(b=a\/H b=O (.own a))->h.get? b=O u->h'.get? b=O u)(L:∀b,H b=O (.own a)->H' b=O (.own a)) (M:∀b m,H b=O (.tup m)->H' b=O (.tup m)):ObjOk P w H' h' a o:=by
 induction o with
 |lst m=>obtain⟨z,its,n,r,e⟩:=x;exact⟨z,its,n,r,k _ _ (.inl Z) e⟩
 |tup m=>obtain⟨z,its,r,i,e,c⟩:=x;exact⟨z,its,r,i,k _ _ (.inl Z) e,c⟩
 |dK B=>obtain⟨z,y,R,r,i,j,l,e,c⟩:=x;exact⟨z,y,R,r,i,j,l,k _ _ (.inl Z) e,c⟩
 |dT B=>obtain⟨z,y,m,r,i,j,l,e,c⟩:=x;exact⟨z,y,m,Paired.mapP r λp q z=>⟨z.1,M _ _ z.2.1,z.2.2⟩,i,j,l,k _ _ (.inl Z) e,c⟩
 |set S n=>obtain⟨i,j,l,t,e,c⟩:=x;exact⟨i,j,l,t,k _ _ (.inl Z) e,c⟩
 |ins C dx fs=>obtain⟨d,z,ne,e,F,⟨G,j,l,X,c⟩,r⟩:=x;exact⟨L _ d,z,ne,k _ _ (.inl Z) e,F,⟨G,j,l,k _ _ (.inr d) X,c⟩,r⟩
 |own y=>obtain⟨i,e⟩:=x;exact⟨i,k _ _ (.inl Z) e⟩
 |xd fs=>obtain⟨F,⟨G,j,l,e,c⟩,r⟩:=x;exact⟨F,⟨G,j,l,k _ _ (.inl Z) e,c⟩,r⟩
 |rng lo hi=>obtain⟨t,u,v,e⟩:=x;exact⟨t,u,v,k _ _ (.inl Z) e⟩
 |frz i u Y=>obtain⟨e,q⟩:=x;exact⟨k _ _ (.inl Z) e,Y q⟩
 |tbl I=>have e:h.get? a=O {cls:=.none,data:=.fields I}:=x;show h'.get? a=O {cls:=.none,data:=.fields I};exact k a _ (.inl Z) e
 |met f y=>have e:h.get? a=O (N9 (.ref f)<|.ref y):=x;show h'.get? a=O (N9 (.ref f)<|.ref y);exact k a _ (.inl Z) e
 |ext φ=>obtain⟨p,⟨o,e⟩,st⟩:=x;exact⟨st _ _ p λo q=>k _ _ (.inl Z) q,⟨o,k _ _ (.inl Z) e⟩,st⟩
theorem HOk.lt(x:HOk P w H h)(e:H a=O o):a<h.objs.size:=(x a o e).lt
theorem HOk.fresh(x:HOk P w H h)(e:h.objs.size<=a):H a=none:=by
 cases q:H a with
 |none=>rfl
 |some u=>exact absurd (v0 (x.lt q) e)<|j4 _
theorem HOk.kept(x:HOk P w H h)(k:∀b u,h.get? b=O u->h'.get? b=O u):HOk P w H h':=λa o e=>(x a o e).stay (λb u _ q=>k b u q) (λ_ q=>q) λ_ _ q=>q
theorem HOk.laid(x:HOk P w H h)(k:∀b u,h.get? b=O u->h'.get? b=O u)(j:h.objs.size<=a)(new:ObjOk P w (kZ H a o) h' a o):HOk P w (kZ H a o) h':=λb u e=>by
 have d:=x.fresh j;by_cases i:b=a
 .subst i;rw[OX]at e;cases e;exact new
 .rw[zX i]at e;exact(x b u e).stay (λc v _ q=>k c v q) (λc q=>by rw[zX<|AX q d];exact q) λc l q=>by rw[zX<|AX q d];exact q
end
def Rd(H:Hp)(a:Eb)(u:HO):Prop:=H a=O u\/∃o,H a=O (.frz o u)
theorem Rd.ok{u:HO}(r:Rd H a u)(x:HOk P w H h):ObjOk P w H h a u:=by
 rcases r with r|⟨o,r⟩
 .exact x a u r
 .obtain⟨_,q⟩:=x a _ r;exact q
noncomputable def dP:Yi HO->Prop
 |some (.lst _)=>True
 |some (.dK _)=>True
 |some (.dT _)=>True
 |some (.set _ _)=>True
 |some (.ins _ _ _)=>True
 |some (.ext _)=>True
 |_=>Al
section
variable {P:Cc}{w:Wb}{H:Hp}{x e:Eb}{o':HO}
theorem HOk.write(ok:HOk P w H h)(j:dP (H x))(C:e=x\/H e=O (.own x))(k:∀b u,b≠e->h.get? b=O u->h'.get? b=O u)(B:∃u,h'.get? e=O u)(new:ObjOk P w (kZ H x o') h' x o'):HOk P w (kZ H x o') h':=λb u q=>by
 have d:∀c y,H c=O (.own y)->c≠x:=λc y r z=>by subst z;rw[r]at j;exact j
 have i:∀c l,H c=O (.tup l)->c≠x:=λc l r z=>by subst z;rw[r]at j;exact j
 by_cases m:b=x
 .subst m;rw[OX]at q;cases q;exact new
 .rw[zX m]at q;by_cases a:b=e
  .have F:H b=O (.own x):=by
    rcases C with z|z
    .exact absurd (a.trans z) m
    .rw[a];exact z
   rw[q]at F;cases F;obtain⟨v,G⟩:=B;exact⟨v,by rw[a];exact G⟩
  .refine(ok b u q).stay (λc v t r=>k c v ?_ r) (λc r=>by rw[zX<|d c b r];exact r) λc l r=>by rw[zX<|i c l r];exact r
   rcases t with rfl|t
   .exact a
   .rintro rfl;rcases C with z|z
    .exact d c b t z
    .rw[t]at z;cases z;exact m Z
end
structure Un(fs ex:List Eb)(H H':Hp)(h h':Dc):Prop where
 keep:∀b o,h.get? b=O o->H b=U->b∉fs->b∉ex->h'.get? b=O o
 slot:∀b o,h.get? b=O o->H b=U->b∈fs->b∉ex->∃sl,h'.get? b=O {o with slots:=sl}
 free:∀b o,h.get? b=O o->H b=U->b∉ex->H' b=U
 there:∀b o,h.get? b=O o->b∉ex->∃o',h'.get? b=O o'
 tups:∀b xs,H b=O (.tup xs)->H' b=O (.tup xs)
 frzs:∀b o u,H b=O (.frz o u)->H' b=O (.frz o u)
 tbls:∀b ps,H b=O (.tbl ps)->∃yc,H' b=O (.tbl<|ps++yc)
section
variable {fs fs' ex ex':List Eb}{H H1 H2:Hp}{h1 h2:Dc}{a x e:Eb}{o:HO}
theorem Un.any(u:Un fs ex H H1 h h1){b:Eb}{c:Obj}(q:h.get? b=O c)(n:H b=U)(hx:b∉ex):∃i,h1.get? b=O {c with slots:=i}:=by
 by_cases d:b∈fs
 .exact u.slot b c q n d hx
 .exact⟨c.slots,u.keep b c q n d hx⟩
theorem Un.kept(k:∀b u,h.get? b=O u->h'.get? b=O u):Un fs ex H H h h':=⟨λb c q _ _ _=>k b c q,λb c q _ _ _=>⟨c.slots,k b c q⟩,λ_ _ _ n _=>n,λb c q _=>⟨c,k b c q⟩,λ_ _ q=>q,λ_ _ _ q=>q,λ_ d q=>⟨#[],by rw[q];simp⟩⟩
theorem Un.refl:Un fs ex H H h h:=Un.kept λ_ _ q=>q
theorem Un.laid(k:∀b u,h.get? b=O u->h'.get? b=O u)(d:h.objs.size<=a)(c:H a=U):Un fs ex H (kZ H a o) h h' where
 keep:=λb u q _ _ _=>k b u q
 slot:=λb u q _ _ _=>⟨u.slots,k b u q⟩
 free:=λb u q n _=>by rw[zX<|U0<|v0 (G0 q) d];exact n
 there:=λb u q _=>⟨u,k b u q⟩
 tups:=λb i q=>by rw[zX<|AX q c];exact q
 frzs:=λb u i q=>by rw[zX<|AX q c];exact q
 tbls:=λb j q=>⟨#[],by rw[zX<|AX q c,q];simp⟩
theorem Un.write(d:dP (H x))(m:e=x\/H e=O (.own x))(k:∀b u,b≠e->h.get? b=O u->h'.get? b=O u)(i:∃u,h'.get? e=O u):Un fs ex H (kZ H x o) h h':=by
 have hx:∀b,H b=U->b≠x:=λb n z=>by subst z;rw[n]at d;exact d
 have l:∀b,H b=U->b≠e:=λb n z=>by
  subst z;rcases m with r|r
  .exact hx b n r
  .rw[n]at r;cases r
 have j:∀b u,H b=O u->¬dP (O u)->b≠x:=λb u q nm z=>by subst z;rw[q]at d;exact nm d
 refine⟨λb u q n _ _=>k b u (l b n) q,λb u q n _ _=>⟨u.slots,k b u (l b n) q⟩,λb u q n _=>by rw[zX<|hx b n];exact n,λb u q _=>?_,
   λb t q=>by rw[zX<|j b _ q λz=>z];exact q,λb u t q=>by rw[zX<|j b _ q λz=>z];exact q,λb v q=>⟨#[],by rw[zX<|j b _ q λz=>z,q];simp⟩⟩;by_cases c:b=e
 .subst c;exact i
 .exact⟨u,k b u c q⟩
end
noncomputable def jT(h:Dc)(H:Hp):List Eb:=(S2 h.objs.size).filter λa=>(H a).isSome
noncomputable def kG(h:Dc)(H:Hp):Dc:=PySem.W.hideAll h<|jT h H
theorem ox(h:Dc)(H:Hp):(kG h H).objs.size=h.objs.size:=PySem.W.hideAll_size _ _
theorem Yk(e:h.get? b=O o)(n:H b=U):(kG h H).get? b=O o :=
 PySem.W.hideAll_get _ e λa=>by have q:(H b).isSome=true:=(Z8.mp a).2;rw[n]at q;simp at q
theorem GB(e:(kG h H).get? b=O o):h.get? b=O o/\H b=none:=by
 have a:h.get? b=O o:=PySem.W.of_hideAll (jT h H) e;refine⟨a,?_⟩;cases q:H b with
 |none=>rfl
 |some x=>have c:b∈jT h H:=Z8.mpr ⟨Q4.mpr<|G0 a,by simp[q]⟩;have z:(kG h H).get? b=none:=PySem.W.hideAll_none (jT h H) c;rw[z]at e;cases e
noncomputable def HB(g h:Dc)(L:Eb):Ut:=(S2 h.objs.size).filterMap λa=>if a=L\/(g.get? a).isSome=Ul then U else (h.get? a).map λo=>(a,o)
noncomputable def rest(g h:Dc)(L d:Eb):Ut:=(HB g h L).filter λp=>decide<|p.1≠d
def eP(mg:Str->Yi Bb)(h:Dc):Prop:=∃a o,mg "__builtins__"=O (.ref a)/\a≠Hf/\h.get? a=O o/\o.cls=.type "module"/\o.dict=O Hf/\o.data=.plain
structure Mod(K:B0)(mg:Str->Yi Bb)(base:Dc):Prop where
 kin:K.In base
 glob:base.Ns Ub mg
 blt:∃mb,base.Ns Hf mb/\∀x:Str,x ≠ "__name__"->mb x=Gc x
 nolimit:base.NoLimit
 bm:eP mg base
structure Cx where
 prog:Cc
 w:Wb
 K:B0
 mg:Str->Yi Bb
 base:Dc
 A:Ae
 N:Us
 s₀:Gb
 H₀:Hp
 env:Env
 outer:List Env
 stack:List Env
 ex:List Eb
 fn:Str->Bool
 calm:Bool
 pn:Ut
 xe:Bb->Gb->Prop
noncomputable def xz(l:List Env):List Eb:=l.filterMap (·.frame)
noncomputable abbrev Cx.fs(X:Cx):List Eb:=xz X.outer
def xI(sc:Oh)(x:Str):Prop:=sc.names.lookup x=O .local\/sc.names.lookup x=O .cell\/sc.names.lookup x=O .free
def IB(sc:Oh)(x:Str):Prop:=sc.names.lookup x=O .local\/sc.names.lookup x=O .cell
def fA(env:Env)(h:Dc)(m:Str->Yi Bb)(x:Str)(u:Bb):Prop:=(env.kindOf x=O .local/\m x=O u)\/((env.kindOf x=O .cell\/env.kindOf x=O .free)/\∃c,env.cells.lookup x=O c/\h.IsCell c (O u))
structure Cx.Ok(X:Cx):Prop where
 mod:Mod X.K X.mg X.base
 kind:X.env.scope.kind=.function
 glob:X.env.globals=Ub
 blt:X.env.builtins=Hf
 above:X.s₀.heap.objs.size<=X.env.locals
 inj:∀x y c,X.env.cells.lookup x=O c->X.env.cells.lookup y=O c->x=y
 has:∀x,(X.env.kindOf x=O .cell\/X.env.kindOf x=O .free)->∃c,X.env.cells.lookup x=O c
 cab:∀x c,X.fn x=Ul->X.env.cells.lookup x=O c->X.s₀.heap.objs.size<=c
 hd:X.calm=Ul->X.A.handled=U
 frames:X.A.frames=O X.stack
 stk:X.stack=X.outer\/(X.stack=X.env::X.outer/\X.env.frame=O X.env.locals)
 exf:∀b∈X.ex,b≠X.env.locals/\∀x c,X.env.cells.lookup x=O c->c≠b
 bs:∀b o,X.base.get? b=O o->X.s₀.heap.get? b=O o/\X.H₀ b=U
 bsz:X.base.objs.size<=X.s₀.heap.objs.size
 noex:∀b o,X.base.get? b=O o->b∉X.ex
 exfs:∀b∈X.ex,b∉X.fs
 funs:X.s₀.heap.FunFrames X.base X.outer
 frf:∀b∈X.fs,X.H₀ b=U
structure Inv(X:Cx)(gb:Ut)(σ:List (Yi V))(H:Hp)(s:Gb):Prop where
 ok:X.Ok
 os:s.os=X.s₀.os
 bare:Rf s.gens
 base:Un X.fs X.ex X.H₀ H X.s₀.heap s.heap
 loc:∃m,s.heap.Ns X.env.locals m/\∀(i:Nat) (x:Str) (v:V),X.N[i]?=O x->σ[i]?=O (O v)->xI X.env.scope x->∃u,RelV v u/\fA X.env s.heap m x u
 cell:∀x c,X.env.cells.lookup x=O c->∃v,s.heap.IsCell c v
 free:H X.env.locals=U
 freeC:∀x c,X.env.cells.lookup x=O c->H c=U
 pin:∀p∈X.pn++gb,s.heap.get? p.1=O p.2/\H p.1=U/\p.1≠X.env.locals/\p.1∉X.fs/\∀v,p.2.data≠.cell v
 hok:HOk X.prog X.w H s.heap
 len:σ.length=X.N.length
section
variable {X:Cx}{σ:List (Yi V)}{H H':Hp}
theorem Cx.Ok.nofr(ok:X.Ok){b:Eb}{o:Obj}(e:X.base.get? b=O o):b∉X.fs:=λa=>by have:=(ok.funs.mem a).1;rw[e]at this;cases this
theorem Inv.bs(I:Inv X gb σ H s):∀b o,X.base.get? b=O o->s.heap.get? b=O o/\H b=none:=λb o e=>⟨I.base.keep b o (I.ok.bs b o e).1 (I.ok.bs b o e).2 (I.ok.nofr e)<|I.ok.noex b o e,I.base.free b o (I.ok.bs b o e).1 (I.ok.bs b o e).2<|I.ok.noex b o e⟩
theorem Inv.bk(I:Inv X gb σ H s):∀b o,X.base.get? b=O o->s.heap.get? b=O o:=λb o e=>(I.bs b o e).1
theorem Inv.mod(I:Inv X gb σ H s):Mod X.K X.mg X.base:=I.ok.mod
theorem Inv.kIn(I:Inv X gb σ H s):X.K.In s.heap:=I.ok.mod.kin.keeps I.bk
theorem Inv.lt(I:Inv X gb σ H s):X.env.locals<s.heap.objs.size:=let ⟨_,hn,_⟩:=I.loc;hn.lt
theorem Inv.sz(I:Inv X gb σ H s):X.s₀.heap.objs.size<=s.heap.objs.size:=q0 I.ok.above<|V0 I.lt
theorem Inv.nofs(I:Inv X gb σ H s){a:Eb}(h:s.heap.objs.size<=a):a∉X.fs:=λb=>by obtain⟨_,o,c,_⟩:=I.ok.funs.mem b;exact absurd (v0 (G0 c)<|q0 I.sz h)<|j4 _
theorem Inv.cne(I:Inv X gb σ H s):∀x c,X.env.cells.lookup x=O c->c≠X.env.locals:=λx c e z=>by obtain⟨v,o,a,hd⟩:=I.cell x c e;obtain⟨m,⟨i,j,k,b,d,_⟩,_⟩:=I.loc;rw[z,b]at a;cases a;rw[d]at hd;cases hd
theorem Inv.funs(I:Inv X gb σ H s):s.heap.FunFrames X.base X.outer:=by
 have all:∀(l:List Env),(∀b∈xz l,b∈X.fs)->X.s₀.heap.FunFrames X.base l->s.heap.FunFrames X.base l:=by
  intro l;induction l with
  |nil=>intro _ _;trivial
  |cons env r i=>intro d hl;obtain⟨j,⟨L,o,a,k,m,hd⟩,q⟩:=hl;have hL:L∈X.fs:=d L (by unfold xz;rw[c9,a];exact u0);obtain⟨t,e⟩:=I.base.slot L o m (I.ok.frf L hL) hL λz=>I.ok.exfs L z hL;exact⟨j,⟨L,_,a,k,e,hd⟩,i (λb c=>d b<|by unfold xz;rw[c9,a];exact i0 _ c) q⟩
 exact all X.outer (λ_ c=>c) I.ok.funs
theorem Inv.stack(I:Inv X gb σ H s):s.heap.FunFrames X.base X.stack:=by
 rcases I.ok.stk with e|⟨e,a⟩
 .rw[e];exact I.funs
 .rw[e];obtain⟨m,b,_⟩:=I.loc;refine .cons (by rw[I.ok.kind];decide) a b ?_ I.funs;exact Heap.get?_none_of_le<|q0 I.ok.bsz I.ok.above
theorem Inv.stkSub(I:Inv X gb σ H s):∀b∈xz X.stack,b∈X.env.locals::X.fs:=λb a=>by
 rcases I.ok.stk with e|⟨e,c⟩
 .rw[e]at a;exact i0 _ a
 .rw[e]at a;unfold xz at a;rw[c9,c]at a;exact a
theorem Inv.stkFree(I:Inv X gb σ H s):∀b∈xz X.stack,H b=none:=λb a=>by
 rcases T0.mp (I.stkSub b a) with e|a
 .rw[e];exact I.free
 .obtain⟨_,o,c,_⟩:=I.ok.funs.mem a;exact I.base.free b o c (I.ok.frf b a) λz=>I.ok.exfs b z a
theorem Inv.step(I:Inv X gb σ H s)(M:∀b∈ch,(b∈X.ex\/X.s₀.heap.objs.size<=b)/\b≠X.env.locals/\(∀x c,X.env.cells.lookup x=O c->c≠b)/\∀p∈X.pn++gb,p.1≠b)(keep:∀b o,b≠X.env.locals->b∉X.fs->b∉ch->s.heap.get? b=O o->H b=U->h'.get? b=O o)(B:∀b o,b≠X.env.locals->b∈X.fs->b∉ch->s.heap.get? b=O o->H b=U->∃sl,h'.get? b=O {o with slots:=sl}) (a:∀b o,b∉ch->s.heap.get? b=O o->H b=U->H' b=U)(F:∀b o,b∉ch->s.heap.get? b=O o->∃P,h'.get? b=O P)(R:∀b C,H b=O (.tup C)->H' b=O (.tup C)) (Y:∀b o u,H b=O (.frz o u)->H' b=O (.frz o u)) (tbls:∀b ps,H b=O (.tbl ps)->∃yc,H' b=O (.tbl<|ps++yc))(ns:∀m,s.heap.Ns X.env.locals m->h'.Ns X.env.locals m) (hok:HOk X.prog X.w H' h') (hg:Rf g'):Inv X gb σ H' {s with heap:=h',gens:=g',drawn:=d',toks:=t'}:=by
 have neL:∀b o,X.s₀.heap.get? b=O o->b≠X.env.locals:=λb o e=>U0<|v0 (G0 e) I.ok.above;have t:∀b o,X.s₀.heap.get? b=O o->b∉X.ex->b∉ch:=λb o e hx G=>by
  rcases (M b G).1 with z|z
  .exact hx z
  .exact absurd (v0 (G0 e) z) (j4 _)
 have qp:∀x c,X.env.cells.lookup x=O c->∀v,s.heap.IsCell c v->h'.IsCell c v:=λx c e v ⟨o,L,hd⟩=>by
  have j:c∉ch:=λz=>(M c z).2.2.1 x c e Z;by_cases hc:c∈X.fs
  .obtain⟨sl,q⟩:=B c o (I.cne x c e) hc j L<|I.freeC x c e;exact⟨_,q,hd⟩
  .exact⟨o,keep c o (I.cne x c e) hc j L<|I.freeC x c e,hd⟩
 refine⟨I.ok,I.os,hg,⟨λb o e n G hx=>?_,λb o e n G hx=>?_,λb o e n hx=>?_,λb o e hx=>?_,λb C e=>R b C<|I.base.tups b C e,λb o C e=>Y b o C<|I.base.frzs b o C e,λb ps e=>?_⟩,?_,λx c e=>?_,?_,λx c e=>?_,λp hp=>?_,hok,I.len⟩
 .exact keep b o (neL b o e) G (t b o e hx) (I.base.keep b o e n G hx) (I.base.free b o e n hx)
 .obtain⟨sl,y⟩:=I.base.slot b o e n G hx;obtain⟨sl',e2⟩:=B b _ (neL b o e) G (t b o e hx) y<|I.base.free b o e n hx;exact⟨sl',e2⟩
 .obtain⟨P,y⟩:=I.base.there b o e hx;exact a b P (t b o e hx) y<|I.base.free b o e n hx
 .obtain⟨P,y⟩:=I.base.there b o e hx;exact F b P (t b o e hx) y
 .obtain⟨m1,y⟩:=I.base.tbls b ps e;obtain⟨m2,e2⟩:=tbls b _ y;exact⟨m1++m2,by rw[e2,Array.append_assoc]⟩
 .obtain⟨m,hn,hl⟩:=I.loc;refine⟨m,ns m hn,λi x v y e2 e3=>?_⟩;obtain⟨u,r,l⟩:=hl i x v y e2 e3;refine⟨u,r,?_⟩;rcases l with l|⟨k,c,e,z⟩
  .exact .inl l
  .exact .inr ⟨k,c,e,qp x c e _ z⟩
 .obtain⟨v,z⟩:=I.cell x c e;exact⟨v,qp x c e v z⟩
 .obtain⟨m,⟨o,_,_,L,_⟩,_⟩:=I.loc;exact a _ o (λz=>(M _ z).2.1 Z) L I.free
 .obtain⟨v,o,L,hd⟩:=I.cell x c e;exact a c o (λz=>(M c z).2.2.1 x c e Z) L<|I.freeC x c e
 .obtain⟨e,n,ne,nf,d⟩:=I.pin p hp;have j:p.1∉ch:=λz=>(M p.1 z).2.2.2 p hp Z;exact⟨keep p.1 p.2 ne nf j e n,a p.1 p.2 j e n,ne,nf,d⟩
theorem Inv.un(I:Inv X gb σ H s)(u:Un X.fs [] H H' s.heap h')(a:HOk X.prog X.w H' h'):Inv X gb σ H' {s with heap:=h',toks:=t'}:=by
 obtain⟨m,⟨o,t,v,d,r⟩,_⟩:=id I.loc;obtain⟨x,hL⟩:=u.any d I.free (by simp);exact I.step (g':=s.gens) (d':=s.drawn) (ch:=[]) (λ_ z=>nomatch z) (λb o _ c _ e n=>u.keep b o e n c<|by simp) (λb o _ c _ e n=>u.slot b o e n c<|by simp) (λb o _ e n=>u.free b o e n<|by simp) (λb o _ e=>u.there b o e<|by simp) u.tups u.frzs u.tbls (λy j=>by obtain⟨B,k,l,i,q⟩:=j;rw[d]at i;cases i;exact⟨_,k,l,hL,q⟩) a I.bare
theorem Inv.call(I:Inv X gb σ H s)(u:Un (xz X.stack) ch H H' s.heap h')(d:HOk X.prog X.w H' h')(l:Rf g')(i:∀b∈ch,(b∈X.ex\/X.s₀.heap.objs.size<=b)/\b≠X.env.locals/\(∀x c,X.env.cells.lookup x=O c->c≠b)/\∀p∈X.pn++gb,p.1≠b):Inv X gb σ H' {s with heap:=h',gens:=g',drawn:=d',toks:=t'}:=by
 obtain⟨m,⟨o,C,F,j,r⟩,_⟩:=id I.loc;obtain⟨G,hL⟩:=u.any j I.free λz=>(i _ z).2.1 Z;exact I.step (ch:=ch) i (λb o hL q a e n=>u.keep b o e n (λz=>(T0.mp<|I.stkSub b z).elim hL q) a) (λb o _ _ a e n=>u.any e n a) (λb o a e n=>u.free b o e n a) (λb o a e=>u.there b o e a) u.tups u.frzs u.tbls (λL t=>by obtain⟨M,v,y,k,B⟩:=t;rw[j]at k;cases k;exact⟨_,v,y,hL,B⟩) d l
theorem Inv.turned(I:Inv X gb σ H s)(k:∀b o,b≠it->s.heap.get? b=O o->h'.get? b=O o)(i:H it=U)(hL:it≠X.env.locals)(j:it∈X.ex\/X.s₀.heap.objs.size<=it) (l:∀x c,X.env.cells.lookup x=O c->c≠it) (t:∀p∈X.pn++gb,p.1≠it):Inv X gb σ H {s with heap:=h',toks:=t'}:=by
 have d:∀b u,H b=O u->b≠it:=λb u e z=>by rw[z,i]at e;cases e
 refine I.step (g':=s.gens) (d':=s.drawn) (ch:=[it]) (λb w=>?_) (λb o _ _ a e _=>k b o (λz=>a<|by simp[z]) e) (λb o _ _ a e _=>⟨o.slots,k b o (λz=>a<|by simp[z]) e⟩) (λ_ _ _ _ n=>n)
  (λb o a e=>⟨o,k b o (λz=>a<|by simp[z]) e⟩) (λ_ _ e=>e) (λ_ _ _ e=>e) (λb G e=>⟨#[],by rw[e];simp⟩) (λm y=>?_) (λb u e=>?_) I.bare
 .have e:b=it:=by simpa using w
  subst e;exact⟨j,hL,l,t⟩
 .obtain⟨o,B,C,F,r⟩:=y;exact⟨o,B,C,k _ o (U3 hL) F,r⟩
 .refine(I.hok b u e).stay (λc v a q=>k c v ?_ q) (λ_ q=>q) λ_ _ q=>q;rcases a with z|z
  .rw[z];exact d b u e
  .exact d c _ z
theorem Inv.tok(I:Inv X gb σ H s)(t:Nat):Inv X gb σ H {s with toks:=t}:=I.un (h':=s.heap) (t':=t) Un.refl I.hok
theorem Inv.kept(I:Inv X gb σ H s)(k:∀b u,s.heap.get? b=O u->h'.get? b=O u):Inv X gb σ H {s with heap:=h',toks:=t'}:=I.un (Un.kept k)<|I.hok.kept k
theorem Inv.laid{a:Eb}{o:HO}(I:Inv X gb σ H s)(k:∀b u,s.heap.get? b=O u->h'.get? b=O u)(c:s.heap.objs.size<=a)(new:ObjOk X.prog X.w (kZ H a o) h' a o):Inv X gb σ (kZ H a o) {s with heap:=h',toks:=t'}:=I.un (Un.laid k c<|I.hok.fresh c)<|I.hok.laid k c new
theorem Inv.write{o:HO}(I:Inv X gb σ H s)(c:dP (H x))(d:e=x\/H e=O (.own x))(k:∀b u,b≠e->s.heap.get? b=O u->h'.get? b=O u)(a:∃u,h'.get? e=O u)(new:ObjOk X.prog X.w (kZ H x o) h' x o):Inv X gb σ (kZ H x o) {s with heap:=h',toks:=t'}:=I.un (Un.write c d k a)<|I.hok.write c d k a new
theorem Inv.pins_of(I:Inv X gb σ H s)(h:∀p∈pins',s.heap.get? p.1=O p.2/\H p.1=U/\p.1≠X.env.locals/\p.1∉X.fs/\∀v,p.2.data≠.cell v):Inv X pins' σ H s:=⟨I.ok,I.os,I.bare,I.base,I.loc,I.cell,I.free,I.freeC,λp a=>(W0.mp a).elim (λz=>I.pin p<|i3 _ z)<|h p,I.hok,I.len⟩
theorem AF(hN:N.Nodup){i j:Nat}{x:Str}(a:N[i]?=O x)(b:N[j]?=O x):i=j:=by obtain⟨e,c⟩:=L1.mp a;obtain⟨k,d⟩:=L1.mp b;exact(List.getElem_inj hN).mp<|c.trans d.symm
theorem CH{M:Model}{i:Nat}{x:Str}{v:V}{Q:Unit->Gb->Prop}(I:Inv X gb σ H s)(hN:X.N.Nodup)(hi:X.N[i]?=O x)(hx:IB X.env.scope x)(r:RelV v u)
  (h:∀s',Inv X gb (σ.set i<|O v) H s'->(∃a,E3 a s.heap s'.heap/\(a=X.env.locals\/X.env.cells.lookup x=O a))->Q () s') (hf:X.fn x=Ul\/X.env.scope.names.lookup x=O .local:=by first|exact .inl rfl|exact .inr rfl|assumption):Hb M A (storeName X.env x u) Q E s:=by
 obtain⟨m,hn,hl⟩:=id I.loc;have R:(X.env.scope.kind==.class||(X.env.scope.kind==.module&&X.env.locals != X.env.globals))=false:=by rw[I.ok.kind];rfl
 have hiσ:i<σ.length:=by rw[I.len];exact(L1.mp hi).1
 have cne:=I.cne;have vh:∀{a:Eb}{h':Dc},(∃o,s.heap.get? a=O o/\H a=U)->E3 a s.heap h'->HOk X.prog X.w H h':=λ{a h'} ha l b ob e=>by
  obtain⟨_,_,eg⟩:=ha;refine(I.hok b ob e).stay (λc w' B q=>(l.2 c ?_).trans q) (λ_ q=>q) λ_ _ q=>q;rintro rfl;rcases B with rfl|B
  .rw[eg]at e;cases e
  .rw[eg]at B;cases B
 rcases hx with F|F
 .refine wpAny_storeName_local F hn (λh' hn' l=>?_) R;obtain⟨oL,_,_,yn,_⟩:=id hn;refine h _ ⟨I.ok,I.os,I.bare,⟨λb o e n G hx=>?_,λb o e n G hx=>?_,I.base.free,λb o e hx=>?_,I.base.tups,I.base.frzs,I.base.tbls⟩,⟨_,hn',λj y v' t C e3=>?_⟩,λy c e=>?_,I.free,I.freeC,λp hp=>?_,vh ⟨oL,yn,I.free⟩ l,by simpa using I.len⟩ ⟨_,l,.inl Z⟩
  .exact(l.2 b<|U0<|v0 (G0 e) I.ok.above).trans (I.base.keep b o e n G hx)
  .obtain⟨sl,t⟩:=I.base.slot b o e n G hx;exact⟨sl,(l.2 b<|U0<|v0 (G0 e) I.ok.above).trans t⟩
  .obtain⟨o',t⟩:=I.base.there b o e hx;exact⟨o',(l.2 b<|U0<|v0 (G0 e) I.ok.above).trans t⟩
  .by_cases L:j=i
   .subst L;rw[hi]at t;cases t;rw[B8 hiσ]at C;cases C;exact⟨u,r,.inl ⟨F,by simp⟩⟩
   .rw[W1<|U3 L]at C;obtain⟨u',r',q⟩:=hl j y v' t C e3;refine⟨u',r',?_⟩;rcases q with⟨k,e⟩|⟨k,c,e,z⟩
    .refine .inl ⟨k,?_⟩;have:y≠x:=λe=>L<|AF hN t<|e ▸ hi;simp[this,e]
    .exact .inr ⟨k,c,e,z.sameBut l<|cne y c e⟩
  .obtain⟨w',z⟩:=I.cell y c e;exact⟨w',z.sameBut l<|cne y c e⟩
  .obtain⟨e,n,ne,nf,d⟩:=I.pin p hp;exact⟨(l.2 p.1 ne).trans e,n,ne,nf,d⟩
 .have P:X.fn x=true:=by
   rcases hf with z|z
   .exact z
   .rw[z]at F;cases F
  obtain⟨c,B⟩:=I.ok.has x<|.inl F;obtain⟨w',z⟩:=I.cell x c B;refine wpAny_storeName_cell I.ok.kind F B z<|λh' uc l=>?_;obtain⟨oc,Y,hocd⟩:=id z;refine h {s with heap:=h'} ⟨I.ok,I.os,I.bare,⟨λb o e n G hx=>?_,λb o e n G hx=>?_,I.base.free,λb o e hx=>?_,I.base.tups,I.base.frzs,I.base.tbls⟩,⟨m,hn.sameBut l<|U3<|cne x c B,λj y v' t C e3=>?_⟩,λy c' e=>?_,I.free,I.freeC,λp hp=>?_,vh ⟨oc,Y,I.freeC x c B⟩ l,by simpa using I.len⟩ ⟨c,l,.inr B⟩
  .exact(l.2 b<|U0<|v0 (G0 e)<|I.ok.cab x c P B).trans (I.base.keep b o e n G hx)
  .obtain⟨sl,t⟩:=I.base.slot b o e n G hx;exact⟨sl,(l.2 b<|U0<|v0 (G0 e)<|I.ok.cab x c P B).trans t⟩
  .obtain⟨o',t⟩:=I.base.there b o e hx;exact⟨o',(l.2 b<|U0<|v0 (G0 e)<|I.ok.cab x c P B).trans t⟩
  .by_cases L:j=i
   .subst L;rw[hi]at t;cases t;rw[B8 hiσ]at C;cases C;exact⟨u,r,.inr ⟨.inl F,c,B,uc⟩⟩
   .rw[W1<|U3 L]at C;obtain⟨u',r',q⟩:=hl j y v' t C e3;refine⟨u',r',?_⟩;rcases q with q|⟨k,c',e,z'⟩
    .exact .inl q
    .refine .inr ⟨k,c',e,z'.sameBut l ?_⟩;rintro rfl;exact L<|AF hN t<|I.ok.inj _ _ _ e B ▸ hi
  .by_cases hcc:c'=c
   .subst hcc;exact⟨_,uc⟩
   .obtain⟨w2,z2⟩:=I.cell y c' e;exact⟨w2,z2.sameBut l hcc⟩
  .obtain⟨e,n,ne,nf,d⟩:=I.pin p hp;refine⟨(l.2 p.1 ?_).trans e,n,ne,nf,d⟩;intro q;rw[q,Y]at e;have q':oc=p.2:=Z1 e;exact d w' (by rw[<-q'];exact hocd)
theorem BF{M:Model}{i:Nat}{x:Str}{v:V}{Q:Unit->Gb->Prop}(I:Inv X gb σ H s)(hN:X.N.Nodup)(hi:X.N[i]?=O x)(hx:IB X.env.scope x)(r:RelV v u)
  (h:∀s',Inv X gb (σ.set i<|O v) H s'->Q () s') (a:X.fn x=Ul\/X.env.scope.names.lookup x=O .local:=by first|exact .inl rfl|exact .inr rfl|assumption):Hb M A (storeName X.env x u) Q E s :=
 CH I hN hi hx r (λs' b _=>h s' b) a
theorem Inv.call'(I:Inv X gb σ H s)(d:s'.os=s.os)(u:Un (xz X.stack) ch H H' s.heap s'.heap)(a:HOk X.prog X.w H' s'.heap)(i:Rf s'.gens)(j:∀b∈ch,(b∈X.ex\/X.s₀.heap.objs.size<=b)/\b≠X.env.locals/\(∀x c,X.env.cells.lookup x=O c->c≠b)/\∀p∈X.pn++gb,p.1≠b):Inv X gb σ H' s':=by
 obtain⟨h',g',d',t',k⟩:=s';have e:k=s.os:=d;subst e;exact I.call (g':=g') (t':=t') (d':=d') u a i j
end
noncomputable abbrev XK:=Bb->Yi Eb->Hp->Prop
noncomputable abbrev St:=List<|Yi V
noncomputable abbrev VK:=V->Hp->Prop
noncomputable abbrev TE:=St->Hp->VK->Prop
noncomputable abbrev TT:=St->Hp->(Bool->Hp->Prop)->Prop
noncomputable abbrev TA:=St->Hp->(List V->Hp->Prop)->Prop
structure Ends where
 nx:St->Hp->Prop
 rt:VK
 bk:St->Hp->Prop:=λ_ _=>Al
 ct:St->Hp->Prop:=λ_ _=>Al
noncomputable abbrev TS:=Ends->St->Hp->Prop
def EP(X:Cx)(gb:Ut)(b:St)(Q:VK)(u:Bb)(s':Gb):Prop:=∃v a,Inv X gb b a s'/\RelV v u/\Q v a
def TP(X:Cx)(gb:Ut)(c:St)(Q:Bool->Hp->Prop)(b:Bool)(s':Gb):Prop:=∃a,Inv X gb c a s'/\Q b a
def AP(X:Cx)(gb:Ut)(c:St)(Q:List V->Hp->Prop)(us:Up)(s':Gb):Prop:=∃a b,Inv X gb c b s'/\Vals a us/\Q a b
def SP(X:Cx)(gb:Ut)(D:Ends)(f:Flow)(s':Gb):Prop :=
 match f with
 | .next=>∃a b,Inv X gb a b s'/\D.nx a b
 | .brk=>∃a b,Inv X gb a b s'/\D.bk a b
 | .cont=>∃a b,Inv X gb a b s'/\D.ct a b
 | .ret u=>∃v a b,Inv X gb a b s'/\RelV v u/\D.rt v b
def PE(X:Cx)(e:Vb)(t:TE):Prop:=∀(gb:Ut) (s:Gb) (a:St) (H:Hp) (Q:VK),Inv X gb a H s->t a H Q->Hb (Kb X.prog X.w) X.A (Wc e X.env) (EP X gb a Q) X.xe s
def PT(X:Cx)(e:Vb)(t:TT):Prop:=∀(gb:Ut) (s:Gb) (a:St) (H:Hp) (Q:Bool->Hp->Prop),Inv X gb a H s->t a H Q->Hb (Kb X.prog X.w) X.A (Ti e X.env<|Wc e X.env) (TP X gb a Q) X.xe s
def PW(X:Cx)(e:Vb)(t:TT):Prop:=∀(b:Sem Bb) (gb:Ut) (s:Gb) (a:St) (H:Hp) (Q:Bool->Hp->Prop),Inv X gb a H s->t a H Q->Hb (Kb X.prog X.w) X.A (Ti e X.env b) (TP X gb a Q) X.xe s
theorem PW.pt(h:PW X e t):PT X e t:=h _
def PA(X:Cx)(b:Bl)(t:TA):Prop:=∀(pos:Pos) (gb:Ut) (s:Gb) (a:St) (H:Hp) (Q:List V->Hp->Prop),Inv X gb a H s->t a H Q->Hb (Kb X.prog X.w) X.A (spliced<|Sc pos<|Pb b X.env) (AP X gb a Q) X.xe s
def PS(X:Cx)(st:Be)(t:TS):Prop:=∀(gb:Ut) (s:Gb) (a:St) (H:Hp) (D:Ends),Inv X gb a H s->t D a H->Hb (Kb X.prog X.w) X.A (exec st X.env) (SP X gb D) X.xe s
def PSs(X:Cx)(st:List Be)(t:TS):Prop:=∀(gb:Ut) (s:Gb) (a:St) (H:Hp) (D:Ends),Inv X gb a H s->t D a H->Hb (Kb X.prog X.w) X.A (execs st X.env) (SP X gb D) X.xe s
theorem xZ{t:Sem α}{Q b:α->Gb->Prop}(h:Hb M A t Q E s)(c:∀a s,Q a s->b a s):Hb M A t b E s:=wpAny_mono h c λ_ _ x=>x
section
variable {X:Cx}
def XY(i:Nat):TE:=λa H Q=>∃v,a[i]?=O (O v)/\Q v H
def tC(v:V):TE:=λ_ H Q=>Q v H
theorem aw{i:Nat}{x:Str}{pos:Pos}(hN:X.N[i]?=O x)(j:xI X.env.scope x)(hd:(x==("__debug__":Str))=false:=by decide)(k:(x==("__classdict__":Str))=false:=by decide):PE X (.Name x pos) (XY i):=by
 intro gb s q H Q I h;obtain⟨v,e,h⟩:=h;obtain⟨m,t,hl⟩:=I.loc;obtain⟨u,r,l⟩:=hl i x v hN e j;have fin:EP X gb q Q u s:=⟨v,H,I,r,h⟩;rcases l with⟨a,w⟩|⟨a,c,b,d⟩
 .exact wpAny_Name (wpAny_loadName_local I.ok.kind a t w fin) hd
 .rcases a with a|a
  .exact wpAny_Name (wpAny_loadName_cell I.ok.kind a b d fin) hd
  .exact wpAny_Name (wpAny_loadName_free I.ok.kind a b d fin k) hd
theorem gJ{i j pos}:PE X (.Constant (.int i) j pos) (tC<|.int i):=λ_ _ _ H _ I h=>wpAny_Constant_int ⟨.int i,H,I.tok _,⟨_,Z⟩,h⟩
theorem fP{b j pos}:PE X (.Constant (.bool b) j pos) (tC<|.bl b):=λ_ _ _ H _ I h=>Constant_bool ⟨.bl b,H,I,Z,h⟩
theorem LL{j pos}:PE X (.Constant .none j pos) (tC .non):=λ_ _ _ H _ I h=>Constant_none ⟨.non,H,I,Z,h⟩
theorem ML{x j pos}:PE X (.Constant (.str x) j pos) (tC<|.str x):=λ_ _ _ H _ I h=>Calls.Constant_str ⟨.str x,H,I.tok _,⟨_,Z⟩,h⟩
def Gl(X:Cx)(x:Str):Prop:=X.env.kindOf x=O .globalImplicit
theorem yz{a:St}{H:Hp}{x:Str}{pos:Pos}(I:Inv X gb a H s)(b:Gl X x)(c:X.mg x=O u)(h:Q u s)
  (hd:(x==("__debug__":Str))=false:=by decide):Hb (Kb X.prog X.w) X.A (Wc (.Name x pos) X.env) Q E s :=
 Calls.Name_function_global I.ok.kind b (Calls.loadGlobal_global (by rw[I.ok.glob];exact I.mod.glob.keeps I.bk) c h) hd
theorem TJ{a:St}{H:Hp}{x:Str}{pos:Pos}(I:Inv X gb a H s)(b:Gl X x)(c:X.mg x=U)(d:Gc x=O u)(h:Q u s)
  (e:x ≠ "__name__":=by decide) (hd:(x==("__debug__":Str))=false:=by decide):Hb (Kb X.prog X.w) X.A (Wc (.Name x pos) X.env) Q E s:=by
 obtain⟨k,i,j⟩:=I.mod.blt;exact Calls.Name_function_global I.ok.kind b (Calls.loadGlobal_builtin (by rw[I.ok.glob];exact I.mod.glob.keeps I.bk) c (by rw[I.ok.blt];exact i.keeps I.bk) ((j x e).trans d) h) hd
theorem zz{x:Str}{v:V}{pos:Pos}(a:Gl X x)(b:X.mg x=U)(c:Gc x=O u)(r:RelV v u)(d:x ≠ "__name__":=by decide)(hd:(x==("__debug__":Str))=false:=by decide):PE X (.Name x pos) (tC v):=λ_ _ _ H _ I h=>TJ I a b c ⟨v,H,I,r,h⟩ d hd
variable {a b:Vb}{ta tb:TE}{pos:Pos}
def tB(t:TE):TT:=λd H Q=>t d H λx e=>∃c,x=.bl c/\Q c e
theorem NL{e:Vb}{t:TE}(h:PE X e t)(i:∀c,Ti e X.env c=(do let v<-c;standAt e.pos;Ud [v] (truthy v)):=by intro _;rfl):PT X e (tB t):=by intro gb s j H Q I hw;refine isTrue_plain (xZ (h gb s j H _ I hw) λv w ⟨x,k,l,m,r⟩=>?_)<|i _;obtain⟨d,rfl,q⟩:=r;cases m;exact Xc ⟨k,l,q⟩
variable {tA tB':TT}{rest:Bl}
def OL(t u:TT):TT:=λd H Q=>t d H λc e=>if c=Ul then u d e Q else Q Um e
def gA(t u:TT):TT:=λd H Q=>t d H λc e=>if c=Ul then Q Ul e else u d e Q
def PL(t:TT):TT:=λd H Q=>t d H λc e=>Q (!c) e
theorem JB(d:PT X a tA):PW X (.BoolOp .And [a] pos) tA:=by
 intro j gb s i H Q I h;refine isTrue_and<|xZ (d gb s i H Q I h) λc k e=>?_;cases c with
 |true=>exact isTrue_and_nil e
 |false=>exact e
theorem QL(d:PT X a tA):PW X (.BoolOp .Or [a] pos) tA:=by
 intro j gb s i H Q I h;refine isTrue_or<|xZ (d gb s i H Q I h) λc k e=>?_;cases c with
 |false=>exact isTrue_or_nil e
 |true=>exact e
theorem RL(k:PT X a tA)(l:PW X (.BoolOp .And (b::rest) pos) tB'):PW X (.BoolOp .And (a::b::rest) pos) (OL tA tB'):=by
 intro m gb s d H Q I h;refine isTrue_and<|xZ (k gb s d H _ I h) λc q ⟨e,i,j⟩=>?_;cases c with
 |true=>exact l m gb q d e Q i j
 |false=>exact⟨e,i,j⟩
theorem gP(k:PT X a tA)(l:PW X (.BoolOp .Or (b::rest) pos) tB'):PW X (.BoolOp .Or (a::b::rest) pos) (gA tA tB'):=by
 intro m gb s d H Q I h;refine isTrue_or<|xZ (k gb s d H _ I h) λc q ⟨e,i,j⟩=>?_;cases c with
 |true=>exact⟨e,i,j⟩
 |false=>exact l m gb q d e Q i j
theorem SL(d:PT X a tA):PT X (.UnaryOp .Not a pos) (PL tA):=by intro gb s e H Q I h;exact isTrue_not<|d gb s e H (λc i=>Q (!c) i) I h
def bw(ta tb:TE):TE:=λd H Q=>ta d H λx e=>∃c,x=.bl c/\if c=Ul then tb d e Q else Q (.bl Um) e
def cw(ta:TE):TE:=λd H Q=>ta d H λx e=>∃c,x=.bl c/\Q (.bl<|!c) e
theorem TL(h:PE X a t):PE X (.BoolOp op [a] pos) t:=λgb s c H Q I hw=>BoolOp_one<|h gb s c H Q I hw
theorem UL(k:PE X a ta)(l:PE X (.BoolOp .And (b::rest) pos) tb):PE X (.BoolOp .And (a::b::rest) pos) (bw ta tb):=by
 intro gb s e H Q I h;refine BoolOp_and<|xZ (k gb s e H _ I h) λv m ⟨x,i,j,q,d⟩=>?_;obtain⟨c,rfl,d⟩:=d;cases q;refine Xc ?_;cases c with
 |true=>exact l gb m e i Q j d
 |false=>exact⟨.bl Um,i,j,Z,d⟩
theorem VL(e:PE X a ta):PE X (.UnaryOp .Not a pos) (cw ta):=by intro gb s i H Q I h;refine UnaryOp_<|xZ (e gb s i H _ I h) λv m ⟨x,j,k,l,d⟩=>?_;obtain⟨c,rfl,d⟩:=d;cases l;exact not_of<|Xc ⟨.bl<|!c,j,k,Z,d⟩
end
def SqL(K:B0)(H:Hp)(a:Eb)(b:List V):Prop :=
 Rd H a (.lst b) \/
  ∃(o:Obj) (its:Zi Bb) (n:Nat),K.lookup a=O o/\o.cls=.type "list"/\o.dict=U/\o.data=.seq its n/\its.size<=sizeLine/\Vals b its.toList
def SqT(K:B0)(H:Hp)(a:Eb)(b:List V):Prop :=
 Rd H a (.tup b) \/
  ∃(o:Obj) (its:Zi Bb) (n:Nat),K.lookup a=O o/\o.cls=.type "tuple"/\o.data=.seq its n/\its.size<=sizeLine/\Vals b its.toList
noncomputable def iA:Bb->Yi V
 | .none=>O .non
 | .bool b=>O<|.bl b
 | .int i _=>O<|.int i
 | .str x _=>O<|.str x
 | .bytes b _=>O<|.byt b
 | .float b _=>O<|.flt b
 | .ref a=>O<|.ref a
 | .type n=>O<|.ty n
 |_=>U
theorem RelV.abs(r:RelV x u):iA u=O x:=by
 cases x with
 |non=>cases r;rfl
 |bl _=>cases r;rfl
 |int _=>obtain⟨t,rfl⟩:=r;rfl
 |str _=>obtain⟨t,rfl⟩:=r;rfl
 |byt _=>obtain⟨t,rfl⟩:=r;rfl
 |flt _=>obtain⟨t,rfl⟩:=r;rfl
 |ref _=>cases r;rfl
 |ty _=>cases r;rfl
theorem RelV.inj(r:RelV x u)(q:RelV y u):x=y:=Z1<|r.abs.symm.trans q.abs
theorem Vals.inj:∀{a b:List V}{us:Up},Vals a us->Vals b us->a=b
 |_,_,_,.nil,.nil=>rfl
 |_,_,_,.cons r t,.cons c t'=>by rw[r.inj c,Vals.inj t t']
section
variable {X:Cx}{σ:St}{H:Hp}{a:Eb}{xs ys:List V}
theorem SqL.of{K:B0}(h:H a=O (.lst xs)):SqL K H a xs:=.inl<|.inl h
theorem SqT.of{K:B0}(h:H a=O (.tup xs)):SqT K H a xs:=.inl<|.inl h
theorem Inv.list(I:Inv X gb σ H s)(h:SqL X.K H a xs):∃its:Up,Vals xs its/\PlainL s.heap a its.toArray/\xs.length<=sizeLine:=by
 rcases h with h|⟨o,its,n,b,c,hd,d,i,r⟩
 .obtain⟨z,its,n,r,e⟩:=h.ok I.hok;exact⟨its,r,⟨_,n,e,Z,Z,Z⟩,z⟩
 .refine⟨its.toList,r,⟨o,n,I.kIn a o b,c,hd,by simpa using d⟩,?_⟩;have e:=r.length;simp only[Z0]at e;omega
theorem Inv.tuple(I:Inv X gb σ H s)(h:SqT X.K H a xs):∃its:Up,Vals xs its/\Ai s.heap a its.toArray/\xs.length<=sizeLine:=by
 rcases h with h|⟨o,its,n,b,c,d,i,r⟩
 .obtain⟨z,its,r,p⟩:=h.ok I.hok;exact⟨its,r,p.t,z⟩
 .refine⟨its.toList,r,⟨o,I.kIn a o b,c,n,by simpa using d⟩,?_⟩;have e:=r.length;simp only[Z0]at e;omega
theorem Inv.list_inj(I:Inv X gb σ H s)(h:SqL X.K H a xs)(h':SqL X.K H a ys):xs=ys:=by
 obtain⟨its,r,⟨o,n,e,_,_,d⟩,_⟩:=I.list h;obtain⟨b,j,⟨k,l,c,_,_,i⟩,_⟩:=I.list h';rw[e]at c;cases c;rw[d]at i;injection i with d1 _;have:its=b:=by simpa using Rb fX d1
 subst this;exact r.inj j
theorem Inv.tuple_inj(I:Inv X gb σ H s)(h:SqT X.K H a xs)(h':SqT X.K H a ys):xs=ys:=by
 obtain⟨its,r,⟨o,e,_,n,d⟩,_⟩:=I.tuple h;obtain⟨b,j,⟨k,c,_,l,i⟩,_⟩:=I.tuple h';rw[e]at c;cases c;rw[d]at i;injection i with d1 _;have:its=b:=by simpa using Rb fX d1
 subst this;exact r.inj j
end
noncomputable abbrev Cx.wish(X:Cx)(E:Bb->Gb->Prop):Cx:={X with xe:=E}
noncomputable abbrev Cx.nox(X:Cx):Cx:=X.wish λ_ _=>Al
theorem Cx.Ok.wish{X:Cx}(ok:X.Ok)(E:Bb->Gb->Prop):(X.wish E).Ok:=⟨ok.mod,ok.kind,ok.glob,ok.blt,ok.above,ok.inj,ok.has,ok.cab,ok.hd,ok.frames,ok.stk,ok.exf,ok.bs,ok.bsz,ok.noex,ok.exfs,ok.funs,ok.frf⟩
theorem Cx.Ok.unwish{X:Cx}(ok:(X.wish E).Ok):X.Ok:=⟨ok.mod,ok.kind,ok.glob,ok.blt,ok.above,ok.inj,ok.has,ok.cab,ok.hd,ok.frames,ok.stk,ok.exf,ok.bs,ok.bsz,ok.noex,ok.exfs,ok.funs,ok.frf⟩
section
variable {X:Cx}{σ:St}{H:Hp}
theorem Inv.wish(I:Inv X gb σ H s)(E:Bb->Gb->Prop):Inv (X.wish E) gb σ H s:=⟨I.ok.wish E,I.os,I.bare,I.base,I.loc,I.cell,I.free,I.freeC,I.pin,I.hok,I.len⟩
theorem Inv.unwish(I:Inv (X.wish E) gb σ H s):Inv X gb σ H s:=⟨I.ok.unwish,I.os,I.bare,I.base,I.loc,I.cell,I.free,I.freeC,I.pin,I.hok,I.len⟩
theorem SP.unwish{f:Flow}(h:SP (X.wish E) gb D f s'):SP X gb D f s':=by
 cases f with
 |next=>obtain⟨a,b,I,q⟩:=h;exact⟨a,b,I.unwish,q⟩
 |brk=>obtain⟨a,b,I,q⟩:=h;exact⟨a,b,I.unwish,q⟩
 |cont=>obtain⟨a,b,I,q⟩:=h;exact⟨a,b,I.unwish,q⟩
 |ret u=>obtain⟨v,a,b,I,r,q⟩:=h;exact⟨v,a,b,I.unwish,r,q⟩
theorem PSs.nox{st:List Be}(h:PSs X.nox st t):PSs X st t:=λgb s σ H D I hw=>wpAny_mono (h gb s σ H D (I.wish _) hw) (λ_ _ q=>q.unwish) λ_ _ z=>False.elim z
end
section
variable {X:Cx}{st:Be}{rest:List Be}{t u:TS}{e:Vb}{te:TE}{pos:Pos}
def dw:TS:=λD a H=>D.nx a H
def WL(t u:TS):TS:=λD a H=>t {D with nx:=u D} a H
theorem LB:PSs X [] dw:=λ_ _ a H _ I h=>Xe ⟨a,H,I,h⟩
theorem fw(a:PS X st t)(b:PSs X rest u):PSs X (st::rest) (WL t u):=by
 intro gb s c H D I h;refine wpAny_execs_cons<|xZ (a gb s c H {D with nx:=u D} I h) λf d q=>?_;cases f with
 |next=>obtain⟨σ',H',I',q⟩:=q;exact b gb d σ' H' D I' q
 |ret v=>exact q
 |brk=>exact q
 |cont=>exact q
theorem MB(a:PS X st t):PSs X [st] t:=by
 intro gb s b H D I h;refine wpAny_execs_cons<|xZ (a gb s b H D I h) λf c q=>?_;cases f with
 |next=>exact Xe q
 |ret v=>exact q
 |brk=>exact q
 |cont=>exact q
theorem Inv.quiet{a:St}(I:Inv X gb a H s):interactive X.env=false:=by simp[interactive,I.ok.kind]
def gw(te:TE):TS:=λD a H=>te a H λ_ b=>D.nx a b
theorem NB(b:PE X e te)(c:Ff e U pos.line X.env=pure false:=by rfl):PS X (.Expr e pos) (gw te):=by intro gb s a H D I h;exact wpAny_Expr_any (xZ (b gb s a H _ I h) λv k ⟨x,d,i,l,j⟩=>⟨a,d,i,j⟩) I.quiet c
def iw(te:TE):TS:=λD a H=>te a H D.rt
theorem jw(b:PE X e te):PS X (.Return (O e) pos) (iw te):=by intro gb s a H D I h;exact wpAny_Return_some<|xZ (b gb s a H _ I h) λv k ⟨x,c,d,i,j⟩=>⟨x,a,c,d,i,j⟩
def YL(c:TT)(t u:TS):TS:=λD a H=>c a H λb d=>if b=Ul then t D a d else u D a d
theorem iP(q:PT X c tc)(r:PSs X a t)(v:PSs X b u):PS X (.If c a b pos) (YL tc t u):=by
 intro gb s i H D I h;refine wpAny_If<|xZ (q gb s i H _ I h) λd j ⟨k,l,m⟩=>?_;cases d with
 |true=>exact r gb j i k D l m
 |false=>exact v gb j i k D l m
end
noncomputable abbrev TG:=V->St->Hp->(St->Hp->Prop)->Prop
noncomputable abbrev AB:=List V->St->Hp->(St->Hp->Prop)->Prop
def PG(X:Cx)(d:Vb)(t:TG):Prop :=
 ∀(gb:Ut) (s:Gb) (b:St) (H:Hp) (v:V) (u:Bb) (Q:St->Hp->Prop),Inv X gb b H s->RelV v u->t v b H Q ->
  Hb (Kb X.prog X.w) X.A (Wf d X.env u) (λ_ s'=>∃a c,Inv X gb a c s'/\Q a c) X.xe s
def yI(X:Cx)(ts:Bl)(t:AB):Prop :=
 ∀(gb:Ut) (s:Gb) (b:St) (H:Hp) (c:List V) (us:Up) (Q:St->Hp->Prop),Inv X gb b H s->Vals c us->t c b H Q ->
  Hb (Kb X.prog X.w) X.A (assignInOrder ((Kc ts X.env).map (·.2)) us) (λ_ s'=>∃a d,Inv X gb a d s'/\Q a d) X.xe s
noncomputable abbrev kw:=V->V->V->Hp->(Hp->Prop)->Prop
def ZL(X:Cx)(t:kw):Prop :=
 ∀(gb:Ut) (s:Gb) (a:St) (H:Hp) (o i v:V) (b c u:Bb) (Q:Hp->Prop),Inv X gb a H s->RelV o b->RelV i c->RelV v u->t o i v H Q ->
  Hb (Kb X.prog X.w) X.A (Bi b c u) (λ_ s'=>∃d,Inv X gb a d s'/\Q d) X.xe s
noncomputable abbrev kT:=V->V->Hp->VK->Prop
def l_(X:Cx)(b:Operator)(t:kT):Prop :=
 ∀(gb:Ut) (s:Gb) (a:St) (H:Hp) (x y:V) (v u:Bb) (Q:VK),Inv X gb a H s->RelV x v->RelV y u->t x y H Q ->
  Hb (Kb X.prog X.w) X.A (inplaceOp b v u) (EP X gb a Q) X.xe s
section
variable {X:Cx}{pos:Pos}
def YK(i:Nat):TG:=λv a H Q=>Q (a.set i<|O v) H
theorem OB{i:Nat}{x:Str}(hN:X.N.Nodup)(hi:X.N[i]?=O x)(hx:IB X.env.scope x)(a:X.fn x=Ul\/X.env.scope.names.lookup x=O .local:=by first|exact .inl rfl|exact .inr rfl|assumption):PG X (.Name x pos) (YK i):=by intro gb s c H v u Q I r h;exact wpAny_assign_Name<|BF I hN hi hx r (λs' b=>⟨_,H,b,h⟩) a
noncomputable def jP:AB:=λa b H Q=>a=[]/\Q b H
noncomputable def AI(t:TG)(u:AB):AB:=λb c H Q=>∃v r,b=v::r/\t v c H λa d=>u r a d Q
theorem PB:yI X [] jP:=by intro gb s a H b us Q I r h;obtain⟨e,h⟩:=h;subst e;cases r;exact assignInOrder_nil ⟨a,H,I,h⟩
theorem lw{e:Vb}{a:Bl}{t:TG}{u:AB}(c:PG X e t)(d:yI X a u)
  (i:(Kc (e::a) X.env).map (·.2)=Wf e X.env::(Kc a X.env).map (·.2):=by rfl):yI X (e::a) (AI t u):=by
 intro gb s j H y us Q I r h;obtain⟨v,B,k,h⟩:=h;subst k;cases r with
 |cons r l=>rw[i];refine assignInOrder_cons<|xZ (c gb s j H _ _ _ I r h) λ_ m ⟨b,q,w,x⟩=>?_;exact d gb m b q _ _ Q w l x
def QB(K:B0)(n:Nat)(t:AB):TG:=λv c H Q=>∃a b,v=.ref a/\SqT K H a b/\b.length=n/\t b c H Q
theorem aM{c:Bl}{k:Nat}{t:AB}(j:X.calm=Ul)(h:yI X c t)
  (l:(Kc c X.env).length=n:=by rfl) (m:(Kc c X.env).findIdx? (·.1)=none:=by rfl):PG X (.Tuple c k pos) (QB X.K n t):=by
 intro gb s d H v u Q I r hw;obtain⟨a,q,w,x,hl,hw⟩:=hw;subst w;cases r;obtain⟨its,i,y,C⟩:=I.tuple x;refine assign_Tuple_tuple (I.ok.hd j) y (by simp[l,<-hl,i.length]) m λh' hx=>?_;have B:Inv X gb d H {s with heap:=h'}:=I.kept (t':=s.toks) λb o e=>hx b o (U0<|G0 e) e;exact h gb _ d H q _ Q B (by simpa using i) hw
def bM(to b:TE)(t:kw):TG:=λv a H Q=>to a H λo c=>b a c λi d=>t o i v d λe=>Q a e
theorem cM{o i:Vb}{to d:TE}{t:kw}(e:PE X o to)(hi:PE X i d)(j:ZL X t)
  (k:∀v,Wf (.Subscript o i pos) X.env v=(do
    let a<-Ud [v] (Wc o X.env)
    let b<-Ud [v,a] (Wc i X.env)
    standAt pos
    Ud [v,a,b] (Bi a b v)
    release [v,a,b] []):=by intro _;rfl):PG X (.Subscript o i pos) (bM to d t):=by
 intro gb s c H v u Q I r h;rw[k];refine Ab<|Xb<|xZ (e gb s c H _ I h) λa l ⟨x,m,q,w,B⟩=>?_;refine Ab<|Xb<|xZ (hi gb l c m _ q B) λb C ⟨y,F,G,L,M⟩=>?_;refine Ab<|Ph<|Ab<|Xb<|xZ (j gb C c F x y v a b u _ G w L r M) λ_ s3 ⟨P,R,Y⟩=>?_;exact wpAny_release ⟨c,P,R,Y⟩
def RW(b:TE)(g:TG):TS:=λD a H=>b a H λx c=>g x a c D.nx
theorem mw{e:Vb}{a:TE}{g:TG}(c:PE X e a)(d:PG X tg g)(i:Qh [tg] e pos.line X.env=pure false:=by rfl)(hw:Rh [tg] e X.env=pure none:=by rfl)
  (j:(Kc [tg] X.env).map (·.2)=[Wf tg X.env]:=by rfl):PS X (.Assign [tg] e pos) (RW a g):=by
 intro gb s b H D I h;refine wpAny_Assign_stores (xZ (c gb s b H _ I h) λv k ⟨x,l,m,r,t⟩=>?_) i hw;rw[j];exact xZ (d gb k b l x v _ m r t) λ_ w q=>q
theorem qw{i:Nat}{x:Str}{e:Vb}{a:TE}(hN:X.N.Nodup)(hi:X.N[i]?=O x)(hx:IB X.env.scope x)(b:PE X e a)(c:Ff e (O<|.Name x md) pos.line X.env=pure false:=by rfl)(d:X.fn x=Ul\/X.env.scope.names.lookup x=O .local:=by first|exact .inl rfl|exact .inr rfl|assumption) :
  PS X (.Assign [.Name x md] e pos) (RW a<|YK i):=by
 intro gb s j H D I h;refine wpAny_Assign_Name (xZ (b gb s j H _ I h) λv t ⟨y,k,l,m,q⟩=>?_) c;exact BF l hN hi hx m (λw r=>⟨_,k,r,q⟩) d
def BI(to c d:TE)(e:V->V->Hp->VK->Prop)(b:kT)(j:kw):TS:=λD a H=>to a H λo k=>c a k λi l=>e o i l λx m=>d a m λy q=>b x y q λz r=>j o i z r λt=>D.nx a t
def kP(X:Cx)(t:V->V->Hp->VK->Prop):Prop :=
 ∀(gb:Ut) (s:Gb) (a:St) (H:Hp) (o i:V) (b c:Bb) (Q:VK),Inv X gb a H s->RelV o b->RelV i c->t o i H Q ->
  Hb (Kb X.prog X.w) X.A (Cf b c) (EP X gb a Q) X.xe s
theorem RB{o i e:Vb}{to j k:TE}{l:V->V->Hp->VK->Prop}{d:kT}{m:kw}{q:Operator}{y:Pos}(B:PE X o to)(hi:PE X i j)(C:kP X l)(F:PE X e k)(G:l_ X q d)(L:ZL X m)
  (M:∀a b new,augStore i a b new=(do Ud [new,a,b] (Bi a b new);release [new,a,b] [];pure .next):=by intros;rfl):PS X (.AugAssign (.Subscript o i y) q e pos) (BI to j k l d m):=by
 intro gb s c H D I h;refine wpAny_AugAssign_SubscriptAny (xZ (B gb s c H _ I h) λa P ⟨r,R,Y,t,q1⟩=>?_) M;refine xZ (hi gb P c R _ Y q1) λb s2 ⟨w,H2,I2,x,q2⟩=>?_;refine xZ (C gb s2 c H2 r w a b _ I2 t x q2) λwg s3 ⟨x3,H3,I3,r3,q3⟩=>?_;refine xZ (F gb s3 c H3 _ I3 q3) λv s4 ⟨x4,H4,I4,r4,q4⟩=>?_;refine xZ (G gb s4 c H4 x3 x4 wg v _ I4 r3 r4 q4) λnew s5 ⟨x5,H5,I5,r5,q5⟩=>?_;exact xZ (L gb s5 c H5 r w x5 a b new _ I5 t x r5 q5) λ_ s6 ⟨H6,I6,q6⟩=>⟨c,H6,I6,q6⟩
noncomputable def jA(f:Int->Int->Int):kT:=λx y H Q=>∃i j,x=.int i/\y=.int j/\Q (.int<|f i j) H
theorem dM:l_ X .Add (jA λi j=>i+j):=by intro gb s e H x y v u Q I a b h;obtain⟨i,j,c,d,q⟩:=h;subst c;subst d;obtain⟨t,rfl⟩:=a;obtain⟨t',rfl⟩:=b;exact iadd_int ⟨.int _,H,I.tok _,⟨_,Z⟩,q⟩
end
section
variable {X:Cx}{pos:Pos}
def SD(c:TT)(k:TS):TS:=λD a H=>∃W:Nat->St->Hp->Prop,(∃m,W m a H)/\∀m a H,W m a H ->
 c a H λb e=>if b=Ul then ∃N:St->Hp->Prop,(∀d i,N d i->∃j,j<m/\W j d i)/\k {D with nx:=N,ct:=N,bk:=D.nx} a e else D.nx a e
theorem tw(x:Hi (Kb X.prog X.w) X.A X.env X.xe)(G:PT X c tc)(L:PSs X body tb):PS X (.While c body [] pos) (SD tc tb):=by
 intro gb s M H D I h;obtain⟨W,⟨P,R⟩,turn⟩:=h;refine wpAny_While<|codeAny_whileLoop (λn s'=>∃e y,Inv X gb e y s'/\W n e y) ?_ P ⟨M,H,I,R⟩;rintro n Y ⟨d,B,I1,w1⟩;refine Gd x<|xZ (G gb Y d B _ I1<|turn n d B w1) λb s2 ⟨C,F,j⟩=>?_;cases b with
 |true =>
  obtain⟨N,hN,j⟩:=j;rw[Ib Z];refine Gd x<|xZ (L gb s2 d C _ F j) λf s3 k=>?_;cases f with
  |next=>obtain⟨a,i,l,m⟩:=k;obtain⟨q,r,t⟩:=hN a i m;exact⟨q,r,a,i,l,t⟩
  |cont=>obtain⟨a,i,l,m⟩:=k;obtain⟨q,r,t⟩:=hN a i m;exact⟨q,r,a,i,l,t⟩
  |brk=>exact k
  |ret v=>exact k
 |false=>rw[if_neg X0];exact Xe ⟨d,C,F,j⟩
end
structure It where
 go:Nat->Hp->Prop
 yld:Nat->Hp->V->Hp->Prop
 stop:Nat->Hp->Prop
def DV(X:Cx)(gb:Ut)(H:Hp)(b:Eb):Prop:=H b=U/\b≠X.env.locals/\b∉X.fs/\(b∈X.ex\/X.s₀.heap.objs.size<=b)/\(∀x c,X.env.cells.lookup x=O c->c≠b)/\∀p∈X.pn++gb,p.1≠b
theorem Inv.fpOk{d:St}{b:Eb}(I:Inv X gb d H s)(a:s.heap.objs.size<=b)(i:H' b=U):DV X gb H' b:=by
 refine⟨i,X2<|v0 I.lt a,I.nofs a,.inr<|q0 I.sz a,λx c e z=>?_,λp j z=>?_⟩
 .obtain⟨v,q⟩:=I.cell x c e;exact absurd (v0 q.lt<|by rw[z];exact a)<|j4 _
 .exact absurd (v0 (G0 (I.pin p j).1)<|by rw[z];exact a) (j4 _)
structure Turn(P:Cc)(w:Wb)(K:B0)(tg:Vb)(J:It)(fp:List Eb)(it:Eb)(tn:Nat->Dc->Prop):Prop where
 mem:it∈fp
 obj:∀i h,tn i h->∀b∈fp,∃o,h.get? b=O o/\∀v,o.data≠.cell v
 keep:∀i h h',tn i h->(∀b∈fp,∀o,h.get? b=O o->h'.get? b=O o)->tn i h'
 item:∀(X:Cx),X.prog=P->X.w=w->X.K=K->X.calm=Ul->∀(i:Nat) (gb:Ut) (s:Gb) (σ:St) (H:Hp) (E:Bb->Gb->Prop),Inv X gb σ H s->(∀b∈fp,DV X gb H b)->tn i s.heap->J.go i H ->
  Hb (Kb P w) X.A (Md<|.ref it) (λr s1=>∃u,r=O u /\
    Hb (Kb P w) X.A (Ye tg (.ref it) u) (λ_ s2=>∃x H',Inv X gb σ H' s2/\RelV x u/\J.yld i H x H'/\tn (i+1) s2.heap/\∀b∈fp,H' b=U) E s1) E s
 done:∀(X:Cx),X.prog=P->X.w=w->X.K=K->X.calm=Ul->∀(i:Nat) (gb:Ut) (s:Gb) (σ:St) (H:Hp) (E:Bb->Gb->Prop),Inv X gb σ H s->(∀b∈fp,DV X gb H b)->tn i s.heap->J.stop i H ->
  Hb (Kb P w) X.A (Md<|.ref it) (λr s1=>r=U/\Inv X gb σ H s1) E s
 self:∀(A:Ae) (i:Nat) (s:Gb) (Q:Bb->Gb->Prop) (E:Bb->Gb->Prop),tn i s.heap->Q (.ref it) s->Hb (Kb P w) A (pyIter<|.ref it) Q E s
noncomputable abbrev TI:=St->Hp->(It->Hp->Prop)->Prop
def m_(X:Cx)(gb:Ut)(i:St)(tg:Vb)(R:It->Hp->Prop)(a:Bb)(d:Gb):Prop:=∃(it:Eb) (fp:List Eb) (e:Nat->Dc->Prop) (J:It) (c:Hp),a=.ref it/\Inv X gb i c d/\Turn X.prog X.w X.K tg J fp it e/\e 0 d.heap/\(∀b∈fp,DV X gb c b)/\R J c
def PI(X:Cx)(tg cc:Vb)(b:TI):Prop :=
 ∀(gb:Ut) (s:Gb) (a:St) (H:Hp) (R:It->Hp->Prop),Inv X gb a H s->b a H R ->
  Hb (Kb X.prog X.w) X.A (Wc cc X.env) (λv c=>Hb (Kb X.prog X.w) X.A (pyIter v) (m_ X gb a tg R) X.xe c) X.xe s
theorem uw{n:String}{Q:Unit->Gb->Prop}(b:s.heap.get? it=O o)(c:o.cls=.type n)(hd:o.data=.fields vs)(d:["enumerate","zip","dict_itemiterator","dict_reverseitemiterator","odict_iterator","itertools.zip_longest","itertools.pairwise"].contains n=Um) (a:Q () s):Hb M A (Ye tg (.ref it) u) Q E s:=by
 unfold Ye;cases tg<;>first
  |exact Db a
  | (cases u<;>first
      |exact Db a
      | (refine Ab<|wpAny_load b ?_
         rw[c,hd];show Hb M A (if (["enumerate","zip","dict_itemiterator","dict_reverseitemiterator","odict_iterator","itertools.zip_longest","itertools.pairwise"].contains n&&vs[0]?==O (Le _))=Ul then _ else _) Q E s;rw[if_neg<|by intro h;rw[d,FQ]at h;cases h];exact Db a))
noncomputable def lA(K:B0)(a:Eb):It:=⟨λi H=>∃b x,SqL K H a b/\b[i]?=O x,λi H x c=>c=H/\∀b,SqL K H a b->b[i]?=O x,λi H=>∃b,SqL K H a b/\b.length<=i⟩
noncomputable def nA(K:B0)(a:Eb):It:=⟨λi H=>∃b x,SqT K H a b/\b[i]?=O x,λi H x c=>c=H/\∀b,SqT K H a b->b[i]?=O x,λi H=>∃b,SqT K H a b/\b.length<=i⟩
noncomputable def lT(lo:Int)(n:Nat):It:=⟨λi _=>i<n,λi H x a=>a=H/\x=.int (lo+i),λi _=>n<=i⟩
theorem qx{K:B0}(a it:Eb):Turn P w K tg (lA K a) [it] it (λi h=>h.IsListIter it a i) where
 mem:=by simp
 obj:=λi h st b j=>by
  have e:b=it:=by simpa using j
  subst e;obtain⟨o,e,c,d⟩:=st;exact⟨o,e,λv z=>by rw[d]at z;cases z⟩
 keep:=λi h h' st k=>st.at λo e=>k it (by simp) o e
 item:=by intro X hP hw q G i gb s L H E I l st r;subst hP hw q;obtain⟨R,x,m,hx⟩:=r;obtain⟨its,t,p,Y⟩:=I.list m;obtain⟨u,hu,ru⟩:=t.get hx;obtain⟨f0,y,f2,B,C,F⟩:=l it (by simp);refine wpAny_pyNext_list_item st p.isList (x:=u) (by simpa using hu) λh' M sb=>?_;have I1:Inv X gb L H {s with heap:=h'}:=I.turned (t':=s.toks) (λb o j e=>(sb.2 b j).trans e) f0 y B C F;obtain⟨o,e,c,d⟩:=id M;exact⟨u,Z,uw (s:={s with heap:=h'}) e c d (by decide) ⟨x,H,I1,ru,⟨Z,λys hy=>by rw[I.list_inj hy m];exact hx⟩,M,λb j=>(l b j).1⟩⟩
 done:=by intro X hP hw q G i gb s L H E I l st r;subst hP hw q;obtain⟨R,m,hx⟩:=r;obtain⟨its,t,p,Y⟩:=I.list m;obtain⟨f0,y,f2,B,C,F⟩:=l it (by simp);have hl:=t.length;exact wpAny_pyNext_list_end (I.ok.hd G) st p.isList (by simp;omega) λh' eb=>⟨Z,I.turned (t':=s.toks) (λb o j e=>eb b o j e) f0 y B C F⟩
 self:=λ_ _ _ _ _ st h=>wpAny_pyIter_listiter st h
theorem UD{K:B0}(a it:Eb):Turn P w K tg (nA K a) [it] it (λi h=>h.IsTupleIter it a i) where
 mem:=by simp
 obj:=λi h st b j=>by
  have e:b=it:=by simpa using j
  subst e;obtain⟨o,e,c,d⟩:=st;exact⟨o,e,λv z=>by rw[d]at z;cases z⟩
 keep:=λi h h' st k=>st.at λo e=>k it (by simp) o e
 item:=by intro X hP hw q G i gb s L H E I l st r;subst hP hw q;obtain⟨R,x,m,hx⟩:=r;obtain⟨its,t,p,Y⟩:=I.tuple m;obtain⟨u,hu,ru⟩:=t.get hx;obtain⟨f0,y,f2,B,C,F⟩:=l it (by simp);refine wpAny_pyNext_tuple_item st (show s.heap.IsTuple a its.toArray from p) (x:=u) (by simpa using hu) λh' M sb=>?_;have I1:Inv X gb L H {s with heap:=h'}:=I.turned (t':=s.toks) (λb o j e=>(sb.2 b j).trans e) f0 y B C F;obtain⟨o,e,c,d⟩:=id M;exact⟨u,Z,uw (s:={s with heap:=h'}) e c d (by decide) ⟨x,H,I1,ru,⟨Z,λys hy=>by rw[I.tuple_inj hy m];exact hx⟩,M,λb j=>(l b j).1⟩⟩
 done:=by intro X hP hw q G i gb s L H E I l st r;subst hP hw q;obtain⟨R,m,hx⟩:=r;obtain⟨its,t,p,Y⟩:=I.tuple m;obtain⟨f0,y,f2,B,C,F⟩:=l it (by simp);have hl:=t.length;exact wpAny_pyNext_tuple_end (I.ok.hd G) st (show s.heap.IsTuple a its.toArray from p) (by simp;omega) λh' eb=>⟨Z,I.turned (t':=s.toks) (λb o j e=>eb b o j e) f0 y B C F⟩
 self:=λ_ _ _ _ _ st h=>wpAny_pyIter_tupleiter st h
theorem VD{K:B0}(it:Eb)(lo:Int)(n:Nat):Turn P w K tg (lT lo n) [it] it (λi h=>IsRangeIter h it (lo+(i:Nat)*1) ((n:Int)-(i:Nat)) 1) where
 mem:=by simp
 obj:=λi h st b a=>by
  have e:b=it:=by simpa using a
  subst e;exact⟨_,st,λv z=>by have F:Data.fields _=Data.cell v:=z;cases F⟩
 keep:=λi h h' st k=>k it (by simp) _ st
 item:=by intro X hP hw d j i gb s y H E I c st l;subst hP hw d;obtain⟨f0,m,G,q,r,x⟩:=c it (by simp);have W:=Walks.range (prog:=X.prog) (w:=X.w) (I.ok.hd j) it lo 1 n;refine W.item i s _ _ l st λv h' B L C kk=>?_;obtain⟨t,rfl⟩:=L;have M:Inv X gb y H {s with heap:=h',toks:=B}:=I.turned (λb o a e=>kk b o (by simpa using a) e) f0 m q r x;refine⟨_,Z,uw (s:={s with heap:=h',toks:=B}) (n:="range_iterator") C Z Z (by decide) ⟨.int<|lo+i,H,M,⟨t,?_⟩,⟨Z,Z⟩,C,λb a=>(c b a).1⟩⟩;rw[Int.mul_one]
 done:=by intro X hP hw d j i gb s y H E I c st l;subst hP hw d;obtain⟨f0,m,G,q,r,x⟩:=c it (by simp);exact wpAny_pyNext_range_end (I.ok.hd j) st (by have:n<=i:=l;omega) λh' R=>⟨Z,I.turned (t':=s.toks) (λb o a e=>R b o a e) f0 m q r x⟩
 self:=λ_ _ _ _ _ st h=>wpAny_pyIter_rangeiter st h
section
variable {X:Cx}
theorem vw{a:St}{lo hi:Int}{u:Tok}(I:Inv X gb a H s)(d:-(2 ^ 62)<=lo)(i:lo<2 ^ 62)(j:-(2 ^ 62)<=hi)(k:hi<2 ^ 62)(q:R (lT lo (hi-lo).toNat) H):Hb (Kb X.prog X.w) X.A (pyIter<|.ref s.heap.objs.size) (m_ X gb a tg R) E {s with heap:=s.heap.push {cls:=.type "range",data:=.fields #[.int lo t,.int hi u,.int 1 v]},toks:=tk}:=by
 refine wpAny_pyIter_range (IsRange.new ..) (small_one d i j k) ?_;have c:Inv X gb a H {s with heap:=s.heap.push {cls:=.type "range",data:=.fields #[.int lo t,.int hi u,.int 1 v]},toks:=tk}:=I.kept λb o e=>g0 _ e;refine⟨(s.heap.push {cls:=.type "range",data:=.fields #[.int lo t,.int hi u,.int 1 v]}).objs.size,[(s.heap.push {cls:=.type "range",data:=.fields #[.int lo t,.int hi u,.int 1 v]}).objs.size],_,_,H,Z,
   c.kept (t':=tk) λb o e=>g0 _ e,VD _ lo (hi-lo).toNat,?_,λb l=>?_,q⟩
 .have m:lo+((0:Nat):Int)*1=lo:=by simp
  have r:(((hi-lo).toNat:Nat):Int)-((0:Nat):Int)=kQ lo hi 1:=by rw[rangeSize_one];split<;>omega
  show IsRangeIter _ _ (lo+((0:Nat):Int)*1) ((((hi-lo).toNat:Nat):Int)-((0:Nat):Int)) 1;rw[m,r];exact L0 _ Z
 .have e:b=(s.heap.push {cls:=.type "range",data:=.fields #[.int lo t,.int hi u,.int 1 v]}).objs.size:=by simpa using l
  subst e;exact c.fpOk (A0 _)<|c.hok.fresh<|A0 _
def ww(a:TA):TI:=λb H R=>a b H λc d=>∃j:Int,c=[.int j]/\-(2 ^ 62)<=j/\j<2 ^ 62/\R (lT 0 j.toNat) d
theorem sx{a:Vb}{c:TA}{p pos:Pos}(d:Gl X "range")(i:X.mg "range"=U)(k:PA X [a] c)(l:Pb [a] X.env=[(Um,Wc a X.env)]:=by rfl):PI X tg (.Call (.Name "range" p) [a] [] pos) (ww c):=by
 intro gb s m H R I h;refine Call_<|TJ I d i boot_range<|W3 (xZ (k pos gb s m H _ I h) λus B ⟨C,F,v,w,b⟩=>?_) l Z;obtain⟨j,e,b,x,q⟩:=b;subst e;cases w with
 |cons r y=>cases y;obtain⟨t,rfl⟩:=r;exact call_range_1 (vw v (by omega) (by omega) b x<|by simpa using q)
def eM(j:TI)(g:TG)(k:TS):TS:=λD a H=>j a H λJ l=>∃W:Nat->Nat->St->Hp->Prop,(∃m,W 0 m a l)/\∀i m a H,W i m a H ->
 (J.stop i H/\D.nx a H)\/(J.go i H/\∃N:St->Hp->Prop,(∀b c,N b c->∃e,e<m/\W (i+1) e b c)/\∀x c,J.yld i H x c->g x a c λd q=>k {D with nx:=N,ct:=N,bk:=D.nx} d q)
noncomputable def SW(fp:List Eb)(h:Dc):Ut:=fp.filterMap λb=>(h.get? b).map λo=>(b,o)
theorem uK(a:b∈fp)(e:h.get? b=O o):(b,o)∈SW fp h:=ZQ.mpr ⟨b,a,by rw[e];rfl⟩
theorem DH{p:Eb×Obj}(a:p∈SW fp h):p.1∈fp/\h.get? p.1=O p.2:=by
 obtain⟨b,c,e⟩:=ZQ.mp a;cases q:h.get? b with
 |none=>rw[q]at e;cases e
 |some o=>rw[q]at e;have d:(b,o)=p:=Z1 e;subst d;exact⟨c,q⟩
theorem Inv.pinned{a:St}(I:Inv X gb a H s)(j:∀b∈fp,DV X gb H b)(k:∀b∈fp,∃o,s.heap.get? b=O o/\∀v,o.data≠.cell v):Inv X (gb++SW fp s.heap) a H s :=
 I.pins_of λp l=>(W0.mp l).elim (λz=>I.pin p<|S0 _ z) λz=>by obtain⟨c,e⟩:=DH z;obtain⟨f0,m,q,_⟩:=j p.1 c;obtain⟨o,i,d⟩:=k p.1 c;rw[e]at i;cases i;exact⟨e,f0,m,q,d⟩
theorem Inv.unpinned{a:St}(I:Inv X (gb++pl) a H s):Inv X gb a H s:=I.pins_of λp b=>I.pin p<|S0 _<|i3 _ b
theorem fM{body:List Be}{wi:TI}{g:TG}{tb:TS}{pos:Pos}(C:Hi (Kb X.prog X.w) X.A X.env X.xe)(hc:X.calm=Ul)(hi:PI X tg cc wi)(hg:PG X tg g)(c:PSs X body tb)
  (hs:∀x,Ld cc X.env x=pure x:=by intro _;rfl):PS X (.For tg cc body [] pos) (eM wi g tb):=by
 intro gb s σ H D I h;refine wpAny_For (xZ (hi gb s σ H _ I h) λv s1 h1=>xZ h1 λitv s2 h2=>?_) hs;obtain⟨it,fp,tn,J,H2,e,I2,T,fh,f2,W,⟨m0,w0⟩,turn⟩:=h2;subst e;have P:∀{t:Hp},(∀b∈fp,t b=U)->∀b∈fp,DV X gb t b:=λhn b c=>⟨hn b c,(f2 b c).2⟩;refine codeAny_forLoop_any (λn s'=>∃i j t,Inv X gb j t s'/\tn i s'.heap/\(∀b∈fp,t b=U)/\W i n j t) ?_ m0 ⟨0,σ,H2,I2,fh,λb c=>(f2 b c).1,w0⟩;rintro n s3 ⟨i,k,M,I3,zp,F,w3⟩;rcases turn i n k M w3 with⟨G,qn⟩|⟨go,N,hN,step⟩
 .refine Gd C (xZ (T.done X Z Z Z hc i gb s3 k M X.xe I3 (P F) zp G) λr s4 ⟨R,I4⟩=>?_);subst R;exact Xe ⟨k,M,I4,qn⟩
 .refine Gd C (xZ (T.item X Z Z Z hc i gb s3 k M X.xe I3 (P F) zp go) λr s4 ⟨u,R,h4⟩=>?_);subst R;refine Gd C<|xZ h4 λ_ s5 ⟨x,H5,I5,r5,y5,B,Y⟩=>?_;have I5':=I5.pinned (P Y)<|T.obj _ _ B;refine Gd C<|xZ (hg _ s5 k H5 x u _ I5' r5<|step x H5 y5) λ_ s6 ⟨σ6,H6,I6,q6⟩=>?_;refine Gd C<|xZ (c _ s6 σ6 H6 _ I6 q6) λf s7 y=>?_;have again:∀{a:St}{l:Hp},Inv X (gb++SW fp s5.heap) a l s7->N a l->∃m,m<n/\∃i j t,Inv X gb j t s7/\tn i s7.heap/\(∀b∈fp,t b=U)/\W i m j t:=λ{a l} q L=>by
   obtain⟨m',hm,w7⟩:=hN a l L;refine⟨m',hm,i+1,a,l,q.unpinned,T.keep _ _ _ B λb c o e=>(q.pin (b,o)<|S0 _<|S0 _<|uK c e).1,λb c=>?_,w7⟩;obtain⟨o,e,d⟩:=T.obj _ _ B b c;exact(q.pin (b,o)<|S0 _<|S0 _<|uK c e).2.1
  cases f with
  |next=>obtain⟨a,l,q,L⟩:=y;exact again q L
  |cont=>obtain⟨a,l,q,L⟩:=y;exact again q L
  |brk=>obtain⟨a,l,q,y⟩:=y;exact⟨a,l,q.unpinned,y⟩
  |ret v=>obtain⟨x7,a,l,q,r7,y⟩:=y;exact⟨x7,a,l,q.unpinned,r7,y⟩
end
noncomputable abbrev R2:=V->V->Hp->VK->Prop
def OpR(X:Cx)(f:Bb->Bb->Sem Bb)(r:R2):Prop :=
 ∀(gb:Ut) (s:Gb) (a:St) (H:Hp) (x y:V) (v u:Bb) (Q:VK),Inv X gb a H s->RelV x v->RelV y u->r x y H Q ->
  Hb (Kb X.prog X.w) X.A (f v u) (EP X gb a Q) X.xe s
def oA(X:Cx)(f:Bb->Sem Bb)(r:V->Hp->VK->Prop):Prop :=
 ∀(gb:Ut) (s:Gb) (a:St) (H:Hp) (x:V) (v:Bb) (Q:VK),Inv X gb a H s->RelV x v->r x H Q ->
  Hb (Kb X.prog X.w) X.A (f v) (EP X gb a Q) X.xe s
def nZ(X:Cx)(f:Bb)(r:List V->Hp->VK->Prop):Prop :=
 ∀(gb:Ut) (s:Gb) (a:St) (H:Hp) (b:List V) (us:Up) (Q:VK),Inv X gb a H s->Vals b us->r b H Q ->
  Hb (Kb X.prog X.w) X.A (call f us) (EP X gb a Q) X.xe s
def CI(r:R2)(b c:TE):TE:=λa H Q=>b a H λx d=>c a d λy e=>r x y e Q
def n_(r:V->Hp->VK->Prop)(a:TE):TE:=λb H Q=>a b H λx c=>r x c Q
def rI(C:Int->Int->Prop)(g:Int->Int->V):R2:=λx y H Q=>∃i j,x=.int i/\y=.int j/\C i j/\Q (g i j) H
def EV(g:Int->Int->V):R2:=λx y H Q=>∃i j,x=.int i/\y=.int j/\Q (g i j) H
def rU(g:Int->V):V->Hp->VK->Prop:=λx H Q=>∃i,x=.int i/\Q (g i) H
section
variable {X:Cx}{a b c:Vb}{ta tb tc:TE}{pos:Pos}
theorem gM(m:PE X a ta)(q:PE X b tb){gb:Ut}{s:Gb}{d:St}{H:Hp}{R:V->V->Hp->Prop}(I:Inv X gb d H s)(h:ta d H λx l=>tb d l λy e=>R x y e) {Q:Bb->Gb->Prop}{f:Bb->Bb->Sem Bb}(r:∀v u k x y e,Inv X gb d e k->RelV x v->RelV y u->R x y e->Hb (Kb X.prog X.w) X.A (f v u) Q X.xe k):Hb (Kb X.prog X.w) X.A (Wc a X.env) (λv i=>Hb (Kb X.prog X.w) X.A (Wc b X.env) (λu j=>Hb (Kb X.prog X.w) X.A (f v u) Q X.xe j) X.xe i) X.xe s:=by
 refine xZ (m gb s d H _ I h) λv t ⟨x,l,B,C,F⟩=>?_;refine xZ (q gb t d l _ B F) λu k ⟨y,e,G,L,M⟩=>?_;exact r v u k x y e G C L M
theorem lP(d:OpR X (Rc op) r)(e:PE X a ta)(i:PE X b tb):PE X (.BinOp a op b pos) (CI r ta tb):=by intro gb s j H Q I h;exact wpAny_BinOp<|gM e i I h λv u k x y l m t w q=>d gb k j l x y v u Q m t w q
theorem mP(e:oA X (unaryOp op) r)(i:PE X a ta):PE X (.UnaryOp op a pos) (n_ r ta):=by intro gb s d H Q I h;exact UnaryOp_<|xZ (i gb s d H _ I h) λv j ⟨x,k,l,m,q⟩=>e gb j d k x v Q l m q
theorem mT{f:Bb->Bb->Sem Bb}(rule:∀(i j:Int) (t u:Tok) (s:Gb) (Q:Bb->Gb->Prop) (E:Bb->Gb->Prop),C i j->Q (.int (g i j) s.toks) {s with toks:=s.toks+1}->Hb (Kb X.prog X.w) X.A (f (.int i t)<|.int j u) Q E s):OpR X f (rI C λi j=>.int<|g i j):=by
 intro gb s l H x y v u Q I d e h;obtain⟨i,j,rfl,rfl,k,q⟩:=h;obtain⟨t,rfl⟩:=d;obtain⟨t',rfl⟩:=e;exact rule i j t t' s _ _ k ⟨.int<|g i j,H,I.tok _,⟨_,Z⟩,q⟩
theorem nP{f:Bb->Bb->Sem Bb}(rule:∀(i j:Int) (t u:Tok) (s:Gb) (Q:Bb->Gb->Prop) (E:Bb->Gb->Prop),Q (.int (g i j) s.toks) {s with toks:=s.toks+1}->Hb (Kb X.prog X.w) X.A (f (.int i t)<|.int j u) Q E s):OpR X f (EV λi j=>.int<|g i j):=by
 intro gb s k H x y v u Q I d e h;obtain⟨i,j,rfl,rfl,q⟩:=h;obtain⟨t,rfl⟩:=d;obtain⟨t',rfl⟩:=e;exact rule i j t t' s _ _ ⟨.int<|g i j,H,I.tok _,⟨_,Z⟩,q⟩
theorem SB{f:Bb->Bb->Sem Bb}{g:Int->Int->Bool}(rule:∀(i j:Int) (t u:Tok) (s:Gb) (Q:Bb->Gb->Prop) (E:Bb->Gb->Prop),Q (.bool<|g i j) s->Hb (Kb X.prog X.w) X.A (f (.int i t)<|.int j u) Q E s):OpR X f (EV λi j=>.bl<|g i j):=by
 intro gb s k H x y v u Q I d e h;obtain⟨i,j,rfl,rfl,q⟩:=h;obtain⟨t,rfl⟩:=d;obtain⟨t',rfl⟩:=e;exact rule i j t t' s _ _ ⟨.bl<|g i j,H,I,Z,q⟩
def iM(i j:Int):Prop:=0<j/\j<1073741824
def jM(i j:Int):Prop:=0<=j/\j<=1000000/\i.natAbs<2 ^ 64
def CMul(i j:Int):Prop:=(-(2 ^ 64)<i/\i<2 ^ 64)\/(-(2 ^ 64)<j/\j<2 ^ 64)
theorem CMul.ok(h:CMul i j):IntMulOk i j:=by
 rcases h with⟨d,e⟩|⟨d,e⟩
 .exact .of_left (intBits_le_64 d e)
 .exact .of_right (intBits_le_64 d e)
theorem op_add:OpR X (Rc .Add) (EV λi j=>.int<|i+j):=nP λ_ _ _ _ _ _ _ q=>add_int q
theorem kM:OpR X (Rc .Sub) (EV λi j=>.int<|i-j):=nP λ_ _ _ _ _ _ _ q=>sub_int q
theorem op_mul:OpR X (Rc .Mult) (rI CMul λi j=>.int<|i*j):=mT λ_ _ _ _ _ _ _ d q=>mul_int q d.ok
theorem vK:OpR X (Rc .FloorDiv) (rI iM λi j=>.int<|i / j):=mT λi j _ _ _ _ _ d q=>by have e:(0:Int)<j:=d.1;have k:j<1073741824:=d.2;exact floordiv_int (by omega) (by rw[Int.fdiv_eq_ediv_of_nonneg i<|by omega];exact q) (.inl<|PyProof.noPylong_small<|by omega)
theorem YY:OpR X (Rc .Mod) (rI (λ_ j=>0<j) λi j=>.int<|i % j):=mT λi j _ _ _ _ _ d q=>by have e:(0:Int)<j:=d;exact mod_int' (by omega) (by rw[Int.fmod_eq_emod_of_nonneg i<|by omega];exact q)
theorem zw:OpR X (Rc .Pow) (rI jM λi j=>.int<|i ^ j.toNat):=mT λ_ _ _ _ _ _ _ d q=>pow_int_small d.1 d.2.1 d.2.2 q
theorem unI{f:Bb->Sem Bb}{g:Int->Int}(rule:∀(i:Int) (t:Tok) (s:Gb) (Q:Bb->Gb->Prop) (E:Bb->Gb->Prop),Q (.int (g i) s.toks) {s with toks:=s.toks+1}->Hb (Kb X.prog X.w) X.A (f<|.int i t) Q E s):oA X f (rU λi=>.int<|g i):=by
 intro gb s e H x v Q I d h;obtain⟨i,rfl,q⟩:=h;obtain⟨t,rfl⟩:=d;exact rule i t s _ _ ⟨.int<|g i,H,I.tok _,⟨_,Z⟩,q⟩
theorem lM:oA X (unaryOp .USub) (rU λi=>.int<|-i):=unI λ_ _ _ _ _ q=>neg_int q
end
noncomputable def oP:V->V->Bool
 | .non,.non=>Ul | .non,.int _=>Ul | .int _,.non=>Ul | .non,.bl _=>Ul | .bl _,.non=>Ul | .non,.str _=>Ul | .str _,.non=>Ul
 | .int _,.int _=>Ul | .bl _,.bl _=>Ul | .str _,.str _=>Ul | .byt _,.byt _=>Ul
 | .int _,.str _=>Ul | .str _,.int _=>Ul | .bl _,.str _=>Ul | .str _,.bl _=>Ul
 |_,_=>Um
def nT:R2:=λx y H Q=>oP x y=Ul/\Q (.bl<|decide<|x=y) H
def oT:R2:=λx y H Q=>oP x y=Ul/\Q (.bl<|!Uo (x=y)) H
theorem LV:Uo (V.int i=V.int j)=(i==j):=by rw[Z6];simp
theorem Aw:Uo (V.bl i=V.bl j)=(i==j):=by rw[Z6];simp
theorem MV:Uo (V.str i=V.str j)=(i==j):=by rw[Z6];simp
theorem Az:Uo (V.byt i=V.byt j)=(i.toList==j.toList):=by rw[Z6];cases i;cases j;simp
section
variable {X:Cx}{a b c:Vb}{ta tb tc:TE}{pos:Pos}
theorem WX{d:St}{Q:VK}(I:Inv X gb d H s)(q:Q (.bl k) H)(e:k=k'):EP X gb d Q (.bool k') s:=by subst e;exact⟨.bl k,H,I,Z,q⟩
theorem op_eq:OpR X (Bc .Eq) nT:=by
 intro gb s l H x y v u Q I k d h;obtain⟨e,q⟩:=h;cases x with
 |non =>
  cases k;cases y with
  |non=>cases d;exact PySem.EqNone.eq_none_none (WX I q<|by simp)
  |bl j=>cases d;exact PySem.EqNone.eq_none_bool (WX I q<|by simp)
  |int j=>obtain⟨t',rfl⟩:=d;exact PySem.EqNone.eq_none_int (WX I q<|by simp)
  |str j=>obtain⟨t',rfl⟩:=d;exact PySem.EqNone.eq_none_str (WX I q<|by simp)
  |_=>exact absurd (show Um=Ul from e) X0
 |bl i =>
  cases k;cases y with
  |non=>cases d;exact PySem.EqNone.eq_bool_none (WX I q<|by simp)
  |bl j=>cases d;exact eq_bool<|WX I q Aw
  |str j=>obtain⟨t',rfl⟩:=d;exact PySem.EqMixed.eq_bool_str (WX I q<|by simp)
  |_=>exact absurd (show Um=Ul from e) X0
 |int i =>
  obtain⟨t,rfl⟩:=k;cases y with
  |non=>cases d;exact PySem.EqNone.eq_int_none (WX I q<|by simp)
  |int j=>obtain⟨t',rfl⟩:=d;exact eq_int<|WX I q LV
  |str j=>obtain⟨t',rfl⟩:=d;exact PySem.EqMixed.eq_int_str (WX I q<|by simp)
  |_=>exact absurd (show Um=Ul from e) X0
 |str i =>
  obtain⟨t,rfl⟩:=k;cases y with
  |non=>cases d;exact PySem.EqNone.eq_str_none (WX I q<|by simp)
  |bl j=>cases d;exact PySem.EqMixed.eq_str_bool (WX I q<|by simp)
  |int j=>obtain⟨t',rfl⟩:=d;exact PySem.EqMixed.eq_str_int (WX I q<|by simp)
  |str j=>obtain⟨t',rfl⟩:=d;exact eq_str<|WX I q MV
  |_=>exact absurd (show Um=Ul from e) X0
 |byt i =>
  obtain⟨t,rfl⟩:=k;cases y with
  |byt j=>obtain⟨t',rfl⟩:=d;exact PySem.W.eq_bytes<|WX I q Az
  |_=>exact absurd (show Um=Ul from e) X0
 |_=>cases y<;>exact absurd (show Um=Ul from e) X0
theorem op_ne:OpR X (Bc .NotEq) oT:=by
 intro gb s l H x y v u Q I k d h;obtain⟨e,q⟩:=h;cases x with
 |non =>
  cases k;cases y with
  |non=>cases d;exact PySem.EqNone.ne_none_none (WX I q<|by simp)
  |bl j=>cases d;exact PySem.EqNone.ne_none_bool (WX I q<|by simp)
  |int j=>obtain⟨t',rfl⟩:=d;exact PySem.EqNone.ne_none_int (WX I q<|by simp)
  |str j=>obtain⟨t',rfl⟩:=d;exact PySem.EqNone.ne_none_str (WX I q<|by simp)
  |_=>exact absurd (show Um=Ul from e) X0
 |bl i =>
  cases k;cases y with
  |non=>cases d;exact PySem.EqNone.ne_bool_none (WX I q<|by simp)
  |bl j=>cases d;exact ne_bool<|WX I q<|Rb not Aw
  |str j=>obtain⟨t',rfl⟩:=d;exact PySem.EqMixed.ne_bool_str (WX I q<|by simp)
  |_=>exact absurd (show Um=Ul from e) X0
 |int i =>
  obtain⟨t,rfl⟩:=k;cases y with
  |non=>cases d;exact PySem.EqNone.ne_int_none (WX I q<|by simp)
  |int j=>obtain⟨t',rfl⟩:=d;exact ne_int<|WX I q<|Rb not LV
  |str j=>obtain⟨t',rfl⟩:=d;exact PySem.EqMixed.ne_int_str (WX I q<|by simp)
  |_=>exact absurd (show Um=Ul from e) X0
 |str i =>
  obtain⟨t,rfl⟩:=k;cases y with
  |non=>cases d;exact PySem.EqNone.ne_str_none (WX I q<|by simp)
  |bl j=>cases d;exact PySem.EqMixed.ne_str_bool (WX I q<|by simp)
  |int j=>obtain⟨t',rfl⟩:=d;exact PySem.EqMixed.ne_str_int (WX I q<|by simp)
  |str j=>obtain⟨t',rfl⟩:=d;exact ne_str<|WX I q<|Rb not MV
  |_=>exact absurd (show Um=Ul from e) X0
 |byt i =>
  obtain⟨t,rfl⟩:=k;cases y with
  |byt j=>obtain⟨t',rfl⟩:=d;exact PySem.W.ne_bytes<|WX I q<|Rb not Az
  |_=>exact absurd (show Um=Ul from e) X0
 |_=>cases y<;>exact absurd (show Um=Ul from e) X0
theorem sV:OpR X (Bc .Lt) (EV λi j=>.bl<|decide<|i<j):=SB λ_ _ _ _ _ _ _ q=>lt_int q
theorem DI:OpR X (Bc .LtE) (EV λi j=>.bl<|decide<|i<=j):=SB λ_ _ _ _ _ _ _ q=>le_int q
theorem CF:OpR X (Bc .Gt) (EV λi j=>.bl<|decide<|j<i):=SB λ_ _ _ _ _ _ _ q=>gt_int q
theorem pP:OpR X (Bc .GtE) (EV λi j=>.bl<|decide<|j<=i):=SB λ_ _ _ _ _ _ _ q=>ge_int q
theorem OpR.or{f:Bb->Bb->Sem Bb}(h:OpR X f r)(h':OpR X f r'):OpR X f (λx y H Q=>r x y H Q\/r' x y H Q):=by
 intro gb s d H x y v u Q I e i q;rcases q with q|q
 .exact h gb s d H x y v u Q I e i q
 .exact h' gb s d H x y v u Q I e i q
theorem Bw(b:Vb){d:CmpOp}(h:d≠.In:=by decide)(e:d≠.NotIn:=by decide):Ve d b=false:=by
 have i:(d==CmpOp.In)=false:=by cases d<;>first|rfl|exact absurd rfl h
 have j:(d==CmpOp.NotIn)=false:=by cases d<;>first|rfl|exact absurd rfl e
 cases b<;>simp[Ve,i,j]
theorem UB(d:OpR X (Bc op) r)(e:PE X a ta)(i:PE X b tb)(j:Ve op b=Um):PE X (.Compare a [op] [b] pos) (CI r ta tb):=by intro gb s k H Q I h;exact wpAny_Compare1 (gM e i I h λv u l x y m t w B q=>d gb l k m x y v u Q t w B q) j
def Cw(t:TE):TT:=λd H Q=>t d H λx e=>∃k,x=.bl k/\Q k e
theorem Bz(i:OpR X (Bc op) r)(j:PE X a ta)(l:PE X b tb)(m:Ve op b=Um):PT X (.Compare a [op] [b] pos) (Cw<|CI r ta tb):=by
 intro gb s d H Q I h;refine wpAny_isTrue_Compare1 (xZ (j gb s d H _ I h) λv q ⟨x,t,w,B,C⟩=>xZ (l gb q d t _ w C) λu F ⟨y,G,L,M,P⟩=>xZ (i gb F d G x y v u _ L B M P) λc s3 ⟨z,R,Y,r3,k,e,q3⟩=>?_) m;subst e;cases r3;exact Xc ⟨R,Y,q3⟩
def WD(r i:R2)(ta tb tc:TE):TE:=λd H Q=>ta d H λx j=>tb d j λy l=>r x y l λz e=>∃k,z=.bl k /\
 (if k=Ul then tc d e λm q=>i y m q Q else Q (.bl Um) e)
theorem Dw{j l:CmpOp}{r m:R2}(C:OpR X (Bc j) r)(F:OpR X (Bc l) m)(G:PE X a ta)(L:PE X b tb)(M:PE X c tc)
  (P:lastMarks [j,l] [b,c]=false:=by with_unfolding_all rfl):PE X (.Compare a [j,l] [b,c] pos) (WD r m ta tb tc):=by
 intro gb s i H Q I h;refine Compare_chain (xZ (G gb s i H _ I h) λv R ⟨x,Y,I1,r1,q1⟩=>chain_link<|xZ (L gb R i Y _ I1 q1) λu s2 ⟨y,H2,I2,q,q2⟩=>xZ (C gb s2 i H2 x y v u _ I2 r1 q q2) λd s3 ⟨z,t,w,r3,k,e,B⟩=>?_) P;subst e;cases r3;refine Xc ?_;cases k with
 |false=>exact ite_ff ⟨.bl Um,t,w,Z,B⟩
 |true=>exact ite_tt<|chain_last<|xZ (M gb s3 i t _ w B) λw' s4 ⟨z',H4,I4,r4,q4⟩=>F gb s4 i H4 y z' u w' Q I4 q r4 q4
theorem YV:(sizeLine:Nat)<2 ^ 63:=by rw[sizeLine_eq];decide
theorem iJ(r:Vals [x] us):∃u,us=[u]/\RelV x u:=by
 cases r with
 |cons d e=>cases e;exact⟨_,Z,d⟩
theorem NK(r:Vals [x,y] us):∃u d,us=[u,d]/\RelV x u/\RelV y d:=by
 cases r with
 |cons e i =>
  cases i with
  |cons j k=>cases k;exact⟨_,_,Z,e,j⟩
theorem ZV:nZ X (.builtin "abs") (λd H Q=>∃i,d=[.int i]/\Q (.int<|if i<0 then -i else i) H):=by intro gb s e H d us Q I r h;obtain⟨i,rfl,q⟩:=h;obtain⟨u,rfl,t,rfl⟩:=iJ r;exact call_abs_int λu j=>⟨.int<|if i<0 then -i else i,H,I.tok _,⟨_,Z⟩,q⟩
theorem ux(l:X.calm=Ul):nZ X (.builtin "max") (λe H Q=>∃i j,e=[.int i,.int j]/\Q (.int<|if j > i then j else i) H):=by
 intro gb s m H e us Q I r h;obtain⟨i,j,rfl,q⟩:=h;obtain⟨u,v,rfl,⟨t,rfl⟩,⟨t',rfl⟩⟩:=NK r;refine max_two_ints (I.ok.hd l) λh' w k=>⟨_,H,I.kept k,?_,q⟩;by_cases d:j > i
 .rw[Ib d,Ib d];exact⟨_,Z⟩
 .rw[if_neg d,if_neg d];exact⟨_,Z⟩
theorem vx(l:X.calm=Ul):nZ X (.builtin "min") (λe H Q=>∃i j,e=[.int i,.int j]/\Q (.int<|if j<i then j else i) H):=by
 intro gb s m H e us Q I r h;obtain⟨i,j,rfl,q⟩:=h;obtain⟨u,v,rfl,⟨t,rfl⟩,⟨t',rfl⟩⟩:=NK r;refine min_two_ints (I.ok.hd l) λh' w k=>⟨_,H,I.kept k,?_,q⟩;by_cases d:j<i
 .rw[Ib d,Ib d];exact⟨_,Z⟩
 .rw[if_neg d,if_neg d];exact⟨_,Z⟩
theorem lG:nZ X (.type "str") (λd H Q=>∃i,d=[.int i]/\i.natAbs.log2<1920/\Q (.str<|toString i) H):=by intro gb s j H d us Q I r h;obtain⟨i,rfl,e,q⟩:=h;obtain⟨u,rfl,t,rfl⟩:=iJ r;exact PySem.P.str_of_int e ⟨.str _,H,I.tok _,⟨_,Z⟩,q⟩
end
structure ObjM(h:Dc)(x dx C:Eb)(mA:Str->Yi Bb):Prop where
 obj:h.get? x=O (oX C dx)
 ns:h.Ns1 dx mA
 ne:dx≠x
section
variable {w:Wb}{K:B0}{x dx C:Eb}{mA:Str->Yi Bb}{v:Bb}
end
section
variable {P:Cc}{w:Wb}{H H':Hp}{a C dx:Eb}{fs fs':List (Str×V)}
end
structure Cls(K:B0)(C:Eb):Prop where
 pg:PySem.W.plainGet K C Str.empty=Ul
 hd:PySem.W.hasDictIn K C=Ul
 po:PySem.W.plainOver K C=Ul
 sa:u8 K (.ref C) "__setattr__"=O (O<|.builtin "object.__setattr__")
structure Con(K:B0)(C:Eb)(f:Str)(v:V)(u:Bb):Prop where
 at_:u8 K (.ref C) f=O (O u)
 rel:RelV v u
 get:jX K u "__get__"=O U
 cp:PySem.W.copiedNames.contains f=Um
structure Meth(K:B0)(C:Eb)(m:Str)(f:Eb):Prop where
 at_:u8 K (.ref C) m=O (O<|.ref f)
 fn:PySem.W.isFn K (.ref f)=Ul
 kp:Y5 K (.ref f)=Ul
section
variable {X:Cx}{σ:St}{H:Hp}{a C dx:Eb}{fs:List (Str×V)}{f:Str}{v:V}
end
section
variable {X:Cx}{o e value:Vb}{f:Str}{pos ve:Pos}{ta tv:TE}
end
section
variable {X:Cx}{σ:St}{H:Hp}{c:Bb}{b:Bool}
inductive TyOf (K:B0) (H:Hp):V->Bb->Prop where
 |non:TyOf K H .non (.type "NoneType")
 |bl (x:Bool):TyOf K H (.bl x) (.type "bool")
 |int (i:Int):TyOf K H (.int i) (.type "int")
 |str (x:Str):TyOf K H (.str x) (.type "str")
 |flt (x:UInt64):TyOf K H (.flt x) (.type "float")
 |lst {a:Eb}{xs:List V} (e:H a=O (.lst xs)):TyOf K H (.ref a) (.type "list")
 |frz {a:Eb}{o:Obj}{xs:List V} (e:H a=O (.frz o<|.lst xs)):TyOf K H (.ref a) (.type "list")
 |tup {a:Eb}{xs:List V} (e:H a=O (.tup xs)):TyOf K H (.ref a) (.type "tuple")
 |dK {a:Eb}{kvs:List (wZ×V)} (e:H a=O (.dK kvs)):TyOf K H (.ref a) (.type "dict")
 |dT {a:Eb}{kvs:List (List wZ×V)} (e:H a=O (.dT kvs)):TyOf K H (.ref a) (.type "dict")
 | ins {a C dx:Eb}{fs:List (Str×V)} (e:H a=O (.ins C dx fs)) (cl:Cls K C) (ha:u8 K (.ref C) "__class__"=O (O<|.builtin "object.__class__"))
   (hn:jX K (.builtin "object.__class__") "__get__"=O (O<|.builtin "getset_descriptor.__get__")) (xh:PySem.W.takesIn K (.builtin "object.__class__")=O Ul)
   (hm:PySem.W.mroIn K C (.type "object")=O Ul):TyOf K H (.ref a) (.ref C)
end
structure Room(k:Nat)(A:Ae):Prop where
 hd:A.handled=U
 dp:A.depth+3*k+5<recursionLimit
 un:A.units+16*k+200<Oc
 gd:A.guards=O []
theorem Room.mono(r:Room k A)(h:j<=k):Room j A:=⟨r.hd,by have:=r.dp;omega,by have:=r.un;omega,r.gd⟩
theorem Room.m{j k:Nat}(r:Room k A)(h:j<=k:=by first|decide|omega):Room j A:=r.mono h
theorem Room.deeper(r:Room (k+1) A)(env:Env):Room k (A.deeper env):=⟨r.hd,by have:=r.dp;show A.depth+1+3*k+5<_;omega,by have:=r.un;show A.units+3+16*k+200<_;omega,r.gd⟩
theorem Room.in1(r:Room (k+1) A):Room k A.in1:=⟨r.hd,by have:=r.dp;show A.depth+3*k+5<_;omega,by have:=r.un;show A.units+1+16*k+200<_;omega,r.gd⟩
theorem Room.depth(r:Room k A):A.depth<recursionLimit:=by have:=r.dp;omega
theorem Room.units(r:Room k A):A.units+64<Oc:=by have:=r.un;omega
def VB:TA:=λ_ H Q=>Q [] H
def Cz(b:TE)(c:TA):TA:=λa H Q=>b a H λx d=>c a d λe i=>Q (x::e) i
section
variable {X:Cx}{e:Vb}{es:Bl}{te:TE}{t:TA}{pos:Pos}
theorem aU:PA X [] VB:=λ_ _ _ _ H Q I h=>Calls.spliced_nil ⟨[],H,I,.nil,h⟩
theorem wK(b:PE X e te)(c:PA X es t)(d:Pb (e::es) X.env=(Um,Wc e X.env)::Pb es X.env:=by rfl):PA X (e::es) (Cz te t):=by intro pos gb s a H Q I h;rw[d];show Hb _ _ (spliced ((Um,Wc e X.env)::Sc pos (Pb es X.env))) _ _ s;refine Calls.spliced_cons<|xZ (b gb s a H _ I h) λu i ⟨x,j,k,l,m⟩=>?_;exact xZ (c pos gb i a j _ k m) λus B ⟨q,r,v,w,y⟩=>⟨x::q,r,v,.cons l w,y⟩
def mM(t:TA):TE:=λc H Q=>t c H λa b=>a.length<=sizeLine/\∀p,b p=U->Q (.ref p) (kZ b p<|.tup a)
def nM(t:TA):TE:=λc H Q=>t c H λa b=>a.length<=sizeLine/\∀p,b p=U->Q (.ref p) (kZ b p<|.lst a)
theorem oM{x1}(h:PA X es t):PE X (.Tuple es x1 pos) (mM t):=by intro gb s i H Q I j;refine wpAny_Tuple_spliced<|xZ (h pos gb s i H _ I j) λus a ⟨k,c,d,r,z,q⟩=>⟨by rw[<-r.length];exact z,?_⟩;have l:c a.heap.objs.size=none:=d.hok.fresh<|A0 _;refine⟨.ref a.heap.objs.size,kZ c a.heap.objs.size<|.tup k,d.laid (t':=a.toks) (λb u e=>g0 _ e) (A0 _) ?_,Z,q _ l⟩;exact⟨z,us,r,⟨_,L0 _ Z,Z,_,Z,Z⟩⟩
theorem pM(h:PA X es t):PE X (.List es pos) (nM t):=by intro gb s i H Q I j;refine wpAny_List_spliced<|xZ (h pos gb s i H _ I j) λus a ⟨k,c,d,r,z,q⟩=>⟨by rw[<-r.length];exact z,?_⟩;have l:c a.heap.objs.size=none:=d.hok.fresh<|A0 _;refine⟨.ref a.heap.objs.size,kZ c a.heap.objs.size<|.lst k,d.laid (t':=a.toks) (λb u e=>g0 _ e) (A0 _) ?_,Z,q _ l⟩;exact⟨z,us,0,r,L0 _ Z⟩
end
noncomputable abbrev Sp:=List V->Hp->VK->XK->Prop
noncomputable abbrev Ew:=List Env->Hp->Gb->XK->Bb->Gb->Prop
structure Env0(P:Cc)(w:Wb)(K:B0)(mg:Str->Yi Bb)(base:Dc)(A:Ae)(outer:List Env)(s:Gb)(H:Hp):Prop where
 frames:A.frames=O outer
 mod:Mod K mg base
 bs:∀b o,base.get? b=O o->s.heap.get? b=O o/\H b=U
 bsz:base.objs.size<=s.heap.objs.size
 funs:s.heap.FunFrames base outer
 frf:∀b∈xz outer,H b=U
 hok:HOk P w H s.heap
 bare:Rf s.gens
def CE(outer:List Env)(P:Cc)(w:Wb)(H:Hp)(s:Gb)(Q:VK)(u:Bb)(s':Gb):Prop:=∃v a,s'.os=s.os/\Rf s'.gens/\Un (xz outer) [] H a s.heap s'.heap/\HOk P w a s'.heap/\RelV v u/\Q v a
def CR(a:Ew)(outer:List Env)(P:Cc)(w:Wb)(H:Hp)(s:Gb)(Q:VK)(E:XK)(r:Ui)(s':Gb):Prop :=
 match r with
 | .ok (.ret u)=>CE outer P w H s Q u s'
 | .ok _=>Al
 | .error e=>a outer H s E e s'
structure FnOk(P:Cc)(w:Wb)(K:B0)(mg:Str->Yi Bb)(base:Dc)(CX:Ew)(k:Nat)(f:Eb)(fd:Hd)(ps:Us)(sp:Sp):Prop where
 len:∀vs H Q E,sp vs H Q E->vs.length=ps.length
 run:∀(A:Ae) (outer:List Env) (s:Gb) (H:Hp) (args:Args) (us:Up) (vs:List V) (Q:VK) (E:XK),Room k A->Env0 P w K mg base A outer s H->Jh s fd args (ps.zip us)->Vals vs us->sp vs H Q E ->
  Ef (Kb P w) A (.call (.ref f) args) (CR CX outer P w H s Q E) s
section
variable {X:Cx}{σ:St}{H:Hp}
theorem Inv.env0(I:Inv X gb σ H s):Env0 X.prog X.w X.K X.mg X.base X.A X.stack s H:=⟨I.ok.frames,I.ok.mod,I.bs,q0 I.ok.bsz I.sz,I.stack,I.stkFree,I.hok,I.bare⟩
theorem Inv.after{Q:VK}(I:Inv X gb σ H s)(h:CE X.stack X.prog X.w H s Q u s'):EP X gb σ Q u s':=by obtain⟨v,i,os,a,un,c,r,q⟩:=h;obtain⟨j,g,d,t,e⟩:=s';obtain rfl:e=s.os:=os;exact⟨v,i,I.call (h':=j) (g':=g) (d':=d) (t':=t) (ch:=[]) un c a (λb z=>absurd z<|by simp),r,q⟩
end
def EH(a:Sp)(b:List V)(E:XK)(t:TA):TE:=λc H Q=>t c H λd e=>a (d++b) e Q E
def Binds(K:B0)(fd:Hd)(a:Us)(b:Up):Prop:=∀(s:Gb) (us:Up),K.In s.heap->(us++b).length=a.length->Jh s fd ⟨us,[]⟩ (a.zip<|us++b)
theorem Binds.all{K:B0}(h:∀us:Up,us.length=ps.length->bindArgs fd ⟨us,[]⟩=pure (ps.zip us)):Binds K fd ps []:=λs us _ hl=>by rw[B3]at hl ⊢;exact .of_eq<|h us hl
def XD(a:Ew)(X:Cx)(E:XK):Prop:=∀(gb:Ut) (b:St) (H:Hp) (s:Gb) (e:Bb) (s':Gb),Inv X gb b H s->a X.stack H s E e s'->X.xe e s'
section
variable {X:Cx}{CX:Ew}{k:Nat}{C:Eb}{ps:Us}{sp:Sp}{bp:List V}{ds:Up}{E:XK}{x m:Str}{p pos ae:Pos}{e o:Vb}{es:Bl}{ta:TE}{t:TA}
theorem qM{b:St}{Q:VK}(F:FnOk X.prog X.w X.K X.mg X.base CX k f fd ps sp)(i:Room k X.A)(j:Binds X.K fd ps ds)(hd:Vals bp ds)(hx:XD CX X E)(I:Inv X gb b H s) (r:Vals c us) (h:sp (c++bp) H Q E):Hb (Kb X.prog X.w) X.A (call (.ref f) us) (EP X gb b Q) X.xe s:=by
 have d:Vals (c++bp) (us++ds):=r.append hd;have hl:(us++ds).length=ps.length:=by rw[<-d.length];exact F.len _ _ _ _ h
 refine wpAny_call<|Rg (F.run X.A X.stack s H ⟨us,[]⟩ (us++ds) (c++bp) Q E i I.env0 (j s us I.kIn hl) d h) λr s' a=>?_;cases r with
 |error e=>exact hx gb b H s e s' I a
 |ok fl =>
  cases fl with
  |ret u=>exact I.after a
  |next=>exact False.elim a
  |brk=>exact False.elim a
  |cont=>exact False.elim a
theorem WB(F:FnOk X.prog X.w X.K X.mg X.base CX k f fd ps sp)(b:Room k X.A)(c:Gl X x)(d:X.mg x=O (.ref f))(i:Y5 X.K (.ref f)=Ul)(j:Binds X.K fd ps ds)(hd:Vals bp ds)(hx:XD CX X E)
  (l:PA X (e::es) t) (v:(x==("__debug__":Str))=false:=by decide) (y:Pb (e::es) X.env=(Um,Wc e X.env)::Pb es X.env:=by rfl) (B:(Sc pos<|Pb es X.env).any (·.1)=false:=by rfl) :
  PE X (.Call (.Name x p) (e::es) [] pos) (EH sp bp E t):=by
 intro gb s G H Q I h;refine Cd<|yz I c d ?_ v;refine PySem.W.callWith_K (h₀:=X.base) I.ok.mod.kin i (xZ (l pos gb s G H _ I h) λus L ⟨M,P,a,r,q⟩=>⟨a.kIn,?_⟩) y B;exact qM F b j hd hx a r q
structure Mk(K:B0)(C f:Eb):Prop where
 makes:PySem.W.makesIn K C=Ul
 init:u8 K (.ref C) "__init__"=O (O<|.ref f)
 fn:PySem.W.isFn K (.ref f)=Ul
 kp:Y5 K (.ref C)=Ul
end
section
variable {X:Cx}{CX:Ew}{k:Nat}{C:Eb}{ps ks:Us}{sp:Sp}{E:XK}{x m:Str}{p pos ae kpos:Pos}{e o:Vb}{es:Bl}{kws:List Qf}{te ta:TE}{t tk:TA}{nm:Yi Str}
structure KBinds(K:B0)(fd:Hd)(ps ks:Us)(g:Up->Up->Up)(gV:List V->List V->List V):Prop where
 to:∀(s:Gb) (us ws:Up),K.In s.heap->(g us ws).length=ps.length->Jh s fd ⟨us,ks.zip ws⟩ (ps.zip<|g us ws)
 rel:∀{vs:List V}{us:Up}{zs:List V}{ws:Up},Vals vs us->Vals zs ws->Vals (gV vs zs) (g us ws)
variable {g:Up->Up->Up}{gV:List V->List V->List V}
end
structure FnScope(N P:Us)(sc:Oh):Prop where
 kind:sc.kind=.function:=by rfl
 co:sc.isCoroutine=false:=by rfl
 gen:sc.isGenerator=false:=by rfl
 nd:N.Nodup:=by decide +kernel
 pre:N.take P.length=P:=by rfl
 par:∀x∈P,sc.names.lookup x=O .local\/sc.names.lookup x=O .cell:=by decide +kernel
 nofree:∀y∈sc.names,y.2≠.free:=by decide +kernel
theorem FH{kindOf:Str->Yi Vd}{x:Str}:∀{binds:List (Str×Bb)}{m:Str->Yi Bb},(∀v,(x,v)∉binds)->Mi kindOf binds m x=m x
 |[],_,_=>rfl
 |(n,v)::r,m,h=>by
  unfold Mi;rw[FH λw hw=>h w<|i0 _ hw];split
  .have:x≠n:=by rintro rfl;exact h v u0
   simp[this]
  .rfl
theorem GH{kindOf:Str->Yi Vd}{x:Str}:∀{binds:List (Str×Bb)}{m:Str->Yi Bb},(∀v,(x,v)∉binds)->Ni kindOf binds m x=m x
 |[],_,_=>rfl
 |(n,v)::r,m,h=>by
  unfold Ni;rw[GH λw hw=>h w<|i0 _ hw];split
  .rfl
  .have:x≠n:=by rintro rfl;exact h v u0
   simp[this]
theorem HH{kindOf:Str->Yi Vd}{x:Str}{v:Bb}:∀{P:Us}{a:Up}{i:Nat}{m:Str->Yi Bb},P.Nodup->P[i]?=O x->a[i]?=O v->kindOf x=O .local -> Mi kindOf (P.zip a) m x=O v
 |[],_,_,_,_,h,_,_=>by simp at h
 |_::_,[],_,_,_,_,h,_=>by simp at h
 |p::P,w::a,0,m,d,b,c,e=>by simp at b c;subst b;subst c;show Mi kindOf ((p,w)::P.zip a) m p=_;unfold Mi;rw[FH λv j=>(k6.mp d).1 (l6 j).1,Ib e];simp
 |p::P,w::a,i+1,m,d,b,c,e=>by show Mi kindOf ((p,w)::P.zip a) m x=_;unfold Mi;exact HH (i:=i) (k6.mp d).2 (by simpa using b) (by simpa using c) e
theorem IH{kindOf:Str->Yi Vd}{x:Str}{v:Bb}:∀{P:Us}{a:Up}{i:Nat}{m:Str->Yi Bb},P.Nodup->P[i]?=O x->a[i]?=O v->kindOf x≠O .local -> Ni kindOf (P.zip a) m x=O v
 |[],_,_,_,_,h,_,_=>by simp at h
 |_::_,[],_,_,_,_,h,_=>by simp at h
 |p::P,w::a,0,m,d,b,c,e=>by simp at b c;subst b;subst c;show Ni kindOf ((p,w)::P.zip a) m p=_;unfold Ni;rw[GH λv j=>(k6.mp d).1 (l6 j).1,if_neg e];simp
 |p::P,w::a,i+1,m,d,b,c,e=>by show Ni kindOf ((p,w)::P.zip a) m x=_;unfold Ni;exact IH (i:=i) (k6.mp d).2 (by simpa using b) (by simpa using c) e
noncomputable def start(N:Us)(a:List V):St:=a.map O++O1 (N.length-a.length) U
noncomputable def mG(c:Ew)(P:Cc)(w:Wb)(K:B0)(mg:Str->Yi Bb)(base:Dc)(N:Us)(qual:Str)(scope:Oh)(f:Eb)(a:Bb)(A:Ae)(outer:List Env)(s:Gb)(H:Hp)(E:XK):Cx where
 prog:=P
 w:=w
 K:=K
 mg:=mg
 base:=base
 A:=A.deeper (Gf qual scope s.heap.objs.size f a)
 N:=N
 s₀:=s
 H₀:=H
 env:=Gf qual scope s.heap.objs.size f a
 outer:=outer
 stack:=Gf qual scope s.heap.objs.size f a::outer
 ex:=[]
 calm:=Ul
 fn:=λ_=>Ul
 pn:=[]
 xe:=λe s'=>Hb (Kb P w) (A.deeper<|Gf qual scope s.heap.objs.size f a) (leaving (Gf qual scope s.heap.objs.size f a) e) (λ_ b=>c outer H s E e b) (λd b=>c outer H s E d b) s'
theorem mW(h:sc.names.lookup x=O .cell):∃c,(Ec n sc.names []).lookup x=O c:=by have q:=rQ sc.names n []<|.inl h;exact Option.isSome_iff_exists.mp q
theorem xx{K:B0}{E:XK}(S:FnScope N ps scope) (hd:A.handled=U) (e0:Env0 P w K mg base A outer s H) (hl:vs.length=ps.length) (r:Vals vs us)(x:InCallC s s.heap.objs.size (Mi (Gf qual scope s.heap.objs.size f cd).kindOf (ps.zip us) λ_=>U) (Ec (s.heap.objs.size+1) scope.names []) (Ni (Gf qual scope s.heap.objs.size f cd).kindOf (ps.zip us) λ_=>U) s1):Inv (mG CX P w K mg base N qual scope f cd A outer s H E) [] (start N vs) H s1:=by
 have I:ps.length<=N.length:=by have:=Rb U4 S.pre;rw[E2]at this;omega
 obtain⟨t,L,rfl,B⟩:=x.done;have j:∀b:Eb,b∉(mG CX P w K mg base N qual scope f cd A outer s H E).ex:=λb z=>absurd (show b∈([]:List Eb) from z) (by simp);refine⟨⟨e0.mod,S.kind,Z,Z,A0 _,λy z c t d=>?_,λy hy=>?_,λy c _ h=>?_,λ_=>hd,Around.frames_deeper e0.frames,.inr ⟨Z,Z⟩,λb z=>absurd z<|j b,e0.bs,e0.bsz,λb _ _=>j b,λb z=>absurd z<|j b,e0.funs,e0.frf⟩,
   rfl,e0.bare,Un.kept B,⟨_,x.toInCall.ns,λi y v t d M=>?_⟩,λy c h=>⟨_,x.cell y c h⟩,e0.hok.fresh<|A0 _,λy c h=>?_,λp l=>absurd (show p∈([]:Ut) from l)<|by simp,e0.hok.kept B,?_⟩
 .exact name_of_addr x.apart (PySem.mem_of_lookup t) (PySem.mem_of_lookup d)
 .have hy:scope.names.lookup y=O .cell\/scope.names.lookup y=O .free:=hy;rcases hy with hy|hy
  .exact mW hy
  .exact absurd Z (S.nofree _<|PySem.mem_of_lookup hy)
 .exact V0 (x.above y c<|PySem.mem_of_lookup h)
 .have hi:i<vs.length:=by
   unfold start at d;by_cases hi:i<vs.length
   .exact hi
   .rw[Q2<|by simpa using hi]at d;rw[lQ]at d;split at d<;>cases d
  have F:vs[i]?=O v:=by
   unfold start at d;rw[m3 (by simpa using hi),G1]at d;cases e:vs[i]? with
   |none=>rw[e]at d;cases d
   |some a=>rw[e]at d;cases d;rfl
  obtain⟨u,C,G⟩:=r.get F;have l:ps[i]?=O y:=by rw[<-S.pre,Z9<|by omega];exact t
  have m:ps.Nodup:=by rw[<-S.pre];exact S.nd.sublist<|v8 _ _
  refine⟨u,G,?_⟩;rcases S.par y (P2 l) with k|k
  .exact .inl ⟨k,HH m l C k⟩
  .obtain⟨c,e⟩:=mW (n:=s.heap.objs.size+1) k;refine .inr ⟨.inl k,c,e,?_⟩;have q:=x.cell y c e;rw[IH m l C<|by show scope.names.lookup y≠_;rw[k];decide]at q;exact q
 .exact e0.hok.fresh (V0<|x.above y c<|PySem.mem_of_lookup h)
 .unfold start;show _=N.length;rw[N0,j0,List.length_replicate];omega
theorem qP{m:Ew}{P:Cc}{w:Wb}{K:B0}{mg:Str->Yi Bb}{base:Dc}{k:Nat}{a:Arguments}{body:List Be}{M kV R X j Y oc:Bb}{an od:Yi Eb}{tm:Zi (Yi Bb)}{B:Us}{C:Sp} (lk:K.lookup f=O ⟨oc,od,.func<|J6 name qual a body scope M kV R X an j Y,tm⟩) (bg:u9 K j qual=Ul) (S:FnScope N B scope)(len:∀c H Q E,C c H Q E->c.length=B.length)(ml:∀(A:Ae) (outer:List Env) (s:Gb) (H:Hp) (c:List V) (Q:VK) (E:XK),Room k (A.deeper<|Gf qual scope s.heap.objs.size f j)->C c H Q E -> ∃t,PSs (mG m P w K mg base N qual scope f j A outer s H E) body t/\t {nx:=λ_ i=>Q .non i,rt:=Q} (start N c) H):FnOk P w K mg base m (k+1) f (J6 name qual a body scope M kV R X an j Y) B C:=by
 refine⟨len,λA outer s H args us c Q E F e0 hb r xp=>?_⟩;have hl:=len _ _ _ _ xp;have KX:K.In s.heap:=e0.mod.kin.keeps λb o e=>(e0.bs b o e).1;have G:s.heap.NoLimit:=e0.mod.nolimit.keeps λb o e=>(e0.bs b o e).1;have zi:∀y∈B.zip us,scope.names.lookup y.1=O .local\/(scope.names.lookup y.1=O .cell/\((Ec (s.heap.objs.size+1) scope.names []).lookup y.1).isSome=Ul):=λ⟨n,v⟩ hy=>by
  rcases S.par n (l6 hy).1 with q|q
  .exact .inl q
  .exact .inr ⟨q,rQ _ _ _<|.inl q⟩
 refine codeAny_call_function F.depth (KX _ _ lk) Z S.co S.gen Z (PySem.W.codeRec_of KX bg)<|hb _ _ _ _ ?_;refine wpAny_newFunctionEnv_cells S.kind zi λenv he s1 x=>?_;subst he;refine⟨G.keeps x.toInCall.keep,codeAny_func ?_⟩;obtain⟨t,ht,hq⟩:=ml A outer s H c Q E (F.deeper _) xp;have I:Inv (mG m P w K mg base N qual scope f j A outer s H E) [] (start N c) H s1:=xx S F.hd e0 hl r x;refine wpAny_mono (ht [] s1 (start N c) H _ I hq) (λfl s' l=>?_) λe s' l=>l;have fin:∀{d:St}{i:Hp}{v:V}{u:Bb},Inv (mG m P w K mg base N qual scope f j A outer s H E) [] d i s'->RelV v u->Q v i->CE outer P w H s Q u s':=λ{d i v u} J L q=>⟨v,i,J.os,J.bare,J.base,J.hok,L,q⟩;cases fl with
 |ret u=>obtain⟨v,d,i,J,L,q⟩:=l;exact fin J L q
 |next=>obtain⟨d,i,J,q⟩:=l;exact fin (v:=V.non) (u:=b8) J Z q
 |brk=>obtain⟨_,_,_,q⟩:=l;exact False.elim q
 |cont=>obtain⟨_,_,_,q⟩:=l;exact False.elim q
section
variable {X:Cx}{x:Str}{p pos:Pos}{e:Vb}{es:Bl}{t:TA}{id T:String}{r:List V->Hp->VK->Prop}
def rP(r:List V->Hp->VK->Prop)(t:TA):TE:=λa H Q=>t a H λb c=>r b c Q
theorem bU(b:nZ X (.builtin id) r)(c:Gl X x)(d:X.mg x=U)(i:Gc x=O (.builtin id))(j:PA X (e::es) t)(k:x ≠ "__name__":=by decide)(l:(x==("__debug__":Str))=false:=by decide)
  (m:Pb (e::es) X.env=(Um,Wc e X.env)::Pb es X.env:=by rfl) (q:(Sc pos<|Pb es X.env).any (·.1)=false:=by rfl):PE X (.Call (.Name x p) (e::es) [] pos) (rP r t):=by
 intro gb s a H Q I h;refine Cd<|TJ I c d i ?_ k l;exact PyProof.Rows.callWith_builtin1 (xZ (j pos gb s a H _ I h) λus v ⟨w,y,B,C,F⟩=>b gb v a y w us Q B C F) m q
theorem TW(b:nZ X (.type T) r)(c:Gl X x)(d:X.mg x=U)(i:Gc x=O (.type T))(j:PA X (e::es) t)(k:x ≠ "__name__":=by decide)(l:(x==("__debug__":Str))=false:=by decide)
  (m:Pb (e::es) X.env=(Um,Wc e X.env)::Pb es X.env:=by rfl) (q:(Sc pos<|Pb es X.env).any (·.1)=false:=by rfl):PE X (.Call (.Name x p) (e::es) [] pos) (rP r t):=by
 intro gb s a H Q I h;refine Cd<|TJ I c d i ?_ k l;exact W3 (xZ (j pos gb s a H _ I h) λus v ⟨w,y,B,C,F⟩=>b gb v a y w us Q B C F) m q
end
end L2
variable {r:L2.V->List L2.V->L2.Hp->L2.VK->Prop}{σ:L2.St}{H H':L2.Hp}{ys:List L2.V}{X:L2.Cx}
namespace HT
noncomputable def lexLt:Ql->Ql->Bool
 |[],[]=>Um
 |[],_::_=>Ul
 |_::_,[]=>Um
 |x::a,y::ys=>if x=y then lexLt a ys else Uo (x<y)
theorem lexLt_cons(x y:Int)(a ys:Ql):lexLt (x::a) (y::ys)=if x=y then lexLt a ys else Uo (x<y):=rfl
theorem lH:lexLt [] []=false:=rfl
theorem cU(y:Int)(ys:Ql):lexLt [] (y::ys)=true:=rfl
theorem dU(x:Int)(a:Ql):lexLt (x::a) []=false:=rfl
theorem Fw(A:Ae)(s:Gb)(a:Int)(t:Tok)(c:Int)(u:Tok):∃e,SeqAt.EqAt A s (.int a t) (.int c u) e/\(e=Ul↔a=c):=⟨(a==c),SeqAt.EqAt.int_int a t c u,by simp⟩
theorem Gw(A:Ae)(s:Gb)(a:Int)(t:Tok)(c:Int)(u:Tok)(prog:Cc)(w:Wb)(E:Bb->Gb->Prop)(Q:Bb->Gb->Prop)(h:Q (.bool<|decide<|a<c) s):Hb (Kb prog w) A (richCompare .Lt (.int a t)<|.int c u) Q E s:=
 (PyProof.Rows.lt_int h:Hb (Kb prog w) A (Bc .Lt (.int a t)<|.int c u) Q E s)
section
open PySem.SeqAt
open PySem.AutoSeq1 (wpAny_loadPart')
open PySem.MeetsSeq PySem.MeetsSeq2 PySem.MeetsSeq3
theorem mH(l b:Eb)(items F:Zi Bb)(n n2:Nat)(dd np:Yi Eb)(sl dr:Zi (Yi Bb))(ns P:Ql)(hi:Tc items.toList ns)(hj:Tc F.toList P):Qi (Builtin.«tuple.__lt__» ⟨[.ref l,.ref b],[]⟩) (λ_ R s=>s.heap.get? l=O {cls:=.type "tuple",dict:=dd,data:=.seq items n,slots:=sl}/\s.heap.get? b=O {cls:=.type "tuple",dict:=np,data:=.seq F n2,slots:=dr} /\ R (.ok<|.ret<|.bool<|lexLt ns P) s):=
 .of_wp λprog w A R s h=>by
  obtain⟨Y,g,d,tk,os⟩:=s;obtain⟨hl,hb,h⟩:=h;have f2:=AutoSeq1.sub_tuple_tuple;have z1:items.size=ns.length:=by rw[<-hi.length];simp
  have z2:F.size=P.length:=by rw[<-hj.length];simp
  wp_walk using wpAny_loadPart' hl,wpAny_loadPart' hb,Td _ (λrest b s'=>b.1=U/\s'=⟨Y,g,d,tk,os⟩/\∃(vs ws:Up) (G i:Ql),rest=vs.zip ws /\
    Tc vs G/\Tc ws i/\G.length+F.size=i.length+items.size/\R (.ok<|.ret<|.bool<|lexLt G i) ⟨Y,g,d,tk,os⟩) _
  case turn =>
   rintro⟨y,x⟩ rest b s' ⟨B,rfl,vs,ws,G,i,j,C,k,I,m⟩;cases C with
   |nil=>rw[List.zip_nil_left]at j;cases j
   |cons a t L =>
    cases k with
    |nil=>rw[List.zip_nil_right]at j;cases j
    |cons c u M =>
     rw[E4]at j;injection j with hyx uh;injection hyx with hy hx;subst hy hx;rw[lexLt_cons]at m;simp only[U1]at I;obtain⟨e,he,v⟩:=Fw A.in1 ⟨Y,g,d,tk,os⟩ a t c u;refine Ab<|he prog w _ _ ?_;cases e with
     |true =>
      rw[Ib<|v.mp Z]at m
      wp_walk
      exact⟨Z,Z,_,_,_,_,uh,L,M,by omega,m⟩
     |false =>
      rw[if_neg<|λq=>absurd (v.mpr q) X0]at m;have hri:=Gw A.in1 ⟨Y,g,d,tk,os⟩ a t c u prog w
      wp_walk using hri
      exact⟨_,Z,by simpa using m⟩
  case fin =>
   rintro⟨b1,b2⟩ s' ⟨B,rfl,vs,ws,G,i,j,C,k,I,m⟩;simp only at B;subst B;have hv:lexLt G i=Uo (items.size<F.size):=by
    cases C with
    |nil =>
     cases k with
     |nil=>simp only[c7]at I;rw[lH];exact(Qb<|by omega).symm
     |cons c u hw=>simp only[c7,U1]at I;rw[cU];exact(Sb<|by omega).symm
    |cons a t hv =>
     cases k with
     |nil=>simp only[c7,U1]at I;rw[dU];exact(Qb<|by omega).symm
     |cons c u hw=>rw[E4]at j;cases j
   rw[hv]at m
   wp_walk
   exact⟨_,Z,by simpa [Builtin.Tuple.tupleCompareSizes]using m⟩
  case h=>exact⟨Z,Z,items.toList,F.toList,ns,P,Z,hi,hj,by omega,h⟩
end
section
variable {w:Wb}
theorem lt_tupInts(hl:Ai s.heap l items)(q:Ai s.heap b yd)(hi:Tc items.toList ns)(t:Tc yd.toList a)(v:A.units<Oc) (h:Q (.bool<|lexLt ns a) s):Hb (Kb prog w) A (Bc .Lt (.ref l)<|.ref b) Q E s:=by
 obtain⟨⟨y,B,c,C⟩,d,e,n,hd⟩:=id hl;obtain⟨⟨i,G,data2,I⟩,j,k,L,m⟩:=id q;simp only at e hd k m;subst e hd k m;exact richCompare_meets_room (op:=.Lt) ⟨_,d,Z⟩ ⟨_,j,Z⟩ PySem.F.slot_tuple_lt PySem.F.entry_tuple_lt (PySem.F.args_tuple_lt_2 _ _) (mH l b items yd n L B G C I ns a hi t)
  ⟨d,j,show pX (lexLt ns a)≠LQ/\Q (.bool<|lexLt ns a) s from ⟨(λx=>nomatch x),h⟩⟩ v
theorem cat_tup(C:Ai s.heap t vs.toArray)(G:Ai s.heap b ws.toArray)(i:vs≠[])(I:ws=[]->Q (.ref t) s) (L:ws≠[]->Q (.ref s.heap.objs.size) {s with heap:=s.heap.push {cls:=.type "tuple",data:=.seq (vs++ws).toArray}})(d:vs.length+ws.length<=sizeLine):Hb (Kb prog w) A (Rc .Add (.ref t)<|.ref b) Q E s:=by
 obtain⟨⟨cls,j,data,k⟩,a,l,n,hd⟩:=id C;obtain⟨⟨m,q,data2,v⟩,c,x,y,B⟩:=id G;simp only at l hd x B;subst l hd x B;have e:vs.toArray++ws.toArray=(vs++ws).toArray:=by simp
 by_cases hw:ws=[]
 .exact Fi ⟨_,a,Z⟩ ⟨_,c,Z⟩ Hg Th PySem.F.slot_tuple_add PySem.F.entry_tuple_add (PySem.F.args_tuple_add_2 _ _)
   (tuple_addW1 t b vs.toArray ws.toArray n y j q k v (by simpa using i)<|by simp[hw]) ⟨a,c,I hw⟩
 .refine Fi ⟨_,a,Z⟩ ⟨_,c,Z⟩ Hg Th PySem.F.slot_tuple_add PySem.F.entry_tuple_add (PySem.F.args_tuple_add_2 _ _)
   (tuple_addW2 t b vs.toArray ws.toArray n y j q k v (by simpa using i) (by simpa using hw)<|by rw[P0,P0];exact d) ⟨a,c,?_⟩;rw[e];exact L hw
noncomputable def sIx(n d:Nat):Yi Int->Nat
 |none=>d
 |some v=>if v<0 then (v+(n:Int)).toNat else min v.toNat n
theorem rM(n d:Nat)(hd:d<=n)(o:Yi Int):sIx n d o<=n:=by
 cases o with
 |none=>exact hd
 |some v =>
  show (if v<0 then (v+(n:Int)).toNat else min v.toNat n)<=n;by_cases a:v<0
  .rw[Ib a];omega
  .rw[if_neg a];exact O7 _ _
theorem Ez(v:Int)(n d:Nat):(if v<0 then max (v+(n:Int)) 0 else min v (n:Int))=((sIx n d (O v):Nat):Int):=by
 show (if v<0 then max (v+(n:Int)) 0 else min v (n:Int))=(((if v<0 then (v+(n:Int)).toNat else min v.toNat n):Nat):Int);by_cases a:v<0
 .simp only[Ib a];omega
 .simp only[if_neg a];omega
theorem YD(lo hi:Yi Int)(n:Nat):R7 lo hi 1 (n:Int)=(((sIx n 0 lo:Nat):Int),((sIx n n hi:Nat):Int)):=by
 have a:¬((1:Int)<0):=by omega
 unfold R7;simp only[a,if_false];refine Prod.ext ?_ ?_
 .cases lo with
  |none=>rfl
  |some v=>exact Ez v n 0
 .cases hi with
  |none=>rfl
  |some v=>exact Ez v n n
theorem ZD(i j:Nat):G6 (i:Int) (j:Int) 1=j-i:=by
 unfold G6;have a:(1:Int) > 0:=by omega
 simp only[a,if_true,Int.ediv_one];split<;>omega
theorem eU{o:Yi Int}{Q:Yi Int->Gb->Prop}(p:Lg v o)(h:Q o s):Hb (Kb prog w) A (Builtin.Slice.slicePartIndex v) Q E s:=by
 cases p with
 |none=>exact slicePart_none h
 |int i t=>exact slicePart_int h
theorem gK{lo hi:Yi Int}{Q:Int×Int×Nat->Gb->Prop}(c:s.heap.IsSliceOf sl vl vu .none)(d:Lg vl lo)(e:Lg vu hi)(h:Q (((sIx n 0 lo:Nat):Int),1,sIx n n hi-sIx n 0 lo) s):Hb (Kb prog w) A (J9 (.ref sl)<|pure (n:Int)) Q E s:=by
 obtain⟨os,a,i,b⟩:=id c;unfold J9 Builtin.Slice.sliceFields;refine Ab<|Ab<|Yb a b (x:=vl) rfl<|Ab<|Yb a b (x:=vu) rfl<|Ab<|Yb a b (x:=.none) rfl<|Db ?_;refine Ab<|slicePart_none ?_;show Hb _ _ (if ((1:Int)==0)=Ul then _ else _) _ _ s;rw[if_neg<|by decide];refine Ab<|eU d<|Ab<|eU e<|Ab<|Db ?_;show Hb _ _ (match R7 lo hi 1 (n:Int) with|(lo,hi)=>pure (lo,(1:Int),G6 lo hi 1)) _ _ s;rw[YD lo hi n];show Hb _ _ (pure (((sIx n 0 lo:Nat):Int),(1:Int),G6 ((sIx n 0 lo:Nat):Int) ((sIx n n hi:Nat):Int) 1)) _ _ s;rw[ZD];exact Db h
theorem Hw(a:Zi Bb)(i k:Nat):((S2 k).filterMap λ(m:Nat)=>a[((i:Int)+(m:Int)*1).toNat]?).toArray=((a.toList.drop i).take k).toArray:=by
 have e:(λ(m:Nat)=>a[((i:Int)+(m:Int)*1).toNat]?)=λm=>a[i+m]?:=by
  funext m;have:((i:Int)+(m:Int)*1).toNat=i+m:=by omega
  rw[this]
 rw[e];have:=pick_run a i k;rw[List.filterMap_map]at this;have b:((λx=>a[x]?)∘λx=>i+x)=λm=>a[i+m]?:=rfl;rw[b]at this;rw[this]
theorem getItem_tuple_cut{lo hi:Yi Int}(a:Ai s.heap t items)(j:s.heap.IsSliceOf sl vl vu .none)(k:Lg vl lo)(l:Lg vu hi)(hw:¬(sIx items.size 0 lo=0/\sIx items.size items.size hi=items.size))(h:Q (.ref s.heap.objs.size) {s with heap:=s.heap.push {cls:=.type "tuple",data:=.seq ((items.toList.drop<|sIx items.size 0 lo).take<|sIx items.size items.size hi-sIx items.size 0 lo).toArray}})(v:items.size<=sizeLine):Hb (Kb prog w) A (Cf (.ref t)<|.ref sl) Q E s:=by
 have b:sizeOk (.seq ((items.toList.drop<|sIx items.size 0 lo).take<|sIx items.size items.size hi-sIx items.size 0 lo).toArray):=by show ((items.toList.drop<|sIx items.size 0 lo).take<|sIx items.size items.size hi-sIx items.size 0 lo).toArray.size<=sizeLine;rw[P0,E2,K2,Z0];omega
 have x:sIx items.size items.size hi<=items.size:=rM _ _ (A0 _) hi;obtain⟨os,c,d,y⟩:=id j;have e:s.TypeIs (.ref sl) "slice":=⟨os,c,d⟩;unfold Cf;try with_reducible refine Xb ?_
 first|refine Ab (Db ?_)|skip
 refine Ab<|wpAny_sequenceKey a.typeIs (by decide) ?_;refine Ab<|Zb (name:=Str.ofString "__getitem__") a.typeIs O5
   (wpAny_call_entry O5 a.typeIs Nh ?_<|args_tuple_getitem _ _);show Hb _ _ (J7 (.ref t) >>= _) _ _ s;refine Ab<|tupleItemsOf_ a ?_;refine Ab<|Jd e ?_;rw[Ib<|by decide];refine Ab<|gK j k l ?_;have i:¬((((sIx items.size 0 lo:Nat):Int)==0&&(1:Int)==1&&(sIx items.size items.size hi-sIx items.size 0 lo)==items.size)=Ul):=by
  intro q;rw[X1,X1]at q;have B:((sIx items.size 0 lo:Nat):Int)=0:=eq_of_beq q.1.1;have C:sIx items.size items.size hi-sIx items.size 0 lo=items.size:=eq_of_beq q.2;exact hw ⟨by omega,by omega⟩
 show Hb _ _ (if (((sIx items.size 0 lo:Nat):Int)==0&&(1:Int)==1&&(sIx items.size items.size hi-sIx items.size 0 lo)==items.size)=Ul then _ else _) _ _ s;rw[if_neg i,Hw];first
  |exact Ab (m:=P6 _)<|Yc (Db ⟨_,rfl,Db h⟩) b
  |exact Ab (m:=P6 _)<|Yc (Ab<|Db<|Db ⟨_,rfl,Db h⟩) b
  |exact Ab<|Ab (m:=P6 _)<|Yc (Db<|Db ⟨_,rfl,Db h⟩) b
  |exact Ab<|Ab (m:=P6 _)<|Yc (Db ⟨_,rfl,Db h⟩) b
end
end HT
namespace L2
noncomputable abbrev TO:=St->Hp->(Yi Int->Hp->Prop)->Prop
def PO(X:Cx)(e:Yi Vb)(t:TO):Prop :=
 ∀(gb:Ut) (s:Gb) (σ:St) (H:Hp) (Q:Yi Int->Hp->Prop),Inv X gb σ H s->t σ H Q ->
  Hb (Kb X.prog X.w) X.A (evalPart e X.env) (λu s'=>∃o H',Inv X gb σ H' s'/\Lg u o/\Q o H') X.xe s
noncomputable def XB:TO:=λ_ H Q=>Q U H
noncomputable def Iw(t:TE):TO:=λσ H Q=>t σ H λx a=>∃i,x=.int i/\Q (O i) a
theorem lZ:∀{us:Up},Vals (ns.map V.int) us->Tc us ns:=by
 induction ns with
 |nil=>intro us r;rw[l9]at r;cases r;exact .nil
 |cons n ns a =>
  intro us r;rw[E1]at r;cases r with
  |cons b c=>obtain⟨t,e⟩:=b;subst e;exact .cons n t<|a c
section
variable {e:Vb}{te:TE}{lo hi:Yi Vb}{tl th:TO}{pos p2:Pos}
theorem NV:PO X U XB:=by intro gb s σ H Q I h;rw[Uh];exact Db ⟨U,H,I,.none,h⟩
theorem CY(h:PE X e te):PO X (O e) (Iw te):=by intro gb s σ H Q I hw;rw[evalPart_some];refine xZ (h gb s σ H _ I hw) λu j ⟨x,a,b,c,d⟩=>?_;obtain⟨i,rfl,q⟩:=d;obtain⟨t,rfl⟩:=c;exact⟨O i,a,b,.int i t,q⟩
def pT(X:Cx)(r:V->Yi Int->Yi Int->Hp->VK->Prop):Prop :=
 ∀(gb:Ut) (s:Gb) (σ:St) (H:Hp) (x:V) (v a b:Bb) (lo hi:Yi Int) (c:Eb) (Q:VK),Inv X gb σ H s->RelV x v->s.heap.IsSliceOf c a b .none->Lg a lo->Lg b hi->r x lo hi H Q ->
  ∃T id,Te (.type T) "__getitem__"=pure (O<|.builtin id)/\s.TypeIs v T/\Hb (Kb X.prog X.w) X.A (Cf v<|.ref c) (EP X gb σ Q) X.xe s
def o_(r:V->Yi Int->Yi Int->Hp->VK->Prop)(te:TE)(tl th:TO):TE:=λσ H Q=>te σ H λx a=>tl σ a λl b=>th σ b λu c=>r x l u c Q
theorem ZK{r:V->Yi Int->Yi Int->Hp->VK->Prop}(j:pT X r)(k:PE X e te)(hl:PO X lo tl)(m:PO X hi th):PE X (.Subscript e (.Slice lo hi U p2) pos) (o_ r te tl th):=by intro gb s σ H Q I h;refine Zh<|xZ (k gb s σ H _ I h) λv t ⟨x,y,B,C,F⟩=>?_;refine wpAny_Slice<|xZ (hl gb t σ y _ B F) λc G ⟨l,L,M,P,R⟩=>xZ (m gb G σ L _ M R) λd a ⟨u,i,Y,pu,q3⟩=>?_;rw[Uh];refine Db ?_;have I4:Inv X gb σ i {a with heap:=a.heap.push {cls:=.type "slice",data:=.fields #[c,d,.none]}}:=Y.kept (t':=a.toks) λb ob q=>g0 _ q;obtain⟨T,id,hT,ht,hg⟩:=j gb {a with heap:=a.heap.push {cls:=.type "slice",data:=.fields #[c,d,.none]}} σ i x v c d l u a.heap.objs.size Q I4 C (aX ..) P pu q3;show Hb (Kb X.prog X.w) X.A (Yf e (.Slice lo hi U p2) v<|.ref a.heap.objs.size) (EP X gb σ Q) X.xe {a with heap:=a.heap.push {cls:=.type "slice",data:=.fields #[c,d,.none]}};exact tail_any (ops:=[.ref a.heap.objs.size,v]) ht hT hg (by with_unfolding_all rfl)
noncomputable def QK(a:List V)(lo hi:Yi Int):List V:=(a.drop<|HT.sIx a.length 0 lo).take<|HT.sIx a.length a.length hi-HT.sIx a.length 0 lo
theorem tV(a:List V)(lo hi:Yi Int):(QK a lo hi).length<=a.length:=by unfold QK;rw[E2,K2];omega
def pA(K:B0):V->Yi Int->Yi Int->Hp->VK->Prop:=λx lo hi H Q=>∃a b,x=.ref a/\SqT K H a b /\
 ¬(HT.sIx b.length 0 lo=0/\HT.sIx b.length b.length hi=b.length)/\∀p,H p=U->Q (.ref p) (kZ H p<|.tup<|QK b lo hi)
theorem sM:pT X (pA X.K):=by
 intro gb s σ H x v w y lo hi B Q I k l m t h;obtain⟨a,c,rfl,hx,hw,q⟩:=h;cases k;obtain⟨its,r,i,j⟩:=I.tuple hx;have d:its.toArray.size=c.length:=by rw[P0];exact r.length.symm
 refine⟨"tuple",_,O5.lookup,i.typeIs,?_⟩;refine HT.getItem_tuple_cut i l m t (by rw[d];exact hw) ?_ (by rw[d];exact j);rw[d];refine⟨.ref s.heap.objs.size,_,I.laid (t':=s.toks) (o:=.tup<|QK c lo hi) (λb C q=>g0 _ q) (A0 _) ?_,Z,q _<|I.hok.fresh<|A0 _⟩;exact⟨q0 (tV c lo hi) j,_,(r.drop<|HT.sIx c.length 0 lo).take<|HT.sIx c.length c.length hi-HT.sIx c.length 0 lo,IsTupD.new _ _⟩
def sP(K:B0):R2:=λx y H Q=>∃a b c ys,x=.ref a/\y=.ref b/\SqT K H a c/\SqT K H b ys/\c≠[]/\c.length+ys.length<=sizeLine /\
 (ys=[]->Q (.ref a) H)/\(ys≠[]->∀p,H p=U->Q (.ref p) (kZ H p<|.tup<|c++ys))
theorem Vals.nil_iff(r:Vals xs us):us=[]↔xs=[]:=by
 cases r with
 |nil=>simp
 |cons _ _=>simp
theorem YB:OpR X (Rc .Add) (sP X.K):=by intro gb s σ H x y v u Q I j k h;obtain⟨a,b,l,ys,rfl,rfl,m,t,hx,i,B,C⟩:=h;cases j;cases k;obtain⟨its,d,F,_⟩:=I.tuple m;obtain⟨G,c,p2,_⟩:=I.tuple t;refine HT.cat_tup F p2 (λz=>hx<|d.nil_iff.mp z) (λz=>⟨.ref a,H,I,Z,B<|c.nil_iff.mp z⟩) (λz=>?_) (by rw[<-d.length,<-c.length];exact i);refine⟨.ref s.heap.objs.size,_,I.laid (t':=s.toks) (o:=.tup<|l++ys) (λb L q=>g0 _ q) (A0 _) ?_,Z,C (λw=>z<|c.nil_iff.mpr w) _<|I.hok.fresh<|A0 _⟩;exact⟨by rw[N0];exact i,_,d.append c,IsTupD.new _ _⟩
end
noncomputable def Jw(n:Nat)(i:Int):Yi Nat:=if 0<=i then (if i<n then O i.toNat else U) else if -(n:Int)<=i then O (i+n).toNat else U
noncomputable def kH{α:Type}(a:List α)(i:Int):Yi α:=(Jw a.length i).bind λj=>a[j]?
theorem Fz(h:Jw n i=O j):seqIndex? i n=O j/\j<n/\-(n:Int)<=i/\i<n:=by
 unfold Jw at h;by_cases h0:0<=i
 .rw[Ib h0]at h;by_cases a:i<n
  .rw[Ib a]at h;have e:i.toNat=j:=Z1 h;exact⟨by rw[Ii h0 a,e],by omega,by omega,a⟩
  .rw[if_neg a]at h;cases h
 .rw[if_neg h0]at h;by_cases a:-(n:Int)<=i
  .rw[Ib a]at h;have e:(i+n).toNat=j:=Z1 h;exact⟨by rw[Di (by omega) a,e],by omega,a,by omega⟩
  .rw[if_neg a]at h;cases h
theorem Gz(h:kH a i=O v):∃j,seqIndex? i a.length=O j/\a[j]?=O v/\j<a.length/\-(a.length:Int)<=i/\i<a.length:=by
 unfold kH at h;cases e:Jw a.length i with
 |none=>rw[e]at h;cases h
 |some j=>rw[e]at h;obtain⟨b,c,d,k⟩:=Fz e;exact⟨j,b,h,c,d,k⟩
theorem QZ{a:List α}{j:Nat}{v:α}(h:a[j]?=O v):kH a (j:Int)=O v:=by
 have b:j<a.length:=(L1.mp h).1;have e:Jw a.length (j:Int)=O j:=by unfold Jw;rw[Ib<|by omega,Ib<|by omega];simp
 unfold kH;rw[e];exact h
def nG(b:Vb):Prop:=∀o i,Yg b Um o i=operate [o,i] (Cf o i)
def IxR(X:Cx)(r:R2):Prop :=
 ∀(a b:Vb) (gb:Ut) (s:Gb) (σ:St) (H:Hp) (x y:V) (v u:Bb) (Q:VK),Inv X gb σ H s->RelV x v->RelV y u->r x y H Q ->
  Yg b Um v u=operate [v,u] (Cf v u)->Hb (Kb X.prog X.w) X.A (Yf a b v u) (EP X gb σ Q) X.xe s
def qT(X:Cx)(id:String)(r:V->List V->Hp->VK->Prop):Prop :=
 ∀(gb:Ut) (s:Gb) (σ:St) (H:Hp) (x:V) (a:List V) (v:Bb) (us:Up) (Q:VK),Inv X gb σ H s->RelV x v->Vals a us->r x a H Q ->
  Hb (Kb X.prog X.w) X.A (call (.builtin id) (v::us)) (EP X gb σ Q) X.xe s
section
variable {a b:Vb}{ta tb:TE}{pos:Pos}
theorem IxR.or{r:R2}(h:IxR X r)(h':IxR X r'):IxR X (λx y H Q=>r x y H Q\/r' x y H Q):=by
 intro c d gb s σ H x y v u Q I e i q j;rcases q with q|q
 .exact h c d gb s σ H x y v u Q I e i q j
 .exact h' c d gb s σ H x y v u Q I e i q j
theorem tP{r:R2}(c:IxR X r)(d:PE X a ta)(e:PE X b tb)(i:nG b):PE X (.Subscript a b pos) (CI r ta tb):=by intro gb s σ H Q I h;exact Zh<|gM d e I h λv u j x y k l m t q=>c a b gb j σ k x y v u Q l m t q<|i _ _
def ZB(K:B0):R2:=λx y H Q=>∃p c i v,x=.ref p/\y=.int i/\SqL K H p c/\kH c i=O v/\Q v H
def aC(K:B0):R2:=λx y H Q=>∃p c i v,x=.ref p/\y=.int i/\SqT K H p c/\kH c i=O v/\Q v H
theorem bC:IxR X (ZB X.K):=by
 intro d Y gb s σ H x y v u Q I B C h l;obtain⟨p,xs,i,z,rfl,rfl,F,G,q⟩:=h;cases B;obtain⟨t,rfl⟩:=C;obtain⟨its,r,e,hz⟩:=I.list F;obtain⟨j,c,L,h3,M,P⟩:=Gz G;obtain⟨w,m,R⟩:=r.get L;have hl:=r.length;have hn:=YV;have fin:EP X gb σ Q w s:=⟨z,H,I,R,q⟩;by_cases h0:0<=i
 .have k:i.toNat=j:=by
   rw[Ii h0 P]at c;exact Z1 c
  exact item_listR e.isList h0 (by omega) (by rw[k];simpa using m) fin l
 .have k:(i+(its.toArray.size:Int)).toNat=j:=by
   rw[Di (by omega) M]at c;rw[P0,<-hl];exact Z1 c
  exact Ug (x:=w) e.isList.typeIs slot_list_getitem.lookup
   (wpAny_getItem_list_neg (Q:=λr s'=>r=w/\EP X gb σ Q r s') e.isList (by omega) (by rw[P0]<;>omega) (by omega) (by rw[k];simpa using m) ⟨Z,fin⟩) l
theorem tM:IxR X (aC X.K):=by
 intro c M gb s σ H x y v u Q I e k h l;obtain⟨p,P,i,z,rfl,rfl,m,B,q⟩:=h;cases e;obtain⟨t,rfl⟩:=k;obtain⟨its,r,d,R⟩:=I.tuple m;obtain⟨j,C,F,Y,h4,h5⟩:=Gz B;obtain⟨w,G,L⟩:=r.get F;have hl:=r.length;have hn:=YV;have fin:EP X gb σ Q w s:=⟨z,H,I,L,q⟩;exact Ug (x:=w) d.typeIs slot_tuple_getitem.lookup
  (getItem_tuple (j:=j) (Q:=λr s'=>r=w/\EP X gb σ Q r s') d (by omega) (by omega) (by rw[P0,<-hl];exact C) (by simpa using G) ⟨Z,fin⟩) l
theorem aq(its:Up)(n j:Nat)(u:Bb):W2 (·.setIfInBounds j u) {cls:=.type "list",data:=.seq its.toArray n}={cls:=.type "list",data:=.seq (its.set j u).toArray n}:=by simp[W2]
theorem Inv.lst{p:Eb}(I:Inv X gb σ H s)(h:H p=O (.lst xs)):∃(its:Up) (n:Nat),Vals xs its/\s.heap.get? p=O {cls:=.type "list",data:=.seq its.toArray n}/\xs.length<=sizeLine:=by
 obtain⟨z,its,n,r,e⟩:=I.hok p _ h;exact⟨its,n,r,e,z⟩
theorem Inv.lstUpd{p:Eb}{f:Obj->Obj}(I:Inv X gb σ H s)(h:H p=O (.lst xs))(d:s.heap.get? p=O {cls:=.type "list",data:=.seq its.toArray n}) (c:f {cls:=.type "list",data:=.seq its.toArray n}={cls:=.type "list",data:=.seq its'.toArray n'}) (r:Vals ys its') (i:ys.length<=sizeLine) (t:Nat):Inv X gb σ (kZ H p<|.lst ys) {s with heap:=s.heap.update p f,toks:=t}:=by
 have e:(s.heap.update p f).get? p=O {cls:=.type "list",data:=.seq its'.toArray n'}:=by rw[l7 f d (by rw[c]<;>rfl),c]
 refine I.write (x:=p) (e:=p) (by rw[h];trivial) (.inl Z) (λb u j q=>(E8 _ _<|U3 j).trans q) ⟨_,e⟩ ?_;exact⟨i,its',n',r,e⟩
def KH:V->V->V->Hp->(Hp->Prop)->Prop:=λo i v H Q=>∃p c k j,o=.ref p/\i=.int k/\H p=O (.lst c)/\Jw c.length k=O j/\Q (kZ H p<|.lst<|c.set j v)
theorem DF:ZL X KH:=by
 intro gb s σ H o i v M P u Q I y B C h;obtain⟨p,F,k,j,rfl,rfl,l,G,q⟩:=h;cases y;obtain⟨t,rfl⟩:=B;obtain⟨its,n,r,d,L⟩:=I.lst l;obtain⟨c,R,m,w⟩:=Fz G;have hl:=r.length;have Y:=YV;have x:Inv X gb σ (kZ H p<|.lst<|F.set j v) {s with heap:=s.heap.update p (W2 (·.setIfInBounds j u))}:=I.lstUpd l d (aq its n j u) (r.set C j) (by rw[j5];exact L) s.toks;by_cases h0:0<=k
 .have e:k.toNat=j:=by
   rw[Ii h0 w]at c;exact Z1 c
  exact PySem.W.ki_setAt d h0 (by omega) (by rw[P0,<-hl];exact w) (by rw[e];exact⟨_,x,q⟩)
 .have e:(k+(its.toArray.size:Int)).toNat=j:=by
   rw[Di (by omega) m]at c;rw[P0,<-hl];exact Z1 c
  exact PySem.W.ki_setBack d (by omega) (by rw[P0,<-hl];exact m) (by omega) (by rw[e];exact⟨_,x,q⟩)
theorem oG(lo hi:Yi Int)(n:Nat):(Ke lo hi U n).1=((HT.sIx n 0 lo:Nat):Int)/\(Ke lo hi U n).2.1=((HT.sIx n n hi:Nat):Int)/\(Ke lo hi U n).2.2=1:=by
 refine⟨?_,?_,Z⟩
 .cases lo with
  |none=>simp[Ke,HT.sIx]
  |some i =>
   simp only[Ke,HT.sIx,mX,show (1:Int) > 0 by decide,if_true];by_cases h:i<0
   .simp only[h,if_true]<;>omega
   .simp only[h,if_false]<;>omega
 .cases hi with
  |none=>simp[Ke,HT.sIx]
  |some i =>
   simp only[Ke,HT.sIx,mX,show (1:Int) > 0 by decide,if_true];by_cases h:i<0
   .simp only[h,if_true]<;>omega
   .simp only[h,if_false]<;>omega
theorem nH(its:Up)(lo hi:Yi Int):slicePick its.toArray lo hi U=((its.drop<|HT.sIx its.length 0 lo).take<|HT.sIx its.length its.length hi-HT.sIx its.length 0 lo).toArray:=by obtain⟨c,d,e⟩:=oG lo hi its.toArray.size;unfold slicePick;rw[c,d,e];simp only[sliceRange_one,pick_run,P0]<;>rfl
def cC(K:B0):V->Yi Int->Yi Int->Hp->VK->Prop:=λx lo hi H Q=>∃a c,x=.ref a/\SqL K H a c/\∀p,H p=U->Q (.ref p) (kZ H p<|.lst<|QK c lo hi)
theorem pG:pT X (cC X.K):=by intro gb s σ H x v t w lo hi y Q I e i j k h;obtain⟨a,c,rfl,hx,q⟩:=h;cases e;obtain⟨its,r,d,l⟩:=I.list hx;have m:=r.length;refine⟨"list",_,slot_list_getitem.lookup,d.isList.typeIs,?_⟩;refine Ag d.isList i j k .none (by simp) ?_ (by rw[P0]<;>omega);rw[nH,<-m];refine⟨.ref s.heap.objs.size,_,I.laid (t':=s.toks) (o:=.lst<|QK c lo hi) (λb B q=>g0 _ q) (A0 _) ?_,Z,q _<|I.hok.fresh<|A0 _⟩;exact⟨q0 (tV c lo hi) l,_,0,(r.drop<|HT.sIx c.length 0 lo).take<|HT.sIx c.length c.length hi-HT.sIx c.length 0 lo,L0 _ Z⟩
noncomputable def nW:V->Bool
 | .non=>Ul
 | .bl _=>Ul
 | .int _=>Ul
 | .str _=>Ul
 |_=>Um
noncomputable def eC:V->V->Bool
 | .non,.non=>Ul
 | .bl a,.bl b=>a==b
 | .bl a,.int b=>(if a then 1 else 0)==b
 | .int a,.bl b=>a==(if b then 1 else 0)
 | .int a,.int b=>a==b
 | .str a,.str b=>a==b
 |_,_=>Um
theorem uM(d:RelV y u)(c:RelV x v)(i:nW y=Ul)(e:nW x=Ul):SeqAt.EqAt A s u v (eC y x):=by
 cases y with
 |non =>
  cases d;cases x with
  |non=>cases c;exact SeqAt.EqAt.same _
  |bl b=>cases c;exact SeqAt.EqAt.none_bool b
  |int b=>obtain⟨t,rfl⟩:=c;exact SeqAt.EqAt.none_int b t
  |str b=>obtain⟨t,rfl⟩:=c;exact SeqAt.EqAt.none_str b t
  |_=>exact absurd (show Um=Ul from e) X0
 |bl a =>
  cases d;cases x with
  |non=>cases c;exact SeqAt.EqAt.bool_none a
  |bl b=>cases c;exact SeqAt.EqAt.bool_bool a b
  |int b=>obtain⟨t,rfl⟩:=c;exact SeqAt.EqAt.bool_int a b t
  |str b=>obtain⟨t,rfl⟩:=c;exact SeqAt.EqAt.bool_str a b t
  |_=>exact absurd (show Um=Ul from e) X0
 |int a =>
  obtain⟨t',rfl⟩:=d;cases x with
  |non=>cases c;exact SeqAt.EqAt.int_none a t'
  |bl b=>cases c;exact SeqAt.EqAt.int_bool a t' b
  |int b=>obtain⟨t,rfl⟩:=c;exact SeqAt.EqAt.int_int a t' b t
  |str b=>obtain⟨t,rfl⟩:=c;exact SeqAt.EqAt.int_str a t' b t
  |_=>exact absurd (show Um=Ul from e) X0
 |str a =>
  obtain⟨t',rfl⟩:=d;cases x with
  |non=>cases c;exact SeqAt.EqAt.str_none a t'
  |bl b=>cases c;exact SeqAt.EqAt.str_bool a t' b
  |int b=>obtain⟨t,rfl⟩:=c;exact SeqAt.EqAt.str_int a t' b t
  |str b=>obtain⟨t,rfl⟩:=c;exact SeqAt.EqAt.str_str a t' b t
  |_=>exact absurd (show Um=Ul from e) X0
 |_=>exact absurd (show Um=Ul from i) X0
noncomputable def gC(x:V)(u:Bb):Bool:=match u with
 | .none=>eC .non x
 | .bool b=>eC (.bl b) x
 | .int i _=>eC (.int i) x
 | .str z _=>eC (.str z) x
 |_=>Um
theorem Kw(r:RelV y u)(f:nW y=Ul):gC x u=eC y x:=by
 cases y with
 |non=>cases r;rfl
 |bl b=>cases r;rfl
 |int i=>obtain⟨t,rfl⟩:=r;rfl
 |str z=>obtain⟨t,rfl⟩:=r;rfl
 |_=>exact absurd (show Um=Ul from f) X0
theorem qG{x:V}:∀{c:List V}{us:Up},Vals c us->c.all nW=Ul->us.any (gC x)=c.any λy=>eC y x
 |_,_,.nil,_=>rfl
 |y::c,u::us,.cons r t,f=>by rw[V9,X1]at f;rw[i7,i7,Kw r f.1,qG t f.2]
theorem fU{x:V}{v:Bb}(e:RelV x v)(i:nW x=Ul):∀{d:List V}{us:Up},Vals d us->d.all nW=Ul->∀u∈us,SeqAt.EqAt A s u v (gC x u)
 |_,_,.nil,_=>λu c=>by cases c
 |y::d,u::us,.cons r t,f=>λj c=>by
  rw[V9,X1]at f;rcases T0.mp c with rfl|c
  .rw[Kw r f.1];exact uM r e f.1 i
  .exact fU e i t f.2 j c
noncomputable def uP(x:V)(c:List V):Bool:=c.any λy=>eC y x
def qA(K:B0)(ym:Bool):R2:=λx y H Q=>∃p c,y=.ref p/\(SqL K H p c\/SqT K H p c)/\nW x=Ul/\c.all nW=Ul/\Q (.bl<|if ym then !uP x c else uP x c) H
theorem yx:OpR X (Bc .In) (qA X.K Um):=by
 intro gb s σ H x y v u Q I e j h;obtain⟨p,l,rfl,c,i,fs,q⟩:=h;cases j;rcases c with c|c
 .obtain⟨its,r,d,k⟩:=I.list c;refine SeqAt.in_listAt (gC x) d.isList (λw hw=>fU e i r fs w<|by simpa using hw) ⟨.bl _,H,I,Z,?_⟩;rw[show its.toArray.any (gC x)=its.any (gC x) by simp,qG r fs];exact q
 .obtain⟨its,r,d,k⟩:=I.tuple c;refine SeqAt.in_tupleAt (gC x) d (λw hw=>fU e i r fs w<|by simpa using hw) ⟨.bl _,H,I,Z,?_⟩;rw[show its.toArray.any (gC x)=its.any (gC x) by simp,qG r fs];exact q
theorem rG:nZ X (.builtin "len") (λj H Q=>∃p ys,j=[.ref p]/\(SqL X.K H p ys\/SqT X.K H p ys)/\Q (.int ys.length) H):=by
 intro gb s σ H j us Q I r h;obtain⟨p,ys,rfl,c,q⟩:=h;obtain⟨u,rfl,k⟩:=iJ r;cases k;have m:=YV;rcases c with c|c
 .obtain⟨its,d,e,l⟩:=I.list c;have i:=d.length;exact Calls.call_len_list e.isList (by simp only[P0]<;>omega) ⟨.int ys.length,H,I.tok _,⟨s.toks+1,by rw[P0,i]⟩,q⟩
 .obtain⟨its,d,e,l⟩:=I.tuple c;have i:=d.length;exact len_tuple e (by simp only[P0]<;>omega) ⟨.int ys.length,H,I.tok _,⟨s.toks+1,by rw[P0,i]⟩,q⟩
theorem sG:nZ X (.type "list") (λv H Q=>∃p ys,v=[.ref p]/\(SqL X.K H p ys\/SqT X.K H p ys)/\∀l,H l=U->Q (.ref l) (kZ H l<|.lst ys)):=by
 intro gb s σ H v us Q I r h;obtain⟨p,ys,rfl,i,q⟩:=h;obtain⟨u,rfl,y⟩:=iJ r;cases y;have fin:∀(its:Up),Vals ys its->ys.length<=sizeLine->∀(h':Dc) (c:Nat),(∀b x,s.heap.get? b=O x->h'.get? b=O x) ->
   h'.get? s.heap.objs.size=O {cls:=.type "list",dict:=U,data:=.seq its.toArray c,slots:=#[]}->EP X gb σ Q (.ref s.heap.objs.size) {s with heap:=h'}:=λits d j h' c kp e =>
  ⟨.ref s.heap.objs.size,_,I.laid (t':=s.toks) kp (A0 _)<|show ObjOk X.prog X.w _ h' _ (.lst ys) from ⟨j,its,c,d,e⟩,Z,q _<|I.hok.fresh<|A0 _⟩;rcases i with i|i
 .obtain⟨its,d,k,j⟩:=I.list i;have B:=d.length;obtain⟨o,m,t,n,hd⟩:=k.isList;exact call_list_seq p (.inl Z) m t hd (λh' c kp e=>fin its d j h' c kp e) (by simp only[P0]<;>omega)
 .obtain⟨its,d,k,j⟩:=I.tuple i;have B:=d.length;obtain⟨o,m,t,n,hd⟩:=k;exact call_list_seq p (.inr Z) m t hd (λh' c kp e=>fin its d j h' c kp e) (by simp only[P0]<;>omega)
theorem oH:nZ X (.type "tuple") (λj H Q=>∃p ys,j=[.ref p]/\((SqL X.K H p ys/\∀l,H l=U->Q (.ref l) (kZ H l<|.tup ys))\/(SqT X.K H p ys/\Q (.ref p) H))):=by
 intro gb s σ H j us Q I r h;obtain⟨p,ys,rfl,h⟩:=h;obtain⟨u,rfl,t⟩:=iJ r;cases t;rcases h with⟨c,q⟩|⟨c,q⟩
 .obtain⟨its,d,i,k⟩:=I.list c;have x:=d.length;refine call_tuple_list i.isList (λh' kp=>?_) (by simp only[P0]<;>omega);have m:Inv X gb σ H {s with heap:=h'}:=I.kept (t':=s.toks) kp;have v:Inv X gb σ (kZ H h'.objs.size<|.tup ys) {s with heap:=h'.push {cls:=.type "tuple",data:=.seq its.toArray}}:=m.laid (t':=s.toks) (λb o e=>g0 _ e) (A0 _)<|show ObjOk X.prog X.w _ _ _ (.tup ys) from ⟨k,its,d,IsTupD.new _ _⟩;exact⟨.ref h'.objs.size,_,v,Z,q _<|m.hok.fresh<|A0 _⟩
 .obtain⟨its,d,i,k⟩:=I.tuple c;exact call_tuple_same i ⟨.ref p,H,I,Z,q⟩
def rA(K:B0)(T:String)(x:V)(H:Hp):Prop:=match x with
 | .str _=>T = "str"
 | .int _=>T = "int"
 | .ref p=>(T = "list"/\∃d,SqL K H p d)\/(T = "tuple"/\∃o,K.lookup p=O o/\o.cls=.type "tuple"/\o.dict=U) \/
   (T = "dict"/\((∃c,H p=O (.dK c))\/∃c,H p=O (.dT c)))\/(T = "set"/\∃S n,H p=O (.set S n))
 |_=>Al
theorem Lw{T:String}(I:Inv X gb σ H s)(r:RelV x v)(ty:rA X.K T x H):s.TypeIs v T/\∀a,v=.ref a->∃l,s.heap.get? a=O l/\l.dict=none:=by
 cases x with
 |str z=>obtain⟨t,rfl⟩:=r;cases (show T = "str" from ty);exact⟨typeIs_str s z t,λ_ e=>nomatch e⟩
 |int i=>obtain⟨t,rfl⟩:=r;cases (show T = "int" from ty);exact⟨Ue s i t,λ_ e=>nomatch e⟩
 |ref p =>
  cases r;rcases ty with⟨rfl,y,q⟩|⟨rfl,o,d,w,hd⟩|⟨rfl,d⟩|⟨rfl,S,n,d⟩
  .obtain⟨its,_,m,_⟩:=I.list q;refine⟨m.isList.typeIs,λa e=>?_⟩;cases e;obtain⟨o,n,e,c,hd,_⟩:=m;exact⟨o,e,hd⟩
  .refine⟨⟨o,I.kIn p o d,w⟩,λa e=>?_⟩;cases e;exact⟨o,I.kIn _ o d,hd⟩
  .have z:∃o,s.heap.get? p=O o/\o.ExactDict:=by
    rcases d with⟨j,d⟩|⟨j,d⟩
    .obtain⟨_,_,_,_,o,_,_,e,ex,_⟩:=I.hok p _ d;exact⟨o,e,ex⟩
    .obtain⟨_,_,_,_,o,_,_,e,ex,_⟩:=I.hok p _ d;exact⟨o,e,ex⟩
   obtain⟨o,e,ex⟩:=z;refine⟨⟨o,e,ex.1⟩,λa k=>?_⟩;cases k;exact⟨o,e,ex.2.1⟩
  .obtain⟨o,_,_,_,e,ex,_⟩:=I.hok p _ d;refine⟨⟨o,e,ex.1⟩,λa k=>?_⟩;cases k;exact⟨o,e,ex.2.1⟩
 |_=>exact False.elim ty
def vP(K:B0)(T:String)(r:V->List V->Hp->VK->Prop)(to:TE):TE:=λσ H Q=>to σ H λx c=>rA K T x c/\r x [] c Q
def p_(K:B0)(T:String)(r:V->List V->Hp->VK->Prop)(to:TE)(t:TA):TE:=λσ H Q=>to σ H λx c=>rA K T x c/\t σ c λd e=>r x d e Q
variable {o e:Vb}{es:Bl}{to:TE}{t:TA}{ae lc:Pos}{T id:String}
theorem vM(j:PlainAttrs T)(c:Slot T name id)(k:Vh (.builtin id)=pure (.type "method_descriptor"))(l:qT X id r)(m:PE X o to)
  (q:Ee o name X.env (Wc o X.env)=Wc o X.env:=by rfl) (w:(ae.endLine==lc.line)=true:=by rfl):PE X (.Call (.Attribute o name ae) [] [] lc) (vP X.K T r to):=by
 intro gb s σ H Q I h;refine wpAny_Call_method0_late q w<|xZ (m gb s σ H _ I h) λv y ⟨x,B,d,i,ty,C⟩=>?_;obtain⟨F,G⟩:=Lw d i ty;exact⟨T,id,j,c,k,F,G,Calls.callWith_builtin rfl<|PySem.evalArgs_none<|l gb y σ B x [] v [] Q d i .nil C⟩
theorem wP(l:PlainAttrs T)(d:Slot T name id)(m:Vh (.builtin id)=pure (.type "method_descriptor"))(q:qT X id r)(w:PE X o to)(y:PA X (e::es) t)
  (B:Ee o name X.env (Wc o X.env)=Wc o X.env:=by rfl)
  (C:((Sc lc<|Pb (e::es) X.env).all (λx=>!x.1)&&(Xi lc<|Zg [] X.env).all (λx=>x.1.isSome)
    && Uo ((e::es).length+([]:List Qf).length+(if ([]:List Qf).isEmpty then 0 else 1)<30))=true:=by rfl)
  (F:(ae.endLine==lc.line)=true:=by rfl) (G:Pb (e::es) X.env=(Um,Wc e X.env)::Pb es X.env:=by rfl) (c:(Sc lc<|Pb es X.env).any (·.1)=false:=by rfl) :
  PE X (.Call (.Attribute o name ae) (e::es) [] lc) (p_ X.K T r to t):=by
 intro gb s σ H Q I h;refine wpAny_Call_method_late B C F rfl<|xZ (w gb s σ H _ I h) λv L ⟨x,M,i,j,ty,P⟩=>?_;obtain⟨R,Y⟩:=Lw i j ty;refine⟨T,id,l,d,m,R,Y,?_⟩;have k:=y lc gb L σ M _ i P;rw[G]at k ⊢;refine Calls.callWith_builtin (by show (Um||(Sc lc<|Pb es X.env).any (·.1))=Um;rw[c]<;>rfl)<|Calls.evalArgs_plain ?_;exact xZ k λus s2 ⟨vs,H2,I2,r2,q2⟩=>q gb s2 σ H2 x vs v us Q I2 j r2 q2
end
def sA(X:Cx)(id:String)(r:V->List V->Hp->VK->Prop):Prop :=
 ∀(gb:Ut) (s:Gb) (σ:St) (H:Hp) (x:V) (a:List V) (v:Bb) (us:Up) (Q:VK),Inv X gb σ H s->RelV x v->Vals a us->r x a H Q ->
  Hb (Kb X.prog X.w) X.A (call (.builtin id) (v::us)) (EP X gb σ Q) X.xe s
theorem Vals.one:∀{x:V}{us:Up},Vals [x] us->∃u,us=[u]/\RelV x u
 |_,_,.cons r .nil=>⟨_,Z,r⟩
theorem Vals.zero:∀{us:Up},Vals [] us->us=[]
 |_,.nil=>rfl
theorem Vals.dropLast(h:Vals xs us):Vals xs.dropLast us.dropLast:=by
 induction h with
 |nil=>exact .nil
 |cons r t a =>
  cases t with
  |nil=>exact .nil
  |cons q t'=>exact .cons r a
theorem Vals.reverse(h:Vals xs us):Vals xs.reverse us.reverse:=by
 induction h with
 |nil=>exact .nil
 |cons r t a=>rw[w8,w8];exact Vals.append a<|.cons r .nil
theorem Vals.rep{a:List V}(h:Vals a us):∀k:Nat,Vals (O1 k a).flatten (O1 k us).flatten
 |0=>.nil
 |k+1=>by rw[X4,X4,M6,M6];exact Vals.append h<|Vals.rep h k
theorem bq(l:List α):l.eraseIdx (l.length-1)=l.dropLast:=by
 induction l with
 |nil=>rfl
 |cons a r c =>
  cases r with
  |nil=>rfl
  |cons b r =>
   have e:(a::b::r).length-1=((b::r).length-1)+1:=by have d:(a::b::r).length=r.length+2:=rfl;have i:(b::r).length=r.length+1:=rfl;omega
   rw[e,List.eraseIdx_cons_succ,c];all_goals rfl
theorem UW(its:Up):∀(k:Nat) (a:Up), N8 (λb c=>b++c) a.toArray (O1 k its.toArray)=(a++(O1 k its).flatten).toArray
 |0,a=>by simp
 |k+1,a=>by
  have e:a.toArray++its.toArray=(a++its).toArray:=by simp
  have d:(a++its)++(O1 k its).flatten=a++(O1 (k+1) its).flatten:=by rw[X4,M6,Y2]
  rw[<-d,<-UW its k (a++its),<-e,X4,Y7]
section
variable {l b:Eb}{xs zs:List V}
theorem Inv.lset{f:Zi Bb->Zi Bb}(I:Inv X gb σ H s)(a:H l=O (.lst xs))(e:s.heap.get? l=O {cls:=.type "list",data:=.seq its.toArray n}) (c:f its.toArray=its'.toArray) (d:Vals ys its') (i:ys.length<=sizeLine):Inv X gb σ (kZ H l<|.lst ys) {s with heap:=s.heap.update l (W2 f),toks:=t'}:=by
 have q:=PySem.IsL.update e f;rw[c]at q;refine I.write (x:=l) (e:=l) (by rw[a];exact trivial) (.inl Z) (λm u j k=>(E8 s.heap (W2 f)<|U3 j).trans k) ⟨_,q⟩ ?_;exact⟨i,its',_,d,q⟩
theorem Inv.lnew(I:Inv X gb σ H s)(a:Vals ys its)(c:ys.length<=sizeLine):Inv X gb σ (kZ H s.heap.objs.size<|.lst ys) {s with heap:=s.heap.push {cls:=.type "list",data:=.seq its.toArray},toks:=t'}:=
 I.laid (λ_ _ q=>g0 _ q) (A0 _) ⟨c,its,0,a,L0 _ Z⟩
theorem Inv.fresh(I:Inv X gb σ H s):H s.heap.objs.size=none:=I.hok.fresh<|A0 _
theorem Inv.lstM(I:Inv X gb σ H s)(a:H l=O (.lst xs)):xs.length<=sizeLine/\∃(its:Up) (n:Nat),Vals xs its/\xs.length=its.length/\s.heap.get? l=O {cls:=.type "list",data:=.seq its.toArray n}:=by obtain⟨z,its,n,r,e⟩:=I.hok l _ a;exact⟨z,its,n,r,r.length,e⟩
theorem EF(h:n<=sizeLine):Q6 n=false:=by unfold Q6;exact Qb (by omega)
end
def Hz:V->List V->Hp->VK->Prop:=λx b H Q=>∃l a y,x=.ref l/\b=[y]/\H l=O (.lst a)/\a.length<sizeLine/\Q .non (kZ H l<|.lst<|a++[y])
theorem AZ:sA X "list.append" Hz:=by intro gb s σ H x i v us Q I b c h;obtain⟨l,j,y,rfl,rfl,a,k,q⟩:=h;cases b;obtain⟨u,rfl,d⟩:=c.one;obtain⟨z,its,n,r,hl,e⟩:=I.lstM a;refine Zc F.slot_list_append ⟨_,e,Z⟩ F.entry_list_append (F.args_list_append_2 _ _) (PySem.list_append l its.toArray n u<|by rw[P0];omega) ⟨e,?_⟩;refine⟨.non,_,I.lset (its':=its++[u]) a e (by simp) (r.append<|.cons d .nil) ?_,Z,q⟩;rw[N0,P3];omega
def Iz:V->List V->Hp->VK->Prop:=λx d H Q=>∃l b a c,x=.ref l/\d=[.ref b]/\H l=O (.lst a)/\H b=O (.lst c)/\a.length+c.length<=sizeLine/\Q .non (kZ H l<|.lst<|a++c)
theorem DY:sA X "list.extend" Iz:=by
 intro gb s σ H x B v us Q I i j h;obtain⟨l,b,C,G,rfl,rfl,d,hB,L,q⟩:=h;cases i;obtain⟨u,rfl,k⟩:=j.one;cases k;obtain⟨z,its,n,r,hl,e⟩:=I.lstM d;obtain⟨M,a,m,t,P,w⟩:=I.lstM hB;have c:its.toArray.size+a.toArray.size<=sizeLine:=by rw[P0,P0];omega
 have y:¬(!its.toArray.isEmpty&&Q6 (its.toArray.size+a.toArray.size))=true:=by rw[EF c,Bool.and_false];exact X0
 refine Zc F.slot_list_extend ⟨_,e,Z⟩ F.entry_list_extend (F.args_list_extend_2 _ _)
  (AutoSeq1.list_extend_list_list_0 l its.toArray n b a.toArray m y (by rw[P0];omega)<|by omega) ⟨e,w,?_⟩;refine⟨.non,_,I.lset (its':=its++a) d e (by simp) (r.append t) ?_,Z,q⟩;rw[N0];omega
def xP:V->List V->Hp->VK->Prop:=λx b H Q=>∃l a y,x=.ref l/\b=[]/\H l=O (.lst a)/\a[a.length-1]?=O y/\Q y (kZ H l<|.lst a.dropLast)
theorem Mw:sA X "list.pop" xP:=by
 intro gb s σ H x m v us Q I d i h;obtain⟨l,t,y,rfl,rfl,c,hy,q⟩:=h;cases d;have a:=i.zero;subst a;obtain⟨z,its,n,r,hl,e⟩:=I.lstM c;obtain⟨u,j,k⟩:=r.get hy;have b:its.toArray[its.toArray.size-1]?=O u:=by show its.toArray[its.length-1]?=O u;rw[<-T5,<-hl];exact j
 refine Zc F.slot_list_pop ⟨_,e,Z⟩ F.entry_list_pop (F.args_list_pop_1 _) (MeetsSeq.list_pop_last l its.toArray n u b<|by rw[P0];omega) ⟨e,?_⟩;refine⟨y,_,I.lset (its':=its.dropLast) c e ?_ r.dropLast ?_,k,q⟩
 .show its.toArray.eraseIdxIfInBounds (its.toArray.size-1)=its.dropLast.toArray;rw[P0,List.eraseIdxIfInBounds_toArray,bq]
 .rw[List.length_dropLast];omega
def wM:R2:=λx y H Q=>∃l b a c,x=.ref l/\y=.ref b/\H l=O (.lst a)/\H b=O (.lst c)/\a.length+c.length<=sizeLine/\∀p,H p=U->Q (.ref p) (kZ H p<|.lst<|a++c)
theorem xM:OpR X (Rc .Add) wM:=by
 intro gb s σ H x y v u Q I c d h;obtain⟨l,b,t,w,rfl,rfl,i,hB,B,q⟩:=h;cases c;cases d;obtain⟨z,its,n,r,hl,e⟩:=I.lstM i;obtain⟨C,a,F,j,G,k⟩:=I.lstM hB;refine PySem.P.add_list e k ?_ (by rw[P0,P0];omega);have m:its.toArray++a.toArray=(its++a).toArray:=by simp
 rw[m];exact⟨.ref _,_,I.lnew (t':=s.toks) (r.append j) (by rw[N0];omega),Z,q _ I.fresh⟩
def yM:R2:=λx y H Q=>∃l k a,x=.ref l/\y=.int k/\H l=O (.lst a)/\-(2 ^ 63)<=k/\k<2 ^ 63/\a.length*k.toNat<=sizeLine /\
 ∀p,H p=U->Q (.ref p) (kZ H p<|.lst (O1 k.toNat a).flatten)
theorem Jz(a:List α)(k:Nat):(O1 k a).flatten.length=k*a.length:=by
 induction k with
 |zero=>simp
 |succ k b=>rw[X4,M6,N0,b,n8,k9]
theorem zM:OpR X (Rc .Mult) yM:=by
 intro gb s σ H x y v u Q I w B h;obtain⟨l,k,Y,rfl,rfl,C,G,L,j,q⟩:=h;cases w;obtain⟨t,rfl⟩:=B;obtain⟨z,its,n,r,hl,e⟩:=I.lstM C;have M:its.toArray.size*k.toNat<=sizeLine:=by rw[P0,<-hl];exact j
 have b:¬its.toArray.size*k.toNat > (2 ^ 63-1) / 8:=by
  have:(sizeLine:Nat)<=(2 ^ 63-1) / 8:=by decide
  omega
 have c:¬(!Builtin.List.listFitsIndex k)=true:=by rw[fitsIndex_both G L];exact X0
 have P:¬Q6 (its.toArray.size*k.toNat)=true:=by rw[EF M];exact X0
 have R:N8 (λd i=>d++i) #[] (O1 (if its.toArray.isEmpty=Ul then 0 else k.toNat) its.toArray)=(O1 k.toNat its).flatten.toArray:=by
  have f0:∀m:Nat,N8 (λd i=>d++i) #[] (O1 m its.toArray)=(O1 m its).flatten.toArray:=λm=>by have:=UW its m [];rw[a9]at this;exact this
  rw[f0];cases its with
  |nil=>simp
  |cons a r'=>rw[if_neg<|by simp]
 refine Zd (T:="list") (U:="int") (by decide) ⟨_,e,Z⟩ (λs'=>Ue s' k t) noFill_list_mul F.fills_int_mul F.slot_int_rmul repeat_list F.slot_int_index.lookup
  (Zc F.slot_int_rmul (Ue s k t) F.entry_int_rmul (F.args_int_rmul_2 _ _) (int___rmul___int_list k t l its.toArray n)
    ⟨e,Z,⟨_,e,Z⟩,Zc F.slot_list_mul ⟨_,e,Z⟩ F.entry_list_mul (F.args_list_mul_2 _ _) (AutoListH.list___mul___list_int_3 l its.toArray n k t c b P) ⟨e,?_⟩⟩);rw[R];exact⟨.ref _,_,I.lnew (t':=s.toks) (r.rep k.toNat) (by rw[Jz,pQ];exact j),Z,q _ I.fresh⟩
section
variable {w:Wb}
set_option maxRecDepth 100000 in
end
section
variable {κ:Type}[DecidableEq κ]
noncomputable def tG(a:List (κ×V))(k:κ):Yi V:=(a.find? λb=>decide<|b.1=k).map (·.2)
noncomputable def UJ(a:List (κ×V))(k:κ)(v:V):List (κ×V):=if (a.any λb=>decide<|b.1=k)=Ul then a.map (λb=>if b.1=k then (b.1,v) else b) else a++[(k,v)]
theorem Nw{p:κ×V}{r:List (κ×V)}(e:p.1=k):tG (p::r) k=O p.2:=by simp[tG,List.find?_cons,e]
theorem Ow{p:κ×V}{r:List (κ×V)}(e:¬p.1=k):tG (p::r) k=tG r k:=by simp[tG,List.find?_cons,e]
theorem FF(k:κ):∀a:List (κ×V),(a.any λb=>decide<|b.1=k)=(tG a k).isSome
 |[]=>rfl
 |p::r=>by
  rw[i7];by_cases e:p.1=k
  .simp only[Nw e,Sb e,Bool.true_or,bX]
  .rw[Ow e,Qb e,Bool.false_or];exact FF k r
theorem uV(a:List (κ×V))(k:κ)(v:V):(UJ a k v).length<=a.length+1:=by
 unfold UJ;split
 .rw[j0];omega
 .rw[N0,U1,c7];omega
theorem Pw{k:κ}(v:V)(h:tG kvs k=U):UJ kvs k v=kvs++[(k,v)]:=by unfold UJ;rw[FF,h];exact if_neg (by decide)
theorem KV.any(r:KV kvs b)(k:κ):(kvs.any λa=>decide<|a.1=k)=b.any λa=>Uo (a.1=k):=by
 unfold KV at r;induction r with
 |nil=>rfl
 |cons h t c=>rw[i7,i7,c,h.1]
theorem KV.repl(r:KV kvs vs)(k:κ){y:V}{u:Bb}(c:RelV y u):KV (kvs.map λa=>if a.1=k then (a.1,y) else a) (vs.map λa=>if a.1=k then (a.1,u) else a):=by
 unfold KV at r ⊢;induction r with
 |nil=>exact .nil
 |@cons p q j l h t d =>
  rw[E1,E1];refine .cons ?_ d;obtain⟨b,i⟩:=h;by_cases e:p.1=k
  .rw[Ib e,Ib<|b.symm.trans e];exact⟨b,c⟩
  .rw[if_neg e,if_neg<|λz=>e<|b.trans z];exact⟨b,i⟩
theorem KV.put(r:KV kvs vs)(k:κ){y:V}{u:Bb}(a:RelV y u):KV (UJ kvs k y) (stored vs k u):=by
 unfold UJ stored;rw[r.any k];by_cases e:(vs.any λb=>decide<|b.1=k)=Ul
 .rw[Ib e,Ib e];exact r.repl k a
 .rw[if_neg e,if_neg e];exact Paired.snoc r ⟨Z,a⟩
theorem KV.length{vs:List (κ×Bb)}(r:KV kvs vs):kvs.length=vs.length:=Paired.length r
end
theorem Kz{P:Cc}{w:Wb}{k:wZ}(r:RelV (kV k) u):(jZ P w).is k u=true:=by
 cases k with
 |inl i=>obtain⟨t,e⟩:=(show ∃t,u=h8 i t from r);subst e;exact yF P w i t
 |inr x=>obtain⟨t,e⟩:=(show ∃t,u=Value.str x t from r);subst e;exact zF P w x t
theorem LH{P:Cc}{w:Wb}:∀{ks:List wZ}{us:Up},Vals (ks.map kV) us->ItemsAre (jZ P w) ks us
 |[],_,r=>by rw[l9]at r;cases r;exact .nil
 |k::ks,_,r=>by
  rw[E1]at r;cases r with
  |cons h t=>exact .cons (Kz h)<|LH t
abbrev KT(H:Hp):List (List wZ×V)->List (List wZ×Eb×Bb)->Prop:=Paired λp q=>p.1=q.1/\H q.2.1=O (.tup<|p.1.map kV)/\RelV p.2 q.2.2
section
variable {P:Cc}{w:Wb}{a:Eb}
theorem EI{u:HO}(ok:HOk P w H h)(e:Rd H a u):ObjOk P w H h a u:=e.ok ok
theorem Qw{b:List (wZ×V)}(ok:HOk P w H h)(e:Rd H a (.dK b)):b.length<=sizeLine/\(a==Ac)=Um/\∃c,KV b c/\h.DictOf (jZ P w) a c:=show ObjOk P w H h a (.dK b) from EI ok e
theorem yP{b:List (wZ×V)}(ok:HOk P w H h)(e:H a=O (.dK b)):b.length<=sizeLine/\(a==Ac)=Um/\∃c,KV b c/\h.DictOf (jZ P w) a c:=Qw ok<|.inl e
theorem AM{ks:List wZ}(ok:HOk P w H h)(e:H a=O (.tup<|ks.map kV)):(Je<|jZ P w).is h ks a:=by obtain⟨_,its,r,o,b,c,n,d,_⟩:=(show ObjOk P w H h a (.tup<|ks.map kV) from ok a _ e);exact⟨o,its.toArray,n,b,c,d,by simpa using LH r⟩
theorem zP{b:List (List wZ×V)}(ok:HOk P w H h)(e:Rd H a (.dT b)):b.length<=sizeLine/\(a==Ac)=Um /\ ∃c,KT H b c/\h.DictOfH (Je<|jZ P w) a c:=by
 obtain⟨z,y,c,r,o,i,j,k,v,B,C,F⟩:=(show ObjOk P w H h a (.dT b) from EI ok e);refine⟨z,y,c,r,o,i,j,k,v,B,C,λx hx=>?_,F⟩;have all:∀{l:List (List wZ×V)}{m:List (List wZ×Eb×Bb)},KT H l m->∀x∈m,(Je<|jZ P w).is h x.1 x.2.1:=by
  intro l m q;induction q with
  |nil=>intro x hx;exact nomatch hx
  |@cons p q I L d t G =>
   intro x hx;rcases T0.mp hx with e|hx
   .subst e;exact AM ok (by rw[<-d.1];exact d.2.1)
   .exact G x hx
 exact all r x hx
end
section
variable {a:Eb}{y v:V}{r:Bb}{o:Yi V}
theorem Inv.big(I:Inv X gb σ H s):Ac<s.heap.objs.size:=by have h:Ub<s.heap.objs.size:=(I.mod.glob.keeps I.bk).lt;exact L7 (by decide) h
theorem Lz(I:Inv X gb σ H s)(c:dP (H a))(d:E3 a s.heap h')(i:∃q,h'.get? a=O q)(new:ObjOk X.prog X.w (kZ H a ob) h' a ob):Inv X gb σ (kZ H a ob) {s with heap:=h',toks:=t'}:=
 I.write (x:=a) (e:=a) c (.inl Z) (λb q j z=>(d.2 b j).trans z) i new
theorem BM{P:Cc}{w:Wb}{b:List (wZ×V)}{c:List (wZ×Bb)}(z:b.length<=sizeLine)(hd:(a==Ac)=Um)(d:KV b c)(e:h'.DictOf (jZ P w) a c):ObjOk P w H' h' a (.dK b):=⟨z,hd,c,d,e⟩
end
section
variable {a:Eb}{kvs:List (wZ×V)}{k:wZ}
end
def Rw(i:Vb):Prop:=∀a b,Yg i Um a b=operate [a,b] (Cf a b)
theorem Mz{T id:String}(hl:Te (.type T) "__getitem__"=pure (O<|.builtin id)) (q:Rw l)(h:Hb (Kb prog w) A (Wc b env) (λo d=>Hb (Kb prog w) A (Wc l env) (λi a=>a.TypeIs o T/\Hb (Kb prog w) A (Cf o i) Q E a) E d) E s):Hb (Kb prog w) A (Wc (.Subscript b l pos) env) Q E s:=by
 refine Zh<|wpAny_mono h (λo d j=>wpAny_mono j (λi a c=>?_) λ_ _ x=>x) λ_ _ x=>x;obtain⟨m,c⟩:=c;unfold Yf;refine Ab ?_;rw[getitemInPython_of_ne m.not_modules];refine Ab<|Fe m hl ?_;have fin:Hb (Kb prog w) A (Yg l Um o i) (λr e=>Hb (Kb prog w) A (letTemporaryGo b o r >>= λ_=>pure r) Q E e) E a:=by rw[q o i];exact wpAny_operating<|wpAny_mono c (λr e k=>Ab<|wpAny_letTemporaryGo<|Db k) λ_ _ x=>x
 first
  |exact Db<|Ab fin
  |exact Ab<|Db<|Ab fin
  |exact Ab fin
section
variable {o i e value:Vb}{pos ve:Pos}{td ty tv:TE}
end
theorem Sw(h:Dc)(a:Ac<h.objs.size):ObjOk P w H (h.push {cls:=.type "dict",data:=.dict #[]}) h.objs.size (.dK []):=⟨V2 _,beq_eq_false_iff_ne.mpr<|U3<|U0 a,[],.nil,uQ h⟩
theorem Tw(h:Dc)(a:Ac<h.objs.size):ObjOk P w H (h.push {cls:=.type "dict",data:=.dict #[]}) h.objs.size (.dT []):=⟨V2 _,beq_eq_false_iff_ne.mpr<|U3<|U0 a,[],.nil,_,#[],0,L0 _ Z,⟨Z,Z,Z⟩,Z,Z,List.nodup_nil⟩
def Uw:TE:=λ_ H Q=>∀p,H p=U->Q (.ref p) (kZ H p<|.dT [])
section
variable {pos:Pos}
theorem Vw:PE X (.Dict [] [] pos) Uw:=λgb s σ H Q I h=>wpAny_Dict_empty ⟨.ref s.heap.objs.size,_,I.laid (a:=s.heap.objs.size) (o:=.dT []) (t':=s.toks) (λ_ _ q=>g0 _ q) (A0 _)<|Tw s.heap I.big,Z,h _<|I.hok.fresh<|A0 _⟩
end
noncomputable def uG:List (TE×TE)->St->Hp->(List (V×V)->Hp->Prop)->Prop
 |[],_,H,Q=>Q [] H
 |(a,b)::r,σ,H,Q=>a σ H λx c=>b σ c λy d=>uG r σ d λe i=>Q ((x,y)::e) i
abbrev VV:List (V×V)->List (Bb×Bb)->Prop:=Paired λp q=>RelV p.1 q.1/\RelV p.2 q.2
def rT(X:Cx)(pos:Pos)(keys:List (Yi Vb))(b:Bl)(c:List (TE×TE)):Prop :=
 ∀(gb:Ut) (s:Gb) (σ:St) (H:Hp) (Q:List (V×V)->Hp->Prop),Inv X gb σ H s->uG c σ H Q ->
  Hb (Kb X.prog X.w) X.A (evalPairs<|pairTrees keys b X.env pos) (λd s'=>∃a H',Inv X gb σ H' s'/\VV a d/\Q a H') X.xe s
theorem Nz:rT X pos [] [] []:=λgb s σ H Q I h=>pairTrees_nil_walk ⟨[],H,I,.nil,h⟩
theorem iK(b:PE X k tk)(c:PE X v tv)(d:rT X pos ks vs qt):rT X pos (O k::ks) (v::vs) ((tk,tv)::qt):=λgb s σ H Q I h =>
 pairTrees_cons_walk (xZ (b gb s σ H _ I h) λu e ⟨x,i,j,l,m⟩=>xZ (c gb e σ i _ j m) λP q ⟨y,t,w,B,C⟩=>xZ (d gb q σ t _ w C) λR Y ⟨F,G,L,a,M⟩=>⟨(x,y)::F,G,L,.cons ⟨l,B⟩ a,M⟩)
noncomputable def aY(a d:List (wZ×V)):List (wZ×V):=d.foldl (λb c=>UJ b c.1 c.2) a
theorem KV.merge:∀{c:List (wZ×V)}{d:List (wZ×Bb)}{a:List (wZ×V)}{b:List (wZ×Bb)},KV c d->KV a b->KV (aY a c) (merged b d):=by
 intro c d a b r;unfold KV at r;induction r generalizing a b with
 |nil=>intro q;exact q
 |@cons p q k l h t i =>
  intro j;have e:KV (UJ a p.1 p.2) (stored b q.1 q.2):=by have:=j.put p.1 h.2;rw[<-h.1];exact this
  exact i e
theorem UY:∀(b a:List (wZ×V)),(aY a b).length<=a.length+b.length
 |[],a=>by show a.length<=a.length+0;omega
 |p::r,a=>by have c:=UY r<|UJ a p.1 p.2;have d:=uV a p.1 p.2;show (aY (UJ a p.1 p.2) r).length<=_;rw[U1];omega
theorem gU{P:Cc}{w:Wb}:∀{d:List (wZ×V)}{i:List (Bb×Bb)},VV (d.map λj=>(kV j.1,j.2)) i->∃e,Carries (jZ P w) i e/\KV d e
 |[],_,r=>by rw[l9]at r;cases r;exact⟨[],True.intro,.nil⟩
 |p::d,_,r=>by
  rw[E1]at r;cases r with
  |@cons a b as bs h t=>obtain⟨e,c,q⟩:=gU (P:=P) (w:=w) t;obtain⟨k,b2⟩:=b;exact⟨(p.1,b2)::e,⟨Kz h.1,Z,c⟩,.cons ⟨Z,h.2⟩ q⟩
def Ww(d:List (TE×TE)):TE:=λσ H Q=>∀p,H p=U->uG d σ (kZ H p<|.dK []) λe b=>b p=O (.dK [])/\∃a:List (wZ×V),e=a.map (λc=>(kV c.1,c.2))/\a.length<=15/\Q (.ref p) (kZ b p<|.dK<|aY [] a)
theorem Oz(h:rT X pos keys kg qt)(k:keys.all (·.isSome)=Ul)(hl:keys.length=kg.length)(h0:keys≠[])(d:keys.length<=15):PE X (.Dict keys kg pos) (Ww qt):=by
 intro gb s σ H Q I q;have l:=I.hok.fresh<|A0 s.heap.objs.size;have m:=I.laid (a:=s.heap.objs.size) (o:=.dK []) (h':=s.heap.push {cls:=.type "dict",data:=.dict #[]}) (t':=s.toks) (λ_ _ q=>g0 _ q) (A0 _)<|Sw s.heap I.big;refine wpAny_Dict_walk (knd:=jZ X.prog X.w) k hl h0 d<|xZ (h gb _ σ _ _ m<|q _ l) λY s2 ⟨ps,H2,j,i,e,b,t,lk,v⟩=>?_;subst t;obtain⟨x,c,y⟩:=gU (P:=X.prog) (w:=X.w) i;obtain⟨z,hd,B,C,F⟩:=yP j.hok e;cases C;refine⟨x,c,F,λh' pi G=>⟨.ref s.heap.objs.size,_,?_,Z,v⟩⟩;have L:(aY [] b).length<=sizeLine:=by have M:=UY b [];rw[c7]at M;rw[sizeLine_eq];omega
 have R:∃q,h'.get? s.heap.objs.size=O q:=let ⟨q,_,_,hq,_⟩:=pi;⟨q,hq⟩;exact Lz j (by rw[e];exact True.intro) G R<|BM L hd (y.merge .nil) pi
structure M1(X:Cx)(o:Vb)(m:Str)(ae:Pos)(e:Vb)(lc:Pos):Prop where
 base:Ee o m X.env (Wc o X.env)=Wc o X.env
 few:((Sc lc<|Pb [e] X.env).all (λx=>!x.1)&&(Xi lc<|Zg [] X.env).all (λx=>x.1.isSome)
   && Uo (([e]:Bl).length+([]:List Qf).length+(if ([]:List Qf).isEmpty then 0 else 1)<30))=Ul
 line:(ae.endLine==lc.line)=Ul
 trees:Sc lc (Pb [e] X.env)=[(Um,Wc e X.env)]
structure M2(X:Cx)(o:Vb)(m:Str)(ae:Pos)(e f:Vb)(lc:Pos):Prop where
 base:Ee o m X.env (Wc o X.env)=Wc o X.env
 few:((Sc lc<|Pb [e,f] X.env).all (λx=>!x.1)&&(Xi lc<|Zg [] X.env).all (λx=>x.1.isSome)
   && Uo (([e,f]:Bl).length+([]:List Qf).length+(if ([]:List Qf).isEmpty then 0 else 1)<30))=Ul
 line:(ae.endLine==lc.line)=Ul
 trees:Sc lc (Pb [e,f] X.env)=[(Um,Wc e X.env),(Um,Wc f X.env)]
def uA(H:Hp)(a:Eb):Prop:=(∃b,Rd H a<|.dK b)\/∃b,Rd H a (.dT b)
theorem CM(I:Inv X gb σ H s)(d:uA H a):s.TypeIs (.ref a) "dict"/\(∀b,K4 a=.ref b->∃c,s.heap.get? b=O c/\c.dict=U)/\(a==Ac)=false:=by
 rcases d with⟨j,e⟩|⟨j,e⟩
 .obtain⟨_,hd,m,_,i⟩:=Qw I.hok e;refine⟨i.typeIs,λb q=>?_,hd⟩;cases q;obtain⟨c,_,_,k,l,_⟩:=i;exact⟨c,k,l.2.1⟩
 .obtain⟨_,hd,t,_,i⟩:=zP I.hok e;refine⟨i.typeIs,λb q=>?_,hd⟩;cases q;obtain⟨c,_,_,k,l,_⟩:=i;exact⟨c,k,l.2.1⟩
section
variable {a:Eb}{y d:V}{r:Bb}{o:Yi V}
end
section
variable {o e f:Vb}{ae lc:Pos}{td ty tx:TE}
end
section
variable {a:Eb}{kvs:List (wZ×V)}
end
section
variable {a:Eb}{y:V}
end
end L2
namespace Att
open PySem.W PySem.Calls
theorem FV:∀(ns:Ql) (c:Up),WellAll P h c (ns.map WData.int)->Tc c ns:=by
 intro ns;induction ns with
 |nil=>intro c w;rw[l9]at w;cases w;exact .nil
 |cons n ns d =>
  intro c w;rw[E1]at w;cases w with
  |cons a b=>cases a;exact .cons _ _<|d _ b
theorem zx{l:OpenLaw}(t:l.most=O n){P:Params}{h:Dc}{args:List WData}{b:Up}(j:l.row.toRowW.claim.pre args=Ul) (v:WellAll P h b args):∃a k ns,b=[K4 a]/\args=[WData.list<|ns.map WData.int]/\h.get? a=O {cls:=.type "list",data:=.seq k.toArray}/\Tc k ns/\ns.length<=n:=by
 have i:WShape.hasAll [] args [.list .int]=true:=(pre_splitW j).1;have m:l.pre.holds [] {args:=args}=true:=(pre_splitW j).2;obtain⟨d,r,rfl,w,x⟩:=hasAllW_cons i;obtain rfl:=hasAllW_nil x;obtain⟨M,rfl,y⟩:=hasW_list w;obtain⟨ns,rfl⟩:=items_int y;have B:ns.length<=n:=by
  unfold OpenLaw.pre at m;have c:(WTm.not<|.lt (.lit<|.int (n:Int))<|.len<|.arg 0).holds [] {args:=[.list<|ns.map .int]}=true:=by have c:=(holds_andW m).1;rw[t]at c;exact c
  have e:=condW_of c<|w_not<|w_lt w_lit<|w_len_list<|w_arg Z;rw[j0]at e;refine T1 λq=>?_;have C:(n:Int)<((ns.length:Nat):Int):=by omega
  first
   |(rw[Sb C]at e;exact absurd e<|by decide)
   |(simp at e;omega)
 cases v with
 |cons F G =>
  cases G;cases F with
  |list I L=>exact⟨_,_,ns,Z,Z,I,FV ns _ L,B⟩
theorem Ax(l:OpenLaw)(args:List WData):l.row.toRowW.claim.post args (.bool Ul) args=true :=
 postW_of (r:=l.row.toRowW) (X:=(Ul==Ul))
  (show WShape.has [] (.bool Ul) .bool=Ul by first|rfl|decide|simp[WShape.has,WShape.arms,WShape.armsAll])
  (show (WTm.eq .res<|.lit<|.bool Ul).value [] {args:=args,res:=O (.bool Ul),after:=args}=O (.bool<|Ul==Ul) from w_eq_bool (w_res Z) w_lit) Z
theorem attach_call{l:OpenLaw}(C:l.most=O n) (F:d.params.defaults=[])(call:∀(w:Wb) (c b:Gb) (mg k:Str->Yi Bb) (fa:Eb) (o:Obj) (m j t:Bb) (a:Eb) (e:Up) (ns:Ql), Ground q qh [] XP w c mg k b.heap->YP w b.heap -> b.heap.get? fa=O o->o.data=.func (docDef d.name d.params d.body d.scope m j t)->b.heap.CodeRec j d.name->mg d.name=O (.ref fa) -> b.heap.get? a=O {cls:=.type "list",data:=.seq e.toArray}->Tc e ns->ns.length<=n->b.gens=#[] -> Ef (Kb l.prog w) Pg (.call (.ref fa) ⟨[.ref a],[]⟩) (λr s'=>r=.ok (.ret<|.bool Ul)/\OldK b.heap s'.heap/\s'.os=b.os/\Rf s'.gens) b):WalkO q qh XP YP l.row.toRowW d [] (λf e=>PySem.call f e):=by
 intro w c b mg k G Y fa o m j t I kV L hd M v hmg P x y as R B hrd mh ao;obtain rfl:I=.none:=Dflts.none v F;obtain rfl:kV=.none:=Dflts.noKw v;obtain⟨a,e,ns,rfl,rfl,i,zl,ub⟩:=zx C R mh;refine enter_call<|Rg (call w c b mg k fa o m j t a e ns G Y L (fd_plain hd) M hmg i zl ub P) λr s' hq=>?_;obtain⟨rfl,h2,h3,h4⟩:=hq;exact⟨.inl ⟨.bool Ul,.bool Ul,[],Z,λ_=>rfl,.bool Ul,Ax l _,λ_=>⟨List.Pairwise.nil,λ_ hm=>(nomatch hm)⟩⟩,h2,h3,h4⟩
section
variable {w:Wb}{K:Frag}
end
end Att
namespace L2
theorem NH:∀{a:Up}{ns:Ql},Tc a ns->Vals (ns.map V.int) a
 |_,_,.nil=>.nil
 |_,_,.cons n t h=>.cons ⟨t,Z⟩<|NH h
noncomputable def xK(s:Be):Arguments:=match s with
 | .FunctionDef _ a _ _ _ _ _ _ _ _=>a
 |_=>{posonlyargs:=[],args:=[],vararg:=U,kwonlyargs:=[],kw_defaults:=[],kwarg:=U,defaults:=[]}
noncomputable def jJ(s:Be):List Be:=match s with
 | .FunctionDef _ _ b _ _ _ _ _ _ _=>b
 |_=>[]
noncomputable def sX(s:Be):Oh:=match s with
 | .FunctionDef _ _ _ _ _ _ sc _ _ _=>sc
 |_=>{kind:=.function,names:=[],isGenerator:=Um,isCoroutine:=Um}
noncomputable abbrev GJ:Ew:=λ_ _ _ _ _ _=>Al
noncomputable abbrev E0:XK:=λ_ _ _=>Al
theorem BP:XD GJ X E0:=λ_ _ _ _ _ _ _ h=>h.elim
structure Fun(K:B0)(x qual:Str)(st:Be)(f:Eb)(fd:Hd):Prop where
 ex:∃(oc:Bb) (od:Yi Eb) (kV sf pm:Bb) (an:Yi Eb) (fc ct:Bb) (tm:Zi (Yi Bb)),
  fd=J6 x qual (xK st) (jJ st) (sX st) .none kV sf pm an fc ct/\K.lookup f=O ⟨oc,od,.func fd,tm⟩/\u9 K fc qual=Ul
 kp:Y5 K (.ref f)=Ul
section
variable {P:Cc}{w:Wb}{K:B0}{mg:Str->Yi Bb}{base:Dc}
theorem Fun.ok{st:Be}(F:Fun K x qual st f fd)(S:FnScope N ps (sX st))(len:∀a H Q E,c a H Q E->a.length=ps.length)(d:∀(b:Bb) (A:Ae) (outer:List Env) (s:Gb) (H:Hp) (a:List V) (Q:VK) (E:XK),Room k (A.deeper<|Gf qual (sX st) s.heap.objs.size f b)->c a H Q E -> ∃t,PSs (mG GJ P w K mg base N qual (sX st) f b A outer s H E).nox (jJ st) t/\t {nx:=λ_ H'=>Q .non H',rt:=Q} (start N a) H):FnOk P w K mg base GJ (k+1) f fd ps c:=by
 obtain⟨m,v,kV,y,B,C,b,G,I,rfl,e,i⟩:=F.ex;refine qP e i S len λA outer s H a Q E j l=>?_;obtain⟨t,h,q⟩:=d b A outer s H a Q E j l;exact⟨t,h.nox,q⟩
theorem Fun.binds{st:Be}(F:Fun K x qual st f fd)(h:∀(kV a b:Bb) (c:Yi Eb) (d e:Bb) (us:Up),us.length=ps.length->bindArgs (J6 x qual (xK st) (jJ st) (sX st) .none kV a b c d e) ⟨us,[]⟩=pure (ps.zip us)):Binds K fd ps []:=by
 obtain⟨i,j,kV,a,b,c,d,e,k,rfl,l,m⟩:=F.ex;exact .all<|h kV a b c d e
theorem DM{st:Be}{kV:Bb}(l:K.lookup f=O ⟨oc,od,.func<|J6 x qual (xK st) (jJ st) (sX st) .none kV sf pm an fc ct,tm⟩)(c:u9 K fc qual=Ul) (k:Y5 K (.ref f)=Ul):Fun K x qual st f (J6 x qual (xK st) (jJ st) (sX st) .none kV sf pm an fc ct):=⟨⟨oc,od,kV,sf,pm,an,fc,ct,tm,Z,l,c⟩,k⟩
end
theorem kJ{A:Prop}[Decidable c](a:c->A)(b:¬c->B):if c then A else B:=by
 by_cases h:c
 .rw[Ib h];exact a h
 .rw[if_neg h];exact b h
section
variable {κ:Type}[DecidableEq κ]
end
noncomputable def yK(a:List (Str×Eb)):List (Str×Vd)->List (Str×Eb)->List (Str×Eb)
 |[],b=>b
 |(n,k)::r,b=>yK a r (if k==.free then (n,(a.lookup n).getD 0)::b else b)
theorem hU(h:∀y∈sc.names,y.2=.free->∃c,env.cells.lookup y.1=O c):closureFor sc env=pure (yK env.cells sc.names []):=by
 have go:∀(l:List (Str×Vd)) (b:List (Str×Eb)),(∀y∈l,y.2=.free->∃c,env.cells.lookup y.1=O c) ->
   (forIn l b λ(x:Str×Vd) r=>(if (x.2==NameKind.free)=Ul then (do let a<-cellOf env x.1;pure (ForInStep.yield ((x.1,a)::r))) else pure (ForInStep.yield r):Sem (ForInStep<|List<|Str×Eb)))=pure (yK env.cells l b):=by
  intro l;induction l with
  |nil=>intro b _;rfl
  |cons y r j =>
   intro b hl;obtain⟨n,k⟩:=y;rw[vQ];by_cases d:(k==NameKind.free)=Ul
   .obtain⟨c,i⟩:=hl (n,k) u0 (by simpa using d);have i:env.cells.lookup n=O c:=i;simp only[d,if_true,cellOf,i,pure_bind,yK,A6];exact j _ λy hy=>hl y<|i0 _ hy
   .simp only[d,if_false,pure_bind,yK];exact j _ λy hy=>hl y<|i0 _ hy
 have e:=go sc.names [] h;unfold closureFor;show (forIn sc.names [] _ >>= λm=>pure m)=_;rw[show (forIn sc.names ([]:List (Str×Eb)) λ(x:Str×Vd) r=>(match x with|(name,kind)=>if (kind==NameKind.free)=Ul then (do let a<-cellOf env name;pure (ForInStep.yield ((name,a)::r))) else pure (ForInStep.yield r):Sem (ForInStep<|List<|Str×Eb)))=pure (yK env.cells sc.names []) from e];rfl
theorem bY{a:List (Str×Eb)}{x:Str}{c:Eb}:∀{l:List (Str×Vd)}{d:List (Str×Eb)},(∀y∈l,y.2=.free->∃c,a.lookup y.1=O c)->(yK a l d).lookup x=O c -> d.lookup x=O c\/a.lookup x=O c
 |[],d,_,h=>.inl h
 |(n,k)::r,d,hl,h=>by
  have b:=bY (l:=r) (λy hy=>hl y<|i0 _ hy) h;rcases b with b|b
  .by_cases j:(k==NameKind.free)=Ul
   .rw[Ib j,V4]at b;obtain⟨m,i⟩:=hl (n,k) u0 (by simpa using j);have i:a.lookup n=O m:=i;cases e:x==n with
    |true =>
     rw[e]at b;have:x=n:=by simpa using e
     subst this;simp only[i,A6,Option.some.injEq]at b;subst b;exact .inr i
    |false=>rw[e]at b;exact .inl b
   .rw[if_neg j]at b;exact .inl b
  .exact .inr b
theorem iU{cells:List (Str×Eb)}{x:Str}:∀{l:List (Str×Vd)}{acc:List (Str×Eb)},((∃c,acc.lookup x=O c)\/l.lookup x=O .free)->∃c,(yK cells l acc).lookup x=O c
 |[],acc,h=>by
  rcases h with h|h
  .exact h
  .simp at h
 |(n,k)::r,acc,h=>by
  refine iU (l:=r) ?_;rcases h with⟨c,h⟩|h
  .left;by_cases a:(k==NameKind.free)=Ul
   .rw[Ib a,V4];cases x==n with
    |true=>exact⟨_,Z⟩
    |false=>exact⟨c,h⟩
   .rw[if_neg a];exact⟨c,h⟩
  .rw[V4]at h;cases e:x==n with
   |true=>rw[e]at h;have a:k=.free:=Z1 h;left;subst a;rw[Ib<|by decide,V4,e];exact⟨_,Z⟩
   |false=>rw[e]at h;exact .inr h
theorem cY{env:Env}{x:Str}:∀{names:List (Str×Vd)}, (names.map λ(n,k)=>if (k==NameKind.free&&env.scope.kind==.function&&env.kindOf n==O .cell) then (n,NameKind.cell) else (n,k)).lookup x = (names.lookup x).map λk=>if (k==NameKind.free&&env.scope.kind==.function&&env.kindOf x==O .cell) then .cell else k
 |[]=>rfl
 |(n,k)::r=>by
  have b:=@cY env x r;rw[E1];show M9 x ((if (k==NameKind.free&&env.scope.kind==.function&&env.kindOf n==O .cell)=Ul then (n,NameKind.cell) else (n,k))::_)=_;cases hx:x==n with
  |true =>
   have e:x=n:=by simpa using hx
   subst e;by_cases a:(k==NameKind.free&&env.scope.kind==.function&&env.kindOf x==O .cell)=Ul
   .rw[Ib a];simp only[V4,hx,m6];rw[Ib a]
   .rw[if_neg a];simp only[V4,hx,m6];rw[if_neg a]
  |false =>
   by_cases a:(k==NameKind.free&&env.scope.kind==.function&&env.kindOf n==O .cell)=Ul
   .rw[Ib a];simp only[V4,hx];exact b
   .rw[if_neg a];simp only[V4,hx];exact b
theorem dY(sc:Oh)(env:Env)(x:Str):(Li sc env).names.lookup x=(sc.names.lookup x).map λk=>if (k==NameKind.free&&env.scope.kind==.function&&env.kindOf x==O .cell) then .cell else k:=cY
theorem zK:∀(names:List (Str×Vd)) (n:Nat) (a:List (Str×Eb)),Ec n names a=Ec n names []++a
 |[],_,_=>rfl
 |(x,k)::r,n,a=>by
  unfold Ec;split
  .rw[zK r (n+1) ((x,n)::a),zK r (n+1) [(x,n)],Y2];rfl
  .exact zK r n a
theorem jU{x:Str}{c:Eb}:∀(names:List (Str×Vd)) (n:Nat),(x,c)∈Ec n names []->(x,NameKind.cell)∈names/\n<=c
 |[],_,h=>by cases h
 |(y,k)::r,n,h=>by
  unfold Ec at h;split at h
  .rename_i a;have a:k=.cell:=by simpa using a
   rw[zK,W0]at h;rcases h with h|h
   .have:=jU r (n+1) h;exact⟨i0 _ this.1,V0 this.2⟩
   .have h:(x,c)=(y,n):=by simpa using h
    cases h;subst a;exact⟨u0,A0 _⟩
  .have:=jU r n h;exact⟨i0 _ this.1,this.2⟩
theorem qJ{x:Str}:∀{l m:List (Str×α)},(l++m).lookup x=(l.lookup x).or (m.lookup x)
 |[],_=>rfl
 |(y,v)::l,m=>by
  rw[P7,V4,V4];cases x==y with
  |true=>rfl
  |false=>exact qJ
theorem VW{Q:Env->Gb->Prop}(c:Q (newEnv scope s.heap.objs.size globals (Ec (s.heap.objs.size+1) scope.names closure) qual U .none (O env) Hf) {s with heap:=pushCells (s.heap.push {cls:=.type "dict",data:=.dict #[]}) scope.names}):Hb M A (Eh scope globals closure [] qual U .none<|O env) Q E s:=by
 simp only[Eh,bX,if_true];refine Ab<|wpAny_alloc ?_;refine Ab<|wpAny_layCells _ (λname kind a=>by cases b:kind==NameKind.cell<;>simp[b]) _ _ _ _ ?_;rw[show ({s with heap:=s.heap.push {cls:=.type "dict",data:=.dict #[]}}:Gb).heap.objs.size=s.heap.objs.size+1 from u3 ..];refine Ab ?_;rw[GQ];exact Db<|Db c
noncomputable def CP(N:Us)(fr:Bm):Us:=fr.map λi=>N.getD i Str.empty
noncomputable def XO(σ:St)(fr:Bm):St:=fr.map λi=>(σ[i]?).getD U
noncomputable def IX(X:Cx)(own:Us)(fr:Bm)(sc:Oh)(C:Eb)(s:Gb)(H:Hp)(ex:List Eb):Cx where
 prog:=X.prog
 w:=X.w
 K:=X.K
 mg:=X.mg
 base:=X.base
 A:=X.A
 N:=own++CP X.N fr
 s₀:=s
 H₀:=H
 env:=compEnvC sc (Ec (C+1) sc.names<|yK X.env.cells sc.names []) C X.env
 outer:=X.stack
 stack:=X.stack
 ex:=ex
 fn:=λx=>sc.names.lookup x==O .cell
 calm:=X.calm
 pn:=[]
 xe:=λ_ _=>Al
noncomputable def EM(own:Us)(σ:St)(fr:Bm):St:=own.map (λ_=>U)++XO σ fr
structure CompSc(X:Cx)(own:Us)(fr:Bm)(sc:Oh):Prop where
 kind:sc.kind=.function
 cells:∀y∈sc.names,y.2=.cell->sc.names.lookup y.1=O .cell
 loc:∀y∈sc.names,y.2=.local->sc.names.lookup y.1=O .local
 free:∀y∈sc.names,y.2=.free->X.env.kindOf y.1=O .cell\/X.env.kindOf y.1=O .free
 fr:∀i∈fr,∃x,X.N[i]?=O x/\sc.names.lookup x=O .free
theorem cq{C D:Eb}(S:CompSc X own fr sc) (I:Inv X gb σ H s) (hf:∀b∈fp,DV X gb H b) (hfo:∀b∈fp,∃o,s.heap.get? b=O o) (w:s.heap.objs.size<=C) (hD:s.heap.objs.size<=D) (hDC:D≠C) (hn:M.Ns C λx=>([]:List (Str×Bb)).reverse.lookup x)(P:∀b o,s.heap.get? b=O o->M.get? b=O o) (jd:∀x c,(x,c)∈Ec (C+1) sc.names []->M.IsCell c U) (hap:(Ec (C+1) sc.names []).Pairwise λx y=>x.2≠y.2) (hoD:M.get? D=O oD) (hdD:∀v,oD.data≠.cell v):Inv (IX X own fr sc C s H fp) [(D,oD)] (EM own σ fr) H {s with heap:=M,toks:=tk}:=by
 have eg:∀y∈sc.names,y.2=.free->∃c,X.env.cells.lookup y.1=O c:=λy hy e=>I.ok.has y.1<|S.free y hy e;have Y:∀x c,(yK X.env.cells sc.names []).lookup x=O c->X.env.cells.lookup x=O c:=λx c e=>by
  rcases bY eg e with z|z
  .simp at z
  .exact z
 have t:∀x c,(Ec (C+1) sc.names<|yK X.env.cells sc.names []).lookup x=O c->(x,c)∈Ec (C+1) sc.names []\/X.env.cells.lookup x=O c:=λx c e=>by
  rw[zK,qJ]at e;cases q:(Ec (C+1) sc.names []).lookup x with
  |none=>rw[q]at e;exact .inr<|Y x c e
  |some B=>rw[q]at e;cases e;exact .inl<|PySem.mem_of_lookup q
 have new:∀x c,(x,c)∈Ec (C+1) sc.names []->C+1<=c:=λx c h=>(jU _ _ h).2;have lr:∀x c,X.env.cells.lookup x=O c->c<s.heap.objs.size:=λx c e=>by obtain⟨v,q⟩:=I.cell x c e;exact q.lt
 have kin:∀x k,(Li sc X.env).names.lookup x=O k->k=.cell\/k=.free->sc.names.lookup x=O .free\/sc.names.lookup x=O .cell:=λx k e P=>by
  rw[dY]at e;cases q:sc.names.lookup x with
  |none=>rw[q]at e;cases e
  |some j =>
   rw[q,m6,Option.some.injEq]at e;by_cases hj:j=.free
   .rw[hj];exact .inl Z
   .have qc:(j==NameKind.free)=false:=by simpa using hj
    rw[qc,FQ,FQ,if_neg<|by simp]at e;subst e;rcases P with z|z
    .rw[z];exact .inr Z
    .exact absurd z hj
 have kout:∀x,sc.names.lookup x=O .free->((Li sc X.env).names.lookup x=O .cell\/(Li sc X.env).names.lookup x=O .free):=λx e=>by
  rw[dY,e,m6];by_cases h:(NameKind.free==NameKind.free&&X.env.scope.kind==.function&&X.env.kindOf x==O .cell)=Ul
  .rw[Ib h];exact .inl Z
  .rw[if_neg h];exact .inr Z
 have okc:∀b∈fp,b<s.heap.objs.size:=λb F=>by obtain⟨o,e⟩:=hfo b F;exact G0 e
 have fresh:∀{a:Eb},s.heap.objs.size<=a->H a=none:=λh=>I.hok.fresh h;have ok:(IX X own fr sc C s H fp).Ok:={
   mod:=I.ok.mod
   kind:=S.kind
   glob:=I.ok.glob
   blt:=I.ok.blt
   above:=w
   inj:=λx y c M h2=>by
     have w:s.heap.objs.size<=C:=w;rcases t x c M with a|a<;>rcases t y c h2 with b|b
     . exact name_of_addr hap a b
     . have:=new x c a;have:=lr y c b;exact absurd (v0 (lr y c b)<|q0 w<|c6<|new x c a)<|j4 _
     . exact absurd (v0 (lr x c a)<|q0 w<|c6<|new y c b)<|j4 _
     . exact I.ok.inj x y c a b
   has:=λx hx=>by
     have hx:sc.names.lookup x=O .free\/sc.names.lookup x=O .cell:=by
       rcases hx with hx|hx
       . exact kin x _ hx<|.inl Z
       . exact kin x _ hx<|.inr Z
     show ∃c,(Ec (C+1) sc.names<|yK X.env.cells sc.names []).lookup x=O c;rw[zK,qJ];rcases hx with hx|hx
     . obtain⟨c,e⟩:=iU (cells:=X.env.cells) (x:=x) (l:=sc.names) (acc:=[])<|.inr hx;rw[e];cases (Ec (C+1) sc.names []).lookup x with
       |none=>exact⟨c,Z⟩
       |some B=>exact⟨B,Z⟩
     . obtain⟨c,e⟩:=mW (n:=C+1) hx;rw[e];exact⟨c,Z⟩
   cab:=λx c h e=>by
     have h:sc.names.lookup x=O .cell:=by simpa [IX]using h
     have e:(Ec (C+1) sc.names<|yK X.env.cells sc.names []).lookup x=O c:=e;obtain⟨B,q⟩:=mW (n:=C+1) h;rw[zK,qJ,q]at e;cases e;exact q0 w (c6<|new x _<|PySem.mem_of_lookup q)
   hd:=I.ok.hd
   frames:=I.ok.frames
   stk:=.inl Z
   exf:=λb F=>⟨U0<|v0 (okc b F) w,λx c e=>by
     rcases t x c e with z|z
     . exact X2<|v0 (okc b F)<|q0 w<|c6<|new x c z
     . exact(hf b F).2.2.2.2.1 x c z⟩
   bs:=I.bs
   bsz:=q0 I.ok.bsz I.sz
   noex:=λb o e F=>by
     rcases (hf b F).2.2.2.1 with z|z
     . exact I.ok.noex b o e z
     . exact absurd (v0 (G0 e)<|q0 I.ok.bsz z) (j4 _)
   exfs:=λb F R=>by
     rcases T0.mp (I.stkSub b R) with z|z
     . exact(hf b F).2.1 z
     . exact(hf b F).2.2.1 z
   funs:=I.stack
   frf:=I.stkFree};refine⟨ok,Z,I.bare,Un.kept P,⟨_,hn,λi x v G d e3=>?_⟩,λx c e=>?_,fresh w,λx c e=>?_,λp hp=>?_,I.hok.kept P,?_⟩
 .have G:(own++CP X.N fr)[i]?=O x:=G;have d:(own.map (λ_=>(U:Yi V))++XO σ fr)[i]?=O (O v):=d;by_cases hi:i<own.length
  .rw[m3 (by simpa using hi),G1]at d;cases q:own[i]? with
   |none=>rw[q]at d;cases d
   |some z=>rw[q]at d;cases d
  .rw[Q2<|T1 hi]at G;rw[Q2 (by simpa using hi),j0]at d;unfold CP at G;unfold XO at d;rw[G1]at G d;cases q:fr[i-own.length]? with
   |none=>rw[q]at G;cases G
   |some j =>
    rw[q,m6,Option.some.injEq]at G d;obtain⟨y,hy,L⟩:=S.fr j<|P2 q;rw[B2,hy,A6]at G;subst G;have e2':σ[j]?=O (O v):=by
     cases r:σ[j]? with
     |none=>rw[r]at d;cases d
     |some z=>rw[r,A6]at d;rw[d]
    have hkf:X.env.kindOf y=O .cell\/X.env.kindOf y=O .free:=S.free (y,.free) (PySem.mem_of_lookup L) Z;obtain⟨m,R,hl⟩:=I.loc;have vis:xI X.env.scope y:=by
     rcases hkf with z|z
     .exact .inr (.inl z)
     .exact .inr (.inr z)
    obtain⟨u,r,l⟩:=hl j y v hy e2' vis;refine⟨u,r,?_⟩;rcases l with⟨k,_⟩|⟨k,c,hc,z⟩
    .rcases hkf with k'|k'<;>rw[k]at k'<;>cases k'
    .refine .inr ⟨kout y L,?_⟩;obtain⟨B,uc⟩:∃B,(yK X.env.cells sc.names []).lookup y=O B:=iU<|.inr L;have:B=c:=Z1<|(Y y B uc).symm.trans hc;subst this;obtain⟨o,ho,hd⟩:=z;refine⟨B,?_,o,P _ _ ho,hd⟩;show (Ec (C+1) sc.names<|yK X.env.cells sc.names []).lookup y=O B;rw[zK,qJ,uc];cases q:(Ec (C+1) sc.names []).lookup y with
     |none=>rfl
     |some c2=>have:=S.cells _ (jU _ _<|PySem.mem_of_lookup q).1 Z;rw[L]at this;cases this
 .rcases t x c e with z|z
  .exact⟨_,jd x c z⟩
  .obtain⟨v,o,ho,hd⟩:=I.cell x c z;exact⟨v,o,P _ _ ho,hd⟩
 .rcases t x c e with z|z
  .exact fresh (q0 w<|c6<|new x c z)
  .exact I.freeC x c z
 .have e:p=(D,oD):=by
   have:p∈([]:Ut)++[(D,oD)]:=hp;simpa using this
  subst e;refine⟨hoD,fresh hD,hDC,λR=>?_,hdD⟩;have R:D∈xz X.stack:=R;obtain⟨_,o,ho,_⟩:=I.stack.mem R;exact absurd (v0 (G0 ho) hD)<|j4 _
 .show (own.map (λ_=>(U:Yi V))++XO σ fr).length=(own++CP X.N fr).length;simp[XO,CP]
theorem Xw{i:St}{C D:Eb}(I:Inv X gb σ H s) (y:∀b∈fp,DV X gb H b) (t:s.heap.objs.size<=C) (B:s.heap.objs.size<=D) (j:D≠C)(J:Inv (IX X own fr sc C s H fp) [(D,oD)] i H' s') (F:oD={cls:=.type "list",data:=.seq us.toArray n}) (r:Vals ys us) (G:ys.length<=sizeLine):Inv X gb σ (kZ H' D<|.lst ys) s'/\(∃m,s'.heap.Ns C m)/\DV X gb (kZ H' D<|.lst ys) C:=by
 have v:=J.pin (D,oD) (by simp[IX]);have a:H' D=none:=v.2.1;have u:Un (xz X.stack) fp H H' s.heap s'.heap:=J.base;have lt:∀b o,s.heap.get? b=O o->b≠D:=λb o e=>U0<|v0 (G0 e) B;have L:Un (xz X.stack) fp H (kZ H' D<|.lst ys) s.heap s'.heap :=
  ⟨u.keep,u.slot,λb o e n hx=>by rw[zX<|lt b o e];exact u.free b o e n hx,u.there,λb k e=>by rw[zX<|AX (u.tups b k e) a];exact u.tups b k e,
    λb o x e=>by rw[zX<|AX (u.frzs b o x e) a];exact u.frzs b o x e,λb M e=>by obtain⟨P,q⟩:=u.tbls b M e;exact⟨P,by rw[zX<|AX q a];exact q⟩⟩;have l:HOk X.prog X.w (kZ H' D<|.lst ys) s'.heap:=λb o e=>by
  by_cases d:b=D
  .subst d;rw[OX]at e;cases e;exact⟨G,us,n,r,by rw[<-F];exact v.1⟩
  .rw[zX d]at e;exact(J.hok b o e).stay (λ_ _ _ q=>q) (λc q=>by rw[zX<|AX q a];exact q) λc k q=>by rw[zX<|AX q a];exact q
 refine⟨I.call' (ch:=fp) J.os L l J.bare λb d=>?_,?_,?_⟩
 .obtain⟨f0,R,f2,Y,f4,f5⟩:=y b d;exact⟨Y,R,f4,f5⟩
 .obtain⟨m,hm,_⟩:=J.loc;exact⟨m,hm⟩
 .have eg:H' C=none:=J.free;refine⟨by rw[zX<|U3 j];exact eg,?_⟩;exact(I.fpOk t<|I.hok.fresh t).2
theorem eY{it:Bb}(I:Nat->Gb->Prop)
  (turn:∀n s,I n s->Hb (Kb prog w) A (Md it) (λr a=>match r with
    |none=>R (.ok .next) a
    | some v=>Hb (Kb prog w) A (Ye rf it v) (λ_ b=>Hb (Kb prog w) A (Wf rf env v) (λ_ e =>
        Hb (Kb prog w) A (forIn ff Ul λc r=>if r=Ul then do let ok<-Ti c env (Wc c env);pure (ForInStep.yield ok) else pure (ForInStep.yield r)) (λok d =>
          if ok=Ul then Hb (Kb prog w) A (Wc we env) (λx i=>Hb (Kb prog w) A (call (.builtin "list.append") [acc,x]) (λ_ j=>∃m,m<n/\I m j) (λ_ _=>Al) i) (λ_ _=>Al) d
          else ∃m,m<n/\I m d) (λ_ _=>Al) e) (λ_ _=>Al) b) (λ_ _=>Al) a) (λ_ _=>Al) s)
  (n:Nat) (h:I n s) :
  Ef (Kb prog w) A (.compLoop (.ListComp we [⟨rf,cc,ff,0⟩] scope pos) 0 it acc env) R s:=by
 refine codeAny_loop Z I (λn s C=>?_) n h;show Hb _ A ((compTurn (.ListComp we [⟨rf,cc,ff,0⟩] scope pos) 0 it acc env).onRaise<|λx=>do noteFrame x env;theTreesLotGoes x) _ _ s;refine wpAny_noted ?_;rw[compTurn_list];refine Ab<|Ph<|Ab<|wpAny_mono (turn n s C) (λr a k=>?_) λ_ _ h'=>h'.elim;cases r with
 |none=>exact Db k
 |some v =>
  refine Ab<|wpAny_mono k (λ_ b q=>?_) λ_ _ h'=>h'.elim;refine Ab<|wpAny_mono q (λ_ e t=>Ab<|wpAny_mono t (λok d l=>?_) λ_ _ h'=>h'.elim) λ_ _ h'=>h'.elim;cases ok with
  |false=>exact Db ⟨Z,l⟩
  |true=>exact Ab<|Ab<|wpAny_mono l (λx i y=>Ab<|wpAny_mono y (λ_ j B=>Db<|Db ⟨Z,B⟩) λ_ _ h'=>h'.elim) λ_ _ h'=>h'.elim
def Yw(X:Cx)(ff:Bl)(t:TT):Prop :=
 ∀(gb:Ut) (s:Gb) (σ:St) (H:Hp) (Q:Bool->Hp->Prop),Inv X gb σ H s->t σ H Q ->
  Hb (Kb X.prog X.w) X.A (forIn ff Ul λc r=>if r=Ul then do let ok<-Ti c X.env (Wc c X.env);pure (ForInStep.yield ok) else pure (ForInStep.yield r)) (TP X gb σ Q) X.xe s
def DP:TT:=λ_ H Q=>Q Ul H
theorem FM:Yw X [] DP:=λ_ _ _ H _ I h=>wpAny_tests_nil ⟨H,I,h⟩
theorem GM(h:PT X c t):Yw X [c] t:=λgb s σ H Q I hw=>wpAny_tests_one<|h gb s σ H Q I hw
def FI(l:TI)(own:Us)(fr:Bm)(g:TG)(q:TT)(t:TE):TE:=λσ H Q=>l σ H λJ v=>∃W:Nat->Nat->List V->St->Hp->Prop,(∃m,W 0 m [] (EM own σ fr) v)/\∀i m ys d H,W i m ys d H ->
 (J.stop i H/\∀D,H D=U->Q (.ref D) (kZ H D<|.lst ys)) \/
 (J.go i H/\ys.length<sizeLine/\∃N:List V->St->Hp->Prop,(∀e c H',N e c H'->∃j,j<m/\W (i+1) j e c H')/\∀x H',J.yld i H x H'->g x d H' λa w=>q a w λb k=>if b=Ul then t a k λy B=>N (ys++[y]) a B else N ys a k)
theorem Dx{D:Eb}(I:Inv X ([(D,{cls:=.type "list",data:=.seq us.toArray k})]++i) σ H s) (y:X.s₀.heap.objs.size<=D) (B:∀x c,X.env.cells.lookup x=O c->c≠D) (C:∀p∈X.pn++i,p.1≠D) (G:us.length<sizeLine)(h:∀d s',Inv X ([(D,{cls:=.type "list",data:=.seq (us++[u]).toArray d})]++i) σ H s'->Q .none s'):Hb (Kb X.prog X.w) X.A (call (.builtin "list.append") [.ref D,u]) Q E s:=by
 obtain⟨e,j,hL,m,_⟩:=I.pin (D,{cls:=.type "list",data:=.seq us.toArray k})<|S0 _<|i3 _<|Y0.mpr Z;dsimp only at e j hL m;have L:Inv X i σ H s:=I.pins_of λp l=>I.pin p<|S0 _<|S0 _ l;refine Zc F.slot_list_append ⟨_,e,Z⟩ F.entry_list_append (F.args_list_append_2 _ _) (PySem.list_append D us.toArray k u<|by rw[P0];exact V0 G) ⟨e,?_⟩;have q:=PySem.IsL.update e λa=>a.push u;rw[show us.toArray.push u=(us++[u]).toArray by simp]at q;have t:Inv X i σ H {s with heap:=s.heap.update D (W2 λa=>a.push u),toks:=s.toks}:=L.turned (it:=D) (λb o M P=>(E8 s.heap (W2 λa=>a.push u)<|U3 M).trans P) j hL (.inr y) B C;obtain⟨d,q⟩:∃d,(s.heap.update D<|W2 λa=>a.push u).get? D=O {cls:=.type "list",data:=.seq (us++[u]).toArray d}:=⟨_,q⟩;refine h d _<|t.pins_of (pins':=[(D,{cls:=.type "list",data:=.seq (us++[u]).toArray d})]++i) λp l=>?_;rcases W0.mp l with z|z
 .have z:p=_:=Y0.mp z;subst z;exact⟨q,j,hL,m,λv z=>by cases z⟩
 .exact t.pin p (S0 _ z)
theorem kU{g:TG}{Q:VK}{RR:Bb->Eb->Ui->Gb->Prop}(hc:X.calm=Ul) (S:CompSc X own fr sc) (I2:Inv X gb σ B a) (T:Turn X.prog X.w X.K tg J fp it tn) (fh:tn 0 a.heap) (f2:∀b∈fp,DV X gb B b)(hg:∀C ex,PG (IX X own fr sc C a B ex) tg g) (oh:∀C ex,Yw (IX X own fr sc C a B ex) ff tc) (he:∀C ex,PE (IX X own fr sc C a B ex) we te)(W:Nat->Nat->List V->St->Hp->Prop) (m0:Nat) (w0:W 0 m0 [] (EM own σ fr) B)(turn:∀i m ys I H,W i m ys I H->(J.stop i H/\∀D,H D=U->Q (.ref D) (kZ H D<|.lst ys)) \/(J.go i H/\ys.length<sizeLine/\∃N:List V->St->Hp->Prop,(∀L τ' H',N L τ' H'->∃m',m'<m/\W (i+1) m' L τ' H')/\∀x H',J.yld i H x H'->g x I H' λM B=>tc M B λb H3=>if b=Ul then te M H3 λy H4=>N (ys++[y]) M H4 else N ys M H3))(hRR:∀D C H s',Inv X gb σ H s'->Q (.ref D) H->(∃m,s'.heap.Ns C m)->DV X gb H C->RR (.ref D) C (.ok .next) s'):Hb (Kb X.prog X.w) X.A (newList []) (λacc t=>Hb (Kb X.prog X.w) X.A (Eh sc X.env.globals (yK X.env.cells sc.names []) [] X.env.qual U .none<|O X.env) (λcenv s₄=>Ef (Kb X.prog X.w) X.A (.compStart (.ListComp we [⟨tg,cc,ff,0⟩] sc pos) 0 (.ref it) acc {cenv with scope:=Li sc X.env}) (RR acc cenv.locals) s₄) E t) E a:=by
 refine Yc<|VW ?_;dsimp only;generalize hH2:a.heap.push {cls:=.type "list",dict:=U,data:=.seq ([]:Up).toArray}=G;generalize hh1:pushCells (G.push {cls:=.type "dict",data:=.dict #[]}) sc.names=j;have kp:∀b o,(G.push {cls:=.type "dict",data:=.dict #[]}).get? b=O o->j.get? b=O o:=λb o e=>hh1 ▸ pushCells_keeps _ _ b o e;have P:j.Ns G.objs.size λx=>([]:List (Str×Bb)).reverse.lookup x:=(Heap.Ns.new G<|.type "dict").keeps kp;have cok:CellsOk j (G.objs.size+1) (Ec (G.objs.size+1) sc.names []):=by have:=cellsFrom_ok sc.names (G.push {cls:=.type "dict",data:=.dict #[]}) (G.objs.size+1) [] ⟨λ_ _ hm=>(nomatch hm),List.Pairwise.nil⟩ (by rw[u3];exact A0 _);rw[u3,hh1]at this;exact this
 have hC:G.objs.size=a.heap.objs.size+1:=by rw[<-hH2,u3]
 have gi:a.heap.objs.size<=G.objs.size:=by rw[hC];exact V8 _
 have hDC:a.heap.objs.size≠G.objs.size:=by rw[hC];exact U0<|Z3 _
 have wg:∀b o,a.heap.get? b=O o->j.get? b=O o:=λb o e=>kp b o<|g0 _<|hH2 ▸ g0 _ e;have vc:j.get? a.heap.objs.size=O {cls:=.type "list",data:=.seq ([]:Up).toArray}:=kp _ _<|g0 _<|hH2 ▸ L0 _ Z;have st0':tn 0 j:=T.keep _ _ _ fh λb l o e=>wg b o e;have fo:∀b∈fp,∃o,a.heap.get? b=O o:=λb l=>let ⟨o,e,_⟩:=T.obj _ _ fh b l;⟨o,e⟩;have flt:∀b∈fp,b<a.heap.objs.size:=λb l=>by obtain⟨o,e⟩:=fo b l;exact G0 e
 have clb:∀x c,(yK X.env.cells sc.names []).lookup x=O c->X.env.cells.lookup x=O c:=λx c e=>by
  rcases bY (λy hy e=>I2.ok.has y.1<|S.free y hy e) e with z|z
  .simp at z
  .exact z
 have clb2:∀(R:Eb) x c,(Ec (R+1) sc.names<|yK X.env.cells sc.names []).lookup x=O c->R+1<=c\/X.env.cells.lookup x=O c:=λR x c e=>by
  rw[zK,qJ]at e;cases q:(Ec (R+1) sc.names []).lookup x with
  |none=>rw[q]at e;exact .inr<|clb x c e
  |some c'=>rw[q]at e;cases e;exact .inl (jU _ _<|PySem.mem_of_lookup q).2
 have stt:∀R:Eb,a.heap.objs.size<=R->∀{H':Hp}{pl:Ut},(∀b∈fp,H' b=U)->(∀p∈pl,a.heap.objs.size<=p.1)->∀b∈fp,DV (IX X own fr sc R a B fp) pl H' b:=λR hC' H' pl hn hp b l=>by
  have I0:=f2 b l;refine⟨hn b l,U0<|v0 (flt b l) hC',λhm=>?_,.inl l,λx c e=>by
      rcases clb2 R x c e with z|z
      . exact X2<|v0 (flt b l)<|q0 hC'<|c6 z
      . exact I0.2.2.2.2.1 x c z,λp eh=>?_⟩
  .rcases T0.mp (I2.stkSub b hm) with z|z
   .exact I0.2.1 z
   .exact I0.2.2.1 z
  .have eh:p∈pl:=by
    have:p∈([]:Ut)++pl:=eh;simpa using this
   exact X2<|v0 (flt b l)<|hp p eh
 have loop:∀t:Gb,t={a with heap:=j,toks:=a.toks} ->
   Ef (Kb X.prog X.w) X.A (.compLoop (.ListComp we [⟨tg,cc,ff,0⟩] sc pos) 0 (.ref it) (.ref a.heap.objs.size)<|compEnvC sc (Ec (G.objs.size+1) sc.names<|yK X.env.cells sc.names []) G.objs.size X.env)
    (RR (.ref a.heap.objs.size) G.objs.size) t:=by
  rintro t rfl;have I3:=cq (own:=own) (fr:=fr) (tk:=a.toks) S I2 f2 fo gi (A0 _) hDC P wg (λx c h=>(cok.empty x c h).1) cok.apart vc (λv z=>by cases z);refine eY (λn s'=>∃i H' ys us k I,Inv (IX X own fr sc G.objs.size a B fp) [(a.heap.objs.size,{cls:=.type "list",data:=.seq us.toArray k})] I H' s'/\tn i s'.heap/\(∀b∈fp,H' b=U)/\Vals ys us/\ys.length<=sizeLine/\W i n ys I H') ?_ m0
   ⟨0,B,[],[],0,_,I3,st0',λb l=>(f2 b l).1,.nil,V2 _,w0⟩;rintro n s4 ⟨i,H4,ys,us,k,I,I4,st4,fr4,Y,hz4,w4⟩;have hp4:∀p∈[(a.heap.objs.size,({cls:=.type "list",data:=.seq us.toArray k}:Obj))],a.heap.objs.size<=p.1:=λp hp=>by
   rw[Y0.mp hp];exact A0 _
  rcases turn i n ys I H4 w4 with⟨stop,qn⟩|⟨go,gc,N,hN,step⟩
  .refine xZ (T.done (IX X own fr sc G.objs.size a B fp) Z Z Z hc i _ s4 _ H4 (λ_ _=>Al) I4 (stt _ gi fr4 hp4) st4 stop) λr s5 ⟨hr,I5⟩=>?_;subst hr;obtain⟨a1,a2,a3⟩:=Xw I2 f2 gi (A0 _) hDC I5 Z Y hz4;exact hRR _ _ _ s5 a1 (qn _ (I5.pin _<|S0 _<|Y0.mpr Z).2.1) a2 a3
  .refine xZ (T.item (IX X own fr sc G.objs.size a B fp) Z Z Z hc i _ s4 _ H4 (λ_ _=>Al) I4 (stt _ gi fr4 hp4) st4 go) λr s5 ⟨u,hr,h5⟩=>?_;subst hr;refine xZ h5 λ_ s6 ⟨x,H6,I6,r6,y6,st6,fr6⟩=>?_;have I6':=I6.pinned (stt _ gi fr6 hp4)<|T.obj _ _ st6;refine xZ (hg G.objs.size fp _ s6 _ H6 x u _ I6' r6<|step x H6 y6) λ_ s7 ⟨F,H7,I7,q7⟩=>?_;refine xZ (oh G.objs.size fp _ s7 F H7 _ I7 q7) λb s8 ⟨H8,I8,q8⟩=>?_;have again:∀{s9:Gb}{H9:Hp}{L:List V}{me:Up}{k':Nat},Inv (IX X own fr sc G.objs.size a B fp) ([(a.heap.objs.size,{cls:=.type "list",data:=.seq me.toArray k'})]++SW fp s6.heap) F H9 s9->Vals L me->L.length<=sizeLine->N L F H9 ->
     ∃m,m<n/\∃i H' ys us k I,Inv (IX X own fr sc G.objs.size a B fp) [(a.heap.objs.size,{cls:=.type "list",data:=.seq us.toArray k})] I H' s9/\tn i s9.heap/\(∀b∈fp,H' b=U)/\Vals ys us/\ys.length<=sizeLine/\W i m ys I H':=λ{s9 H9 L me k'} I9 rv9 hz9 n9=>by
    obtain⟨m',hm,w9⟩:=hN L F H9 n9;refine⟨m',hm,i+1,H9,L,me,k',F,I9.unpinned,T.keep _ _ _ st6 λb l o e=>(I9.pin (b,o)<|S0 _<|S0 _<|uK l e).1,λb l=>?_,rv9,hz9,w9⟩;obtain⟨o,e,d⟩:=T.obj _ _ st6 b l;exact(I9.pin (b,o)<|S0 _<|S0 _<|uK l e).2.1
   cases b with
   |false=>rw[if_neg X0]at q8 ⊢;exact again I8 Y hz4 q8
   |true =>
    rw[Ib Z]at q8 ⊢;refine xZ (he G.objs.size fp _ s8 F H8 _ I8 q8) λy s9 ⟨yv,H9,I9,r9,n9⟩=>?_;refine Dx (X:=IX X own fr sc G.objs.size a B fp) I9 (A0 _) (λx c e z=>?_) (λp hp z=>?_) (by rw[<-Y.length];exact gc) λk' s10 I10=>?_
    .rcases clb2 _ x c e with y|y
     .rw[z]at y;exact absurd (v0 (u4 gi) y)<|j4 _
     .obtain⟨v,q⟩:=I2.cell x c y;exact absurd (v0 q.lt<|by rw[z];exact A0 _)<|j4 _
    .have hp:p∈([]:Ut)++SW fp s6.heap:=hp;rw[a9]at hp;have:=flt _ (DH hp).1;rw[z]at this;exact absurd this<|j4 _
    .exact again I10 (Y.append<|.cons r9 .nil) (by rw[N0,P3];exact gc) n9
 exact codeAny_compStart_list (loop _ Z)<|T.self _ 0 _ _ _ st0'<|loop _ Z
theorem iC{pos:Pos}{own:Us}{i:TI}{g:TG}{j:TT}{k:TE}(t:X.calm=Ul)(S:CompSc X own fr sc)(hi:PI X tg cc i)
  (B:∀C s H ex,PG (IX X own fr sc C s H ex) tg g) (F:∀C s H ex,Yw (IX X own fr sc C s H ex) ff j) (G:∀C s H ex,PE (IX X own fr sc C s H ex) we k)
  (L:∀x,Ld cc X.env x=pure x:=by intro _;rfl):PE X (.ListComp we [⟨tg,cc,ff,0⟩] sc pos) (FI i own fr g j k):=by
 intro gb s σ H Q I h;rw[eval_ListComp];refine Bg (use:=U) Z L (hU λy hy e=>I.ok.has y.1<|S.free y hy e) S.kind S.loc<|xZ (hi gb s σ H _ I h) λv s1 M=>xZ M λP a R=>?_;obtain⟨it,fp,tn,J,c,e,Y,T,fh,l,W,⟨m0,w0⟩,turn⟩:=R;subst e;refine kU (Q:=Q) (RR:=λd C=>compPost (Kb X.prog X.w) X.A X.xe U (EP X gb σ Q) d C) t S Y T fh l (λC ex=>B C a c ex) (λC ex=>F C a c ex) (λC ex=>G C a c ex) W m0 w0 turn ?_;intro D C H' s' I' q ⟨m,hm⟩ fC;refine⟨m,hm,λh' sb=>⟨.ref D,H',?_,Z,q⟩⟩;obtain⟨f0,f1,l,f3,f4,f5⟩:=fC;exact I'.turned (t':=s'.toks) (λb o hb e=>(sb.2 b hb).trans e) f0 f1 f3 f4 f5
theorem dq{pos M d:Pos}{i:Nat}{y:Str}{own:Us}{P:TI}{g:TG}{R:TT}{Y:TE}(hN:X.N.Nodup)(hy:X.N[i]?=O y)(hl:X.env.scope.names.lookup y=O .local)(hc:X.calm=Ul)(S:CompSc X own fr sc)(hi:PI X tg cc P)
  (hg:∀C s H ex,PG (IX X own fr sc C s H ex) tg g) (oh:∀C s H ex,Yw (IX X own fr sc C s H ex) ff R) (he:∀C s H ex,PE (IX X own fr sc C s H ex) we Y)
  (j:Ff (.ListComp we [⟨tg,cc,ff,0⟩] sc pos) (O<|.Name y d) M.line X.env=pure true:=by rfl)
  (hs:∀x,Ld cc X.env x=pure x:=by intro _;rfl):PS X (.Assign [.Name y d] (.ListComp we [⟨tg,cc,ff,0⟩] sc pos) M) (RW (FI P own fr g R Y)<|YK i):=by
 intro gb s σ H D I h;rw[exec_Assign_Name_used _ _ _ _ j];refine Ab<|Ph ?_;show Hb _ _ (evalThenUse (.ListComp we [⟨tg,cc,ff,0⟩] sc pos) X.env _ >>= _) _ _ s;refine Ab ?_;unfold evalThenUse;refine Ab ?_;refine Bg Z hs (hU λy hy e=>I.ok.has y.1<|S.free y hy e) S.kind S.loc<|xZ (hi gb s σ H _ I h) λv s1 h1=>xZ h1 λitv k h2=>?_;obtain⟨it,fp,tn,J,l,e,I2,T,fh,f2,W,⟨m0,w0⟩,turn⟩:=h2;subst e;refine kU (Q:=λv H1=>D.nx (σ.set i<|O v) H1) hc S I2 T fh f2 (λC ex=>hg C k l ex) (λC ex=>oh C k l ex) (λC ex=>he C k l ex) W m0 w0 turn ?_;intro D' C H' s' I' q ⟨m,hm⟩ fC;obtain⟨f0,f1,f2,f3,f4,f5⟩:=fC;show Hb (Kb X.prog X.w) X.A (Wf (.Name y d) X.env<|.ref D') (λ_ c=>∃m,c.heap.Ns C m/\∀h',E3 C c.heap h'->_) X.xe s';refine wpAny_assign_Name<|CH I' hN hy (.inl hl) (v:=.ref D') Z (λc t B=>?_)<|.inr hl;obtain⟨a,B,ha⟩:=B;have F:C≠a:=by
  rcases ha with z|z
  .rw[z];exact f1
  .exact λe=>f4 y a z e.symm
 obtain⟨G,L⟩:∃G,c.heap.Ns C G:=⟨m,hm.sameBut B F⟩;refine⟨G,L,λh' sb=>Db<|Db ⟨_,H',?_,q⟩⟩;exact t.turned (t':=c.toks) (λb o hb e=>(sb.2 b hb).trans e) f0 f1 f3 f4 f5
inductive Kd where|l|t
def ItAt(k:Kd)(h:Dc)(it a:Eb)(i:Nat):Prop:=match k with | .l=>h.IsListIter it a i | .t=>h.IsTupleIter it a i
def SqAt(k:Kd)(h:Dc)(a:Eb)(b:Zi Bb):Prop:=match k with | .l=>h.IsList a b | .t=>h.IsTuple a b
noncomputable def UZ(k:Kd)(a:Eb):Obj:=match k with | .l=>{cls:=.type "list_iterator",data:=.fields #[.ref a,.int 0 0]} | .t=>{cls:=.type "tuple_iterator",data:=.fields #[.ref a,.int 0 0]}
theorem ItAt.at(x:ItAt k h it a i)(f:∀o,h.get? it=O o->h'.get? it=O o):ItAt k h' it a i:=by
 cases k with
 |l=>exact Heap.IsListIter.at x f
 |t=>exact Heap.IsTupleIter.at x f
theorem SqAt.at(x:SqAt k h a xs)(f:∀o,h.get? a=O o->h'.get? a=O o):SqAt k h' a xs:=by
 cases k with
 |l=>exact Heap.IsList.at x f
 |t=>obtain⟨o,e,r⟩:=x;exact⟨o,f o e,r⟩
theorem ItAt.obj(x:ItAt k h it a i):∃o,h.get? it=O o/\∀v,o.data≠.cell v:=by
 cases k with
 |l=>obtain⟨o,e,c,d⟩:=x;exact⟨o,e,λv z=>by rw[d]at z;cases z⟩
 |t=>obtain⟨o,e,c,d⟩:=x;exact⟨o,e,λv z=>by rw[d]at z;cases z⟩
theorem ItAt.new(k:Kd){h:Dc}{it a:Eb}(e:h.get? it=O (UZ k a)):ItAt k h it a 0:=by
 cases k with
 |l=>exact⟨_,e,Z,Z⟩
 |t=>exact⟨_,e,Z,Z⟩
section
variable {w:Wb}
theorem oW(hl:SqAt k s.heap a xs)(h:Q (.ref s.heap.objs.size) {s with heap:=s.heap.push<|UZ k a}):Hb (Kb prog w) A (pyIter<|.ref a) Q E s:=by
 cases k with
 |l=>exact Oe hl h
 |t=>exact Ie hl h
theorem pW(b:s.heap.IsTupleIter it t i)(d:s.heap.IsTuple t items)(hx:items[i]?=O x)(e:∀h',h'.IsTupleIter it t (i+1)->E3 it s.heap h'->Q x {s with heap:=h'}):Hb (Kb prog w) A (T2<|.ref it) Q E s:=by
 obtain⟨o,a,j,hd⟩:=id b;obtain⟨l,c,_,nl,k⟩:=d;unfold T2;refine Ab<|Zb (name:=Str.ofString "__next__") b.typeIs F.slot_tuple_iterator_next
   (wpAny_call_entry F.slot_tuple_iterator_next b.typeIs F.entry_tuple_iterator_next ?_<|F.args_tuple_iterator_next_1 _);show Hb _ _ (Of (.ref it) 0 >>= _) _ _ s;refine Ab<|Yb a hd (x:=.ref t) Z ?_;show Hb _ _ (if (K4 t==b8)=Ul then _ else _) _ _ s;rw[if_neg<|show ¬((K4 t==b8)=Ul) from X0];show Hb _ _ (Of (.ref it) 1 >>= _) _ _ s;refine Ab<|Yb a hd (x:=.int i 0) Z ?_;show Hb _ _ (seqItems? (.ref t) >>= _) _ _ s;refine Ab<|Jc c k ?_;simp only[t7,hx];refine Ab<|wpAny_setField a hd (by simp)<|Db ⟨x,Z,Db<|e _ ?_<|g9 ..⟩;exact⟨_,l7 _ a<|Obj.isFreed_of_fields<|Obj.data_mapFields hd _,(Obj.cls_mapFields ..).trans j,by
   rw[Obj.data_mapFields hd];simp[Le]⟩
theorem XW(j:A.handled=U)(b:s.heap.IsTupleIter it l i) (hl:s.heap.IsTuple l items) (hx:items[i]?=U)(k:∀h' e,Heap.ExtBut it s.heap h'->(∃o,h'.get? e=O o/\o.cls=.type "StopIteration")->E (.ref e) {s with heap:=h'}):Hb (Kb prog w) A (T2<|.ref it) Q E s:=by
 obtain⟨o,c,t,hd⟩:=id b;obtain⟨v,d,_,nl,q⟩:=hl;unfold T2;refine Ab<|Zb (name:=Str.ofString "__next__") b.typeIs F.slot_tuple_iterator_next
   (wpAny_call_entry F.slot_tuple_iterator_next b.typeIs F.entry_tuple_iterator_next ?_<|F.args_tuple_iterator_next_1 _);show Hb _ _ (Of (.ref it) 0 >>= _) _ _ s;refine Ab<|Yb c hd (x:=.ref l) Z ?_;show Hb _ _ (if (K4 l==b8)=Ul then _ else _) _ _ s;rw[if_neg<|show ¬((K4 l==b8)=Ul) from X0];show Hb _ _ (Of (.ref it) 1 >>= _) _ _ s;refine Ab<|Yb c hd (x:=.int i 0) Z ?_;show Hb _ _ (seqItems? (.ref l) >>= _) _ _ s;refine Ab<|Jc d q ?_;simp only[t7,hx];refine Ab<|Qc<|Ab<|wpAny_setField c hd (by simp) ?_;show Hb _ _ (newExc (.type "StopIteration") [] >>= _) _ _ _;refine Ab ?_;simp only[newExc,newTuple];refine Ab (Yc ?_<|by size_fits);refine Ab (m:=firstArgMember _ _)<|wpAny_of_eq (a:=b8) (by first|rfl|(simp only[firstArgMember];rfl)) ?_;refine Yc ?_ (by size_fits);simp only[raiseNew];refine Ab<|wpAny_handled ?_;first|rw[show A.in1.handled=U from j]|rw[j]
 refine Ab<|Db<|wpAny_throw ?_;exact k _ _ (((g9 ..).extBut.push _).push _) ⟨_,L0 _ Z,Z⟩
theorem cJ(b:ItAt k s.heap it a i)(hl:SqAt k s.heap a xs)(hx:xs[i]?=O x)(c:∀h',ItAt k h' it a (i+1)->E3 it s.heap h'->Q x {s with heap:=h'}):Hb (Kb prog w) A (T2<|.ref it) Q E s:=by
 cases k with
 |l=>exact wpAny_nextOf_list_item b hl hx c
 |t=>exact pW b hl hx c
theorem rJ(b:A.handled=U)(c:ItAt k s.heap it a i)(hl:SqAt k s.heap a xs)(hx:xs[i]?=U)(d:∀h' e,Heap.ExtBut it s.heap h'->(∃o,h'.get? e=O o/\o.cls=.type "StopIteration")->E (.ref e) {s with heap:=h'}):Hb (Kb prog w) A (T2<|.ref it) Q E s:=by
 cases k with
 |l=>exact wpAny_nextOf_list_end b c hl hx d
 |t=>exact XW b c hl hx d
end
abbrev BZ(h:Dc)(T:Eb)(a b:Bb):Prop:=h.get? T=O {cls:=.type "tuple",data:=.seq #[a,b]}
structure ZAp2(z TI TO i1 i2 l1 l2:Eb):Prop where
 TIz:TI≠z
 TOz:TO≠z
 i1z:i1≠z
 i2z:i2≠z
 TOTI:TO≠TI
 i1TI:i1≠TI
 i2TI:i2≠TI
 i1TO:i1≠TO
 i2TO:i2≠TO
 i2i1:i2≠i1
 l1z:l1≠z
 l1TO:l1≠TO
 l1i1:l1≠i1
 l1i2:l1≠i2
 l2z:l2≠z
 l2TO:l2≠TO
 l2i1:l2≠i1
 l2i2:l2≠i2
theorem FP(n l1 l2:Nat)(a:l1<n)(b:l2<n):ZAp2 (n+4) (n+2) (n+3) n (n+1) l1 l2:=by constructor<;>(show ¬(@Eq Nat _ _))<;>lia
section
variable {w:Wb}
end
structure Zk where
 k:Kd
 i:Eb
 l:Eb
abbrev VZ(h:Dc)(T:Eb)(a:Up):Prop:=h.get? T=O {cls:=.type "tuple",data:=.seq a.toArray}
structure ZA(S:List Zk)(z TI TO:Eb):Prop where
 TIz:TI≠z
 TOz:TO≠z
 TOTI:TO≠TI
 nd:(S.map (·.i)).Nodup
 i:∀u∈S,u.i≠z/\u.i≠TI/\u.i≠TO
 l:∀u∈S,u.l≠z/\u.l≠TO/\∀v∈S,u.l≠v.i
def Nx(h:Dc)(k:Nat)(u:Zk)(x:Bb):Prop:=∃a,SqAt u.k h u.l a/\a[k]?=O x
def KpZ(S:List Zk)(z TO:Eb)(h h':Dc):Prop:=∀c o,c≠z->c≠TO->(∀u∈S,c≠u.i)->h.get? c=O o->h'.get? c=O o
structure ZLoop(S:List Zk)(z TI TO:Eb)(as:Up)(k:Nat)(h0:Dc)(pre rest:List Zk)(vs:Up)(h:Dc):Prop where
 e:S=pre++rest
 n:vs.length=pre.length
 hz:Af h z TI TO .ellipsis
 to:VZ h TO (vs++as.drop pre.length)
 dn:∀u∈pre,ItAt u.k h u.i u.l (k+1)
 nt:∀u∈rest,ItAt u.k h u.i u.l k
 kp:KpZ S z TO h0 h
 sz:h.objs.size=h0.objs.size
 nx:∀p∈pre.zip vs,Nx h0 k p.1 p.2
section
variable {w:Wb}
theorem KpZ.l{S:List Zk}{TI TO:Eb}{u:Zk}(K:KpZ S z TO h h')(D:ZA S z TI TO)(a:u∈S)(p:SqAt u.k h u.l xs):SqAt u.k h' u.l xs:=p.at λo e=>K _ o (D.l u a).1 (D.l u a).2.1 (D.l u a).2.2 e
theorem GP{S:List Zk}{TI TO:Eb}(D:ZA S z TI TO)(qc:S≠[])(h3:S.length<=3)(hz:Af s.heap z TI TO .none) (fe:VZ s.heap TI (S.map λu=>.ref u.i)) (gf:VZ s.heap TO as) (hla:as.length=S.length)(hI:∀u∈S,ItAt u.k s.heap u.i u.l k) (hS:∀u∈S,∃xs,SqAt u.k s.heap u.l xs)(hQ:∀q h',q.length=S.length->(∀p∈S.zip q,Nx s.heap k p.1 p.2)->Af h' z TI TO (Le s.heap.objs.size)->VZ h' TO q->(∀u∈S,ItAt u.k h' u.i u.l<|k+1)->VZ h' s.heap.objs.size q->h'.objs.size=s.heap.objs.size+1->KpZ S z TO s.heap h'->Q (.ref s.heap.objs.size) {s with heap:=h'})(hE:(∃u∈S,∃xs,SqAt u.k s.heap u.l xs/\xs[k]?=U)->A.handled=U/\∀h' e,KpZ S z TO s.heap h'->(∃o,h'.get? e=O o/\o.cls=.type "StopIteration")->E (.ref e) {s with heap:=h'}):Hb (Kb prog w) A (Builtin.«zip.__next__» ⟨[.ref z],[]⟩) (λfin s'=>∃v,fin=.done (.ret v)/\Q v s') E s:=by
 show Hb _ _ (Of (.ref z) 2 >>= _) _ _ _;refine Ab<|Yb hz Z (x:=.bool Um) Z ?_;show Hb _ _ (Of (.ref z) 3 >>= _) _ _ _;refine Ab<|Yb hz Z (x:=.ref TI) Z ?_;refine Ab<|Jc fe Z ?_;have wo:((S.map λu=>K4 u.i).toArray).isEmpty=false:=by
  cases S with
  |nil=>exact absurd Z qc
  |cons _ _=>rfl
 simp only[wo,U2,if_false];show Hb _ _ (G2 (.ref z) >>= _) _ _ _;refine Ab ?_;unfold G2;refine Ab<|Yb hz Z (x:=.none) rfl<|Db ?_;simp only[if_true];refine Ab<|Qc ?_;refine Ab<|Yb hz Z (x:=.ref TO) Z ?_;refine Ab<|Lc hz (by simp) λM y d=>?_
 replace y:Af M z TI TO .ellipsis:=y
 have z0:ZLoop S z TI TO as k s.heap [] S [] M:=⟨Z,Z,y,d.extBut _ _ D.TOz gf,(λu h=>by cases h),λu I=>(hI u I).at λo e=>d.extBut _ o (D.i u I).1 e,λc o G _ _ e=>d.extBut _ _ G e,d.1,λp h=>by cases h⟩;refine Ab<|Td _ (λr b t=>b=(U,())/\∃pre rest q h,r=(rest.map λu=>K4 u.i).zipIdx pre.length/\t={s with heap:=h}/\ZLoop S z TI TO as k s.heap pre rest q h) _ ?turn ?fin _ _ ⟨Z,[],S,[],M,Z,Z,z0⟩
 case turn =>
  rintro x r b t ⟨rfl,pre,rest,q,h,e,rfl,L⟩;cases rest with
  |nil=>cases e
  |cons u rest =>
   cases e;have I:u∈S:=by rw[L.e];simp
   obtain⟨xs,hxs⟩:=hS u I;have nd:=D.nd;rw[L.e,Q3,N6]at nd;obtain⟨_,nd2,nd1⟩:=nd;rw[E1,k6]at nd2;obtain⟨Dz,DTI,DTO⟩:=D.i u I;refine Ab<|wpAny_onRaise ?_;show Hb _ _ (T2 (.ref u.i) >>= _) _ _ _;have hl:=L.kp.l D I hxs;cases hx:xs[k]? with
   |none =>
    obtain⟨hh,hE⟩:=hE ⟨u,I,xs,hxs,hx⟩;refine Ab<|rJ hh (L.nt u<|by simp) hl hx λhq e hsq he=>?_;obtain⟨oe,hoe,hce⟩:=he;have hzq:Af hq z TI TO .ellipsis:=hsq _ _ Dz.symm L.hz;have hez:e≠z:=λx=>by subst x;rw[hzq]at hoe;cases hoe;simp at hce
    exact Lc hzq (by simp) λh₉ _ P=>hE h₉ e (λc o G c2 c3 x=>P.extBut _ _ G<|hsq _ _ (c3 u I)<|L.kp c o G c2 c3 x) ⟨oe,P.extBut _ _ hez hoe,hce⟩
   |some x =>
    refine Ab<|cJ (L.nt u<|by simp) hl hx λha hi hsa=>Db ?_;have R:=hsa.extBut _ _ DTO.symm L.to;have ln:=L.n;have lS:S.length=pre.length+(rest.length+1):=by rw[L.e];simp
    have lz:(q++as.drop pre.length).length=S.length:=by rw[N0,K2];lia
    have l3:(q++as.drop pre.length).toArray.size<=3:=by rw[P0];exact le_of_eq_of_le lz h3
    refine Ab<|Jc R Z ?_;refine Ab (wpAny_updateSeq R Z (Ab<|wpAny_letGo<|Db ⟨Z,pre++[u],rest,q++[x],_,?_,Z,?_⟩) (q0 l3<|by decide)<|by rw[aQ];exact q0 l3<|by decide)
    .rw[N0];rfl
    have js:E3 TO ha (ha.update TO (W2 (·.setIfInBounds pre.length x))):=g9 ..;obtain⟨a,ea⟩:∃a,as.drop pre.length=a::as.drop (pre.length+1):=⟨_,W4<|by lia⟩;have cp:∀c,c≠u.i->c≠TO->∀o,h.get? c=O o->(ha.update TO (W2 (·.setIfInBounds pre.length x))).get? c=O o:=λc G c2 o e=>js.extBut _ o c2<|hsa.extBut _ o G e;refine⟨by rw[L.e];simp,by simp[ln],cp _ Dz.symm D.TOz.symm _ L.hz,?_,λv Y=>?_,λv Y=>?_,λc o G c2 c3 e=>cp c (c3 u I) c2 o<|L.kp c o G c2 c3 e,by rw[js.1,hsa.1];exact L.sz,λp hp=>?_⟩
    .show _=_;rw[l7 _ R Z];simp[W2,ln,ea]
    .rcases W0.mp Y with Y|Y
     .exact(L.dn v Y).at λo e=>cp _ (nd1 _ (u6 Y) _<|u0 ..) (D.i v<|by rw[L.e];simp[Y]).2.2 o e
     .rw[Y0.mp Y];exact hi.at λo e=>js.extBut _ o DTO e
    .exact(L.nt v<|i0 _ Y).at λo e=>cp _ (λz=>nd2.1<|z ▸ u6 Y) (D.i v<|by rw[L.e];simp[Y]).2.2 o e
    .rw[List.zip_append ln.symm]at hp;rcases W0.mp hp with hp|hp
     .exact L.nx p hp
     .rw[Y0.mp hp];exact⟨xs,hxs,hx⟩
 case fin =>
  rintro b t ⟨rfl,pre,rest,q,h,e,rfl,L⟩;obtain rfl:rest=[]:=by
   cases rest with
   |nil=>rfl
   |cons _ _=>cases e
  have eS:=L.e;rw[B3]at eS;subst eS;have ld:as.drop S.length=[]:=B4<|A1 hla;have ut:=L.to;rw[ld,B3]at ut;refine Ab<|Jc ut rfl<|Ab<|Me ?_ (by have:=L.n;simp;exact q0 (show q.length<=3 by exact le_of_eq_of_le this h3)<|by decide);have hzlt:z<h.objs.size:=G0 L.hz;show Hb _ _ (T7 (.ref z) (.ref h.objs.size) >>= _) _ _ _;refine Ab ?_;unfold T7;have hz₆:Af (h.push {cls:=.type "tuple",data:=.seq q.toArray}) z TI TO .ellipsis:=g0 _ L.hz;refine Ab<|Lc hz₆ (by simp) λh₇ B C=>?_
  replace B:Af h₇ z TI TO (Le h.objs.size):=B
  refine Lc B (by simp) λm j F=>?_
  replace j:Af m z TI TO (Le h.objs.size):=j
  have up:∀c o,c≠z->h.get? c=O o->m.get? c=O o:=λc o G e=>F.extBut _ _ G<|C.extBut _ _ G<|g0 _ e;have hT₈:VZ m h.objs.size q:=F.extBut _ _ (X2 hzlt)<|C.extBut _ _ (X2 hzlt)<|L0 _ Z;have hz8:m.objs.size=h.objs.size+1:=by rw[F.1,C.1,u3]
  rw[L.sz]at j hT₈ hz8;refine Db ⟨_,Z,?_⟩;show Q (.ref h.objs.size) _;rw[L.sz];exact hQ q m L.n L.nx j (up _ _ D.TOz ut) (λu I=>(L.dn u I).at λo e=>up _ o (D.i u I).1 e) hT₈ hz8 λc o G c2 c3 e=>up c o G<|L.kp c o G c2 c3 e
theorem EY{S:List Zk}{TI TO:Eb}{Q:Yi Bb->Gb->Prop}(D:ZA S z TI TO)(t:S≠[])(v:S.length<=3)(j:Af s.heap z TI TO .none) (x:VZ s.heap TI (S.map λu=>.ref u.i)) (y:VZ s.heap TO as) (d:as.length=S.length)(B:∀u∈S,ItAt u.k s.heap u.i u.l k) (C:∀u∈S,∃c,SqAt u.k s.heap u.l c)(G:∀a h',a.length=S.length->(∀p∈S.zip a,Nx s.heap k p.1 p.2)->Af h' z TI TO (Le s.heap.objs.size)->VZ h' TO a->(∀u∈S,ItAt u.k h' u.i u.l<|k+1)->VZ h' s.heap.objs.size a->h'.objs.size=s.heap.objs.size+1->KpZ S z TO s.heap h'->Q (O<|.ref s.heap.objs.size) {s with heap:=h'})(m:(∃u∈S,∃c,SqAt u.k s.heap u.l c/\c[k]?=U)->A.handled=U/\∀h',KpZ S z TO s.heap h'->Q U {s with heap:=h'}):Hb (Kb prog w) A (Md<|.ref z) Q E s:=by
 have q:s.TypeIs (.ref z) "zip":=⟨_,j,Z⟩;unfold Md;refine Ab<|Od<|Zb (name:=Str.ofString "__next__") q F.slot_zip_next
   (wpAny_call_entry F.slot_zip_next q F.entry_zip_next (GP D t v j x y d B C (λa h' I L M P R Y a7 a8=>Db<|G a h' I L M P R Y a7 a8) λh=>⟨(m h).1,λh' e hk he=>?_⟩)<|F.args_zip_next_1 _);obtain⟨o,ho,hc⟩:=he;exact Ab<|Ad (T:="StopIteration") (b:=Ul) ⟨o,ho,hc⟩ Lf<|Db<|(m h).2 h' hk
theorem fq{l:List α}(h:l.length=2):∃a b,l=[a,b]:=by
 cases l with
 |nil=>cases h
 |cons a l=>cases l with
  |nil=>cases h
  |cons b l=>cases l with
   |nil=>exact⟨a,b,Z⟩
   |cons _ _=>cases h
theorem SqAt.inj{ys:Zi Bb}(p:SqAt k h a xs)(q:SqAt k h a ys):xs=ys:=by cases k<;>obtain⟨o,e,_,n,d⟩:=p<;>obtain⟨i,b,_,j,c⟩:=q<;>rw[e]at b<;>cases b<;>rw[d]at c<;>cases c<;>rfl
section
variable {TI TO:Eb}{k:Nat}{k1 k2:Kd}{a1 a2 x1 x2:Bb}{Q:Yi Bb->Gb->Prop}
theorem ZAp2.za(D:ZAp2 z TI TO i1 i2 l1 l2):ZA [⟨k1,i1,l1⟩,⟨k2,i2,l2⟩] z TI TO:=⟨D.TIz,D.TOz,D.TOTI,by simp[D.i2i1.symm],by simp[D.i1z,D.i2z,D.i1TI,D.i2TI,D.i1TO,D.i2TO],by simp[D.l1z,D.l2z,D.l1TO,D.l2TO,D.l1i1,D.l1i2,D.l2i1,D.l2i2]⟩
theorem KpZ.two(K:KpZ [⟨k1,i1,l1⟩,⟨k2,i2,l2⟩] z TO h h'):∀c o,c≠z->c≠TO->c≠i1->c≠i2->h.get? c=O o->h'.get? c=O o:=λc o a b d i e=>K c o a b (by simp[d,i]) e
theorem lU(D:ZAp2 z TI TO i1 i2 l1 l2)(m:Af s.heap z TI TO .none) (q:BZ s.heap TI (.ref i1) (.ref i2)) (t:BZ s.heap TO a1 a2)(v:ItAt k1 s.heap i1 l1 k) (x:ItAt k2 s.heap i2 l2 k) (a:SqAt k1 s.heap l1 xs1) (b:SqAt k2 s.heap l2 xs2) (d:xs1[k]?=O x1) (i:xs2[k]?=O x2)(y:∀h',Af h' z TI TO (Le s.heap.objs.size)->BZ h' TO x1 x2->ItAt k1 h' i1 l1 (k+1)->ItAt k2 h' i2 l2 (k+1)->BZ h' s.heap.objs.size x1 x2->h'.objs.size=s.heap.objs.size+1 ->(∀c o,c≠z->c≠TO->c≠i1->c≠i2->s.heap.get? c=O o->h'.get? c=O o)->Q (O<|.ref s.heap.objs.size) {s with heap:=h'}):Hb (Kb prog w) A (Md<|.ref z) Q E s:=by
 refine EY (k:=k) (as:=[a1,a2]) (D.za (k1:=k1) (k2:=k2)) (by simp) (V8 2) m q t Z (by simp[v,x]) (by simp;exact⟨⟨_,a⟩,_,b⟩) (λvs h' n nx B b2 j C F G=>?_) λh=>?_
 .obtain⟨I,L,rfl⟩:=fq n
  .obtain⟨_,M,P⟩:=nx (⟨k1,i1,l1⟩,I) (by simp);obtain⟨_,R,Y⟩:=nx (⟨k2,i2,l2⟩,L) (by simp);cases M.inj a;cases R.inj b;cases d.symm.trans P;cases i.symm.trans Y;exact y h' B b2 (j ⟨k1,i1,l1⟩<|by simp) (j ⟨k2,i2,l2⟩<|by simp) C F G.two
 .obtain⟨u,l,_,p,e⟩:=h;simp at l;rcases l with rfl|rfl
  .cases p.inj a;cases d.symm.trans e
  .cases p.inj b;cases i.symm.trans e
theorem pH(d:A.handled=U)(D:ZAp2 z TI TO i1 i2 l1 l2)(e:Af s.heap z TI TO .none) (i:BZ s.heap TI (.ref i1) (.ref i2)) (j:BZ s.heap TO a1 a2)(l:ItAt k1 s.heap i1 l1 k) (m:ItAt k2 s.heap i2 l2 k) (a:SqAt k1 s.heap l1 xs1) (b:SqAt k2 s.heap l2 xs2) (q:xs1[k]?=U\/xs2[k]?=U)(t:∀h',(∀c o,c≠z->c≠TO->c≠i1->c≠i2->s.heap.get? c=O o->h'.get? c=O o)->Q U {s with heap:=h'}):Hb (Kb prog w) A (Md<|.ref z) Q E s:=by
 refine EY (k:=k) (as:=[a1,a2]) (D.za (k1:=k1) (k2:=k2)) (by simp) (V8 2) e i j Z (by simp[l,m]) (by simp;exact⟨⟨_,a⟩,_,b⟩) (λG h' n nx _ _ _ _ _ _=>?_) λh=>⟨d,λh' K=>t h' K.two⟩;obtain⟨v,x,rfl⟩:=fq n
 .obtain⟨_,y,B⟩:=nx (⟨k1,i1,l1⟩,v) (by simp);obtain⟨_,C,F⟩:=nx (⟨k2,i2,l2⟩,x) (by simp);cases y.inj a;cases C.inj b;rcases q with h|h
  .cases h.symm.trans B
  .cases h.symm.trans F
end
end
noncomputable abbrev Ex(h:Dc)(a:Kd)(b:Kd)(l1 l2:Eb):Dc:=((h.push<|UZ a l1).push<|UZ b l2)
noncomputable abbrev Fx(h:Dc)(a:Kd)(b:Kd)(l1 l2:Eb):Dc:=(Ex h a b l1 l2).push {cls:=.type "tuple",data:=.seq #[.ref h.objs.size,.ref (h.push<|UZ a l1).objs.size]}
noncomputable abbrev Gx(h:Dc)(a:Kd)(b:Kd)(l1 l2:Eb):Dc:=(Fx h a b l1 l2).push {cls:=.type "tuple",data:=.seq #[.none,.none]}
noncomputable abbrev RK(h:Dc)(a:Kd)(b:Kd)(l1 l2:Eb):Dc:=(Gx h a b l1 l2).push {cls:=.type "zip",data:=.fields #[.none,.bool Um,.bool Um,.ref (Ex h a b l1 l2).objs.size,.ref (Fx h a b l1 l2).objs.size]}
theorem GF(a:Kd)(b:Kd)(l1 l2:Eb)(xs1 xs2:Zi Bb):Qi (Builtin.«zip.__new__» ⟨[.type "zip",.ref l1,.ref l2],[]⟩) (λ_ R s=>SqAt a s.heap l1 xs1/\SqAt b s.heap l2 xs2 /\ R (.ok<|.ret<|.ref (Gx s.heap a b l1 l2).objs.size) {s with heap:=RK s.heap a b l1 l2}):=
 .of_wp λprog w A R s h=>by
  obtain⟨j,g,d,k,os⟩:=s;obtain⟨l,m,h⟩:=h;have q:=sub_zip;have c:SqAt a (Shared.heap ⟨j,g,d,k,os⟩) l1 xs1:=l;have i:SqAt b (Shared.heap ⟨(j.push<|UZ a l1),g,d,k,os⟩) l2 xs2:=(SqAt.at m λo e=>g0 _ e)
  wp_walk using oW c,oW i
  exact⟨_,Z,h⟩
inductive Ki where|non|bl|int|str|lst|tup|dct
 deriving DecidableEq
noncomputable def Ki.nm:Ki->String
 | .non=>"NoneType" | .bl=>"bool" | .int=>"int" | .str=>"str" | .lst=>"list" | .tup=>"tuple" | .dct=>"dict"
noncomputable def KiOf(K:B0)(H:Hp):V->Ki->Prop
 | .non,k=>k=.non
 | .bl _,k=>k=.bl
 | .int _,k=>k=.int
 | .str _,k=>k=.str
 | .ref a,k=>(k=.lst/\∃c,SqL K H a c)\/(k=.tup/\∃c,SqT K H a c)\/(k=.dct/\((∃b,H a=O (.dK b))\/∃b,H a=O (.dT b)))
 |_,_=>Al
noncomputable def Ki.sub:Ki->Ki->Bool
 | .bl,.int=>Ul
 |a,b=>decide<|a=b
theorem KiOf.typeIs(I:Inv X gb σ H s)(h:KiOf X.K H x k)(r:RelV x u):s.TypeIs u k.nm:=by
 cases x with
 |non=>cases h;cases r;rfl
 |bl b=>cases h;cases r;rfl
 |int i=>cases h;obtain⟨t,rfl⟩:=r;rfl
 |str i=>cases h;obtain⟨t,rfl⟩:=r;rfl
 |ref a =>
  cases r;rcases h with⟨rfl,l,d⟩|⟨rfl,l,d⟩|⟨rfl,⟨j,d⟩|⟨j,d⟩⟩
  .obtain⟨its,_,⟨o,n,e,c,_⟩,_⟩:=I.list d;exact⟨o,e,c⟩
  .obtain⟨its,_,⟨o,e,c,_⟩,_⟩:=I.tuple d;exact⟨o,e,c⟩
  .obtain⟨_,_,_,_,o,m,q,e,c,_⟩:=I.hok a _ d;exact⟨o,e,c.1⟩
  .obtain⟨_,_,_,_,o,m,q,e,c,_⟩:=I.hok a _ d;exact⟨o,e,c.1⟩
 |byt _=>cases h
 |flt _=>cases h
 |ty _=>cases h
theorem YZ(T:Ki):Vh (.type T.nm)=pure (.type "type"):=by
 cases T
 .exact F.isi_meta_NoneType
 .exact F.isi_meta_bool
 .exact F.isi_meta_int
 .exact F.isi_meta_str
 .exact F.isi_meta_list
 .exact F.isi_meta_tuple
 .exact F.isi_meta_dict
theorem YW(k T:Ki):Kh (.type k.nm) (.type T.nm)=pure (k.sub T):=by cases k<;>cases T<;>(show Kh (.type _) (.type _)=pure _;rw[isSubtype_type];kernel_rfl)
theorem Zw(k T:Ki)(h:k.sub T=Um):(YQ k.nm==YQ T.nm)=false:=by cases k<;>cases T<;>first|(exfalso;revert h;decide)|decide +kernel
def vA(K:B0):List V->Hp->VK->Prop:=λa H Q=>∃(x:V) (k:Ki) (T:Ki),a=[x,.ty T.nm]/\KiOf K H x k/\Q (.bl<|k.sub T) H
theorem av:nZ X (.builtin "isinstance") (vA X.K):=by
 intro gb s σ H y us Q I r h;obtain⟨x,k,T,rfl,c,q⟩:=h;obtain⟨u,v,rfl,j,w⟩:=NK r;obtain rfl:v=.type T.nm:=w;have m:=c.typeIs I j;cases l:k.sub T with
 |true=>rw[l]at q;exact Ic (Vg (Tx:=k.nm) (YZ T)<|by rw[YW,l]) ⟨m,.bl Ul,H,I,Z,q⟩
 |false =>
  rw[l]at q;have d:Kh (.type k.nm) (.type T.nm)=pure false:=by rw[YW,l]
  have e:=Zw k T l;have fin:EP X gb σ Q (.bool Um) {s with toks:=s.toks+1}:=⟨.bl Um,H,I.tok _,Z,q⟩;cases x with
  |non=>cases c;cases j;exact Ic (isinstance_false_none e (YZ T) d) fin
  |bl b=>cases c;cases j;exact Ic (isinstance_false_bool e (YZ T) d) fin
  |int i=>cases c;obtain⟨t,rfl⟩:=j;exact Ic (isinstance_false_int e (YZ T) d) fin
  |str i=>cases c;obtain⟨t,rfl⟩:=j;exact Ic (isinstance_false_str e (YZ T) d) fin
  |ref a =>
   cases j;rcases c with⟨rfl,_⟩|⟨rfl,_⟩|⟨rfl,_⟩
   .exact Ic (isinstance_false_list e (YZ T) d) ⟨m,fin⟩
   .exact Ic (isinstance_false_tuple e (YZ T) d) ⟨m,fin⟩
   .exact Ic (Qe e (YZ T) d) ⟨m,fin⟩
  |byt _=>cases c
  |flt _=>cases c
  |ty _=>cases c
def HM(K:B0):List V->Hp->VK->Prop:=λb H Q=>∃(a:Eb) (bs:List Bool),b=[.ref a]/\SqL K H a (bs.map V.bl)/\Q (.bl<|bs.all id) H
theorem HF{bs:List Bool}(r:Vals (bs.map V.bl) us)(i:Nat)(v:Bb)(h:us[i]?=O v):∃b,bs[i]?=O b/\v=.bool b:=by
 cases e:bs[i]? with
 |none =>
  have a:(bs.map V.bl)[i]?=none:=by rw[G1,e];rfl
  rw[r.none_of a]at h;cases h
 |some b=>obtain⟨u,c,d⟩:=r.get (i:=i) (x:=.bl b) (by rw[G1,e];rfl);rw[c]at h;cases h;exact⟨b,Z,d⟩
theorem vG(bs:List Bool):((S2 bs.length).all λi=>(bs[i]?).getD Ul)=bs.all id:=by
 rw[Z6,L4,L4];constructor
 .intro h b a;obtain⟨i,hi,e⟩:=MQ.mp a;have:=h i<|Q4.mpr hi;rw[M0 hi,A6,e]at this;exact this
 .intro h i hi;have hi:=Q4.mp hi;rw[M0 hi,A6];exact h _<|W5 hi
theorem bv(l:X.calm=Ul):nZ X (.builtin "all") (HM X.K):=by
 intro gb s σ H C us Q I r h;obtain⟨a,bs,rfl,m,q⟩:=h;obtain⟨u,rfl,t⟩:=iJ r;cases t;obtain⟨its,d,p,F⟩:=I.list m;have hl:=p.isList;have w:a<s.heap.objs.size:=by obtain⟨_,e,_⟩:=hl;exact G0 e
 refine call_all_walk<|Oe hl ?_;refine⟨s.heap.objs.size,[s.heap.objs.size,a],[s.heap.objs.size],its.toArray.size,_,_,λi=>(bs[i]?).getD Ul,Z,Walks.list (A:=X.A.in1) (I.ok.hd l) _ a (U0 w) its.toArray,
   ⟨⟨_,L0 _ Z,Z,Z⟩,hl.push _⟩,λi v s' G L hP j=>?_,λh' x y=>?_⟩
 .obtain⟨b,e,rfl⟩:=HF d i v (by simpa using hP);simp only[e,A6]at j;exact Xc j
 .have e:((S2 its.toArray.size).all λi=>(bs[i]?).getD Ul)=bs.all id:=by
   have k:=d.length;rw[j0]at k;rw[P0,<-k];exact vG bs
  rw[e];refine⟨.bl<|bs.all id,H,I.kept (h':=h') (t':=x) λb o c=>y b o (λB=>?_)<|g0 _ c,Z,q⟩;rw[Y0.mp B]at c;exact j4 _<|G0 c
def Sq(k:Kd)(K:B0)(H:Hp)(a:Eb)(b:List V):Prop:=match k with | .l=>SqL K H a b | .t=>SqT K H a b
theorem Inv.sq(I:Inv X gb σ H s)(h:Sq k X.K H a xs):∃its:Up,Vals xs its/\SqAt k s.heap a its.toArray/\xs.length<=sizeLine:=by
 cases k with
 |l=>obtain⟨its,r,p,z⟩:=I.list h;exact⟨its,r,p.isList,z⟩
 |t=>obtain⟨its,r,p,z⟩:=I.tuple h;exact⟨its,r,p,z⟩
theorem Inv.sq_inj(I:Inv X gb σ H s)(h:Sq k X.K H a xs)(h':Sq k X.K H a ys):xs=ys:=by
 cases k with
 |l=>exact I.list_inj h h'
 |t=>exact I.tuple_inj h h'
noncomputable def IM(K:B0)(e:Kd)(j:Kd)(l1 l2:Eb):It :=
 ⟨λi H=>∃a c b d,Sq e K H l1 a/\Sq j K H l2 b/\a[i]?=O c/\b[i]?=O d,
  λi H x H'=>∃T c d,H T=U/\x=.ref T/\H'=kZ H T (.tup [c,d])/\(∀ys,Sq e K H l1 ys->ys[i]?=O c)/\(∀ys,Sq j K H l2 ys->ys[i]?=O d),
  λi H=>∃a b,Sq e K H l1 a/\Sq j K H l2 b/\(a.length<=i\/b.length<=i)⟩
noncomputable def JM(K:B0)(S:List Zk):It :=
 ⟨λi H=>∀u∈S,∃ys x,Sq u.k K H u.l ys/\ys[i]?=O x,
  λi H x H'=>∃T a,H T=U/\x=.ref T/\H'=kZ H T (.tup a)/\a.length=S.length/\∀p∈S.zip a,∀ys,Sq p.1.k K H p.1.l ys->ys[i]?=O p.2,
  λi H=>(∀u∈S,∃ys,Sq u.k K H u.l ys)/\∃u∈S,∃ys,Sq u.k K H u.l ys/\ys.length<=i⟩
theorem HP(I:Inv X gb σ H s){S:List Zk}:∀{a:Up},a.length=S.length->(∀u∈S,∃ys x,Sq u.k X.K H u.l ys/\ys[i]?=O x)->(∀p∈S.zip a,Nx s.heap i p.1 p.2)->∃b:List V,Vals b a/\b.length=S.length/\∀p∈S.zip b,∀ys,Sq p.1.k X.K H p.1.l ys->ys[i]?=O p.2:=by
 induction S with
 |nil=>intro a n _ _;cases a with|nil=>exact⟨[],.nil,rfl,λp h=>by cases h⟩|cons _ _=>cases n
 |cons u S m =>
  intro a n d nx;cases a with
  |nil=>cases n
  |cons v a =>
  obtain⟨ys,x,q,e⟩:=d u u0;obtain⟨its,t,p,_⟩:=I.sq q;obtain⟨G,hw,w⟩:=t.get e;obtain⟨y,B,C⟩:=nx (u,v) u0;cases B.inj p;have:its[i]?=O v:=by simpa using C
  cases hw.symm.trans this;obtain⟨b,r,l,h⟩:=m (m9 n) (λu h=>d u<|i0 _ h) λp h=>nx p<|i0 _ h;refine⟨x::b,.cons w r,by rw[U1,l];rfl,λp c F j=>?_⟩;rcases T0.mp c with rfl|c
  .rw[I.sq_inj j q];exact e
  .exact h p c F j
theorem Hx{K:B0}(S:List Zk)(z TI TO:Eb)(D:ZA S z TI TO)(qc:S≠[])(h3:S.length<=3):Turn P w K (.Tuple es kk pos) (JM K S) (z::TI::TO::S.map (·.i)) z (λi h=>Af h z TI TO .none/\VZ h TI (S.map λu=>.ref u.i)/\(∃as:Up,as.length=S.length/\VZ h TO as)/\∀u∈S,ItAt u.k h u.i u.l i) where
 mem:=by simp
 obj:=λi h st b a=>by
  obtain⟨F,C,⟨as,Y,G⟩,t⟩:=st;simp only[T0,J0]at a;rcases a with rfl|rfl|rfl|⟨u,d,rfl⟩
  .exact⟨_,F,λv e=>by cases e⟩
  .exact⟨_,C,λv e=>by cases e⟩
  .exact⟨_,G,λv e=>by cases e⟩
  .exact(t u d).obj
 keep:=λi h h' st k=>by obtain⟨F,C,⟨as,Y,G⟩,t⟩:=st;exact⟨k _ (by simp) _ F,k _ (by simp) _ C,⟨as,Y,k _ (by simp) _ G⟩,λu d=>(t u d).at λo e=>k _ (by simp;exact .inr<|.inr<|.inr ⟨u,d,Z⟩) _ e⟩
 item:=by
  intro X hP hw hK hc i gb s σ H E I L st M;subst hP hw hK;obtain⟨F,C,⟨as,Y,G⟩,t⟩:=st;have hS:∀u∈S,∃B,SqAt u.k s.heap u.l B:=λu d=>by obtain⟨ys,x,q,e⟩:=M u d;obtain⟨its,R,p,_⟩:=I.sq q;exact⟨_,p⟩
  refine EY D qc h3 F C G Y t hS (λvs h' n nx b1 b2 b3 b5 b6 b7=>?_) λ⟨u,d,B,p,e⟩=>?_
  rotate_left
  .obtain⟨ys,x,q,e'⟩:=M u d;obtain⟨its,R,p',_⟩:=I.sq q;obtain⟨w',hw,_⟩:=R.get e';cases p.inj p';have:its[i]?=none:=by simpa using e
   cases this.symm.trans hw
  obtain⟨B,R,lx,hx⟩:=HP I n M nx;have hTn:s.heap.objs.size≠z:=X2<|G0 F;refine⟨_,Z,wpAny_letOwnedTupleGo_zip (s:={s with heap:=h'}) b1 λh2 zf dm=>?_⟩;have kp:∀b o,b∉z::TI::TO::S.map (·.i)->s.heap.get? b=O o->h2.get? b=O o:=λb o a e=>by simp only[T0,J0,not_or,not_exists,not_and]at a;obtain⟨g1,g2,g3,f⟩:=a;exact dm.extBut _ _ g1<|b7 b o g1 g3 (λu d z=>f u d z.symm) e
  have hTI2:VZ h2 TI (S.map λu=>.ref u.i):=dm.extBut _ _ D.TIz<|b7 TI _ D.TIz (U3 D.TOTI) (λu d=>(D.i u d).2.1.symm) C;have hT2:VZ h2 s.heap.objs.size vs:=dm.extBut _ _ hTn b5;have vd:H s.heap.objs.size=none:=I.hok.fresh<|A0 _;have wl:∀b u,H b=O u->b∉z::TI::TO::S.map (·.i):=λb u e a=>by have:=(L b a).1;rw[e]at this;cases this
  have I2:Inv X gb σ (kZ H s.heap.objs.size<|.tup B) {s with heap:=h2}:=by
   refine I.step (g':=s.gens) (d':=s.drawn) (ch:=z::TI::TO::S.map (·.i)) (λb a=>?_) (λb o _ _ y e _=>kp b o y e) (λb o _ _ y e _=>⟨o.slots,kp b o y e⟩) (λb o _ e n=>?_)
    (λb o y e=>⟨o,kp b o y e⟩) (λb B e=>?_) (λb o B e=>?_) (λb ps e=>⟨#[],?_⟩) (λm hm=>?_) (λb o e=>?_) I.bare
   .obtain⟨f0,f1,f2,f3,f4,f5⟩:=L b a;exact⟨f3,f1,f4,f5⟩
   .rw[zX<|U0<|G0 e];exact n
   .rw[zX<|AX e vd];exact e
   .rw[zX<|AX e vd];exact e
   .rw[zX<|AX e vd,e];simp
   .obtain⟨o,mi,ep,ho,r⟩:=hm;exact⟨o,mi,ep,kp _ o (λa=>(L _ a).2.1 Z) ho,r⟩
   .by_cases a:b=s.heap.objs.size
    .subst a;rw[OX]at e;cases e;exact⟨q0 (by rw[lx];exact h3)<|by decide,vs,R,_,hT2,Z,_,Z,Z⟩
    .rw[zX a]at e;refine(I.hok b o e).stay (λc v y q=>kp c v ?_ q) (λc q=>by rw[zX<|AX q vd];exact q) λc B q=>by rw[zX<|AX q vd];exact q
     rcases y with rfl|y
     .exact wl _ _ e
     .exact wl _ _ y
  refine⟨.ref s.heap.objs.size,_,I2,Z,⟨_,B,vd,Z,Z,lx,hx⟩,⟨zf,hTI2,⟨vs,n,dm.extBut _ _ D.TOz b2⟩,λu d=>(b3 u d).at λo e=>dm.extBut _ _ (D.i u d).1 e⟩,λb a=>?_⟩;rw[zX ?_]
  .exact(L b a).1
  .rintro rfl;simp only[T0,J0]at a;rcases a with e|e|e|⟨u,d,e⟩
   .exact hTn e
   .exact X2 (G0 C) e
   .exact X2 (G0 G) e
   .obtain⟨o,eo,_⟩:=(t u d).obj;exact X2 (G0 eo) e.symm
 done:=by
  intro X hP hw hK hc i gb s σ H E I L st M;subst hP hw hK;obtain⟨F,C,⟨as,Y,G⟩,t⟩:=st;obtain⟨M,u,d,ys,q,ub⟩:=M;have hS:∀u∈S,∃B,SqAt u.k s.heap u.l B:=λu d=>by obtain⟨ys,q⟩:=M u d;obtain⟨its,R,p,_⟩:=I.sq q;exact⟨_,p⟩
  refine EY D qc h3 F C G Y t hS (λvs h' n nx _ _ _ _ _ _=>?_) λ_=>⟨I.ok.hd hc,λh' kp=>⟨Z,?_⟩⟩
  .obtain⟨j,hj,ej⟩:=Y4 d;obtain⟨B,p,e⟩:=nx (u,vs[j]'(v0 hj<|A1 n.symm)) (by rw[<-ej];exact MQ.mpr ⟨j,by simp;exact v0 hj<|M5 (A1 Z)<|A1 n.symm,by simp⟩);obtain⟨its,R,p',_⟩:=I.sq q;cases p.inj p';have l:=R.length;have:its[i]?=none:=M4.mpr (by lia);have e:its[i]?=O (vs[j]'(v0 hj<|A1 n.symm)):=by simpa using e
   cases this.symm.trans e
  .have wl:∀b u,H b=O u->b∉z::TI::TO::S.map (·.i):=λb u e a=>by have:=(L b a).1;rw[e]at this;cases this
   have km:∀b o,b∉z::TI::TO::S.map (·.i)->s.heap.get? b=O o->h'.get? b=O o:=λb o a e=>by simp only[T0,J0,not_or,not_exists,not_and]at a;obtain⟨g1,g2,g3,f⟩:=a;exact kp b o g1 g3 (λu d z=>f u d z.symm) e
   refine I.step (g':=s.gens) (d':=s.drawn) (ch:=z::TI::TO::S.map (·.i)) (λb a=>?_) (λb o _ _ y e _=>km b o y e) (λb o _ _ y e _=>⟨o.slots,km b o y e⟩) (λb o _ e n=>n)
    (λb o y e=>⟨o,km b o y e⟩) (λb B e=>e) (λb o B e=>e) (λb ps e=>⟨#[],by rw[e];simp⟩) (λm hm=>?_) (λb o e=>?_) I.bare
   .obtain⟨f0,f1,f2,f3,f4,f5⟩:=L b a;exact⟨f3,f1,f4,f5⟩
   .obtain⟨o,mi,ep,ho,r⟩:=hm;exact⟨o,mi,ep,km _ o (λa=>(L _ a).2.1 Z) ho,r⟩
   .refine(I.hok b o e).stay (λc v y q=>km c v ?_ q) (λ_ q=>q) λ_ _ q=>q;rcases y with rfl|y
    .exact wl _ _ e
    .exact wl _ _ y
 self:=λ_ _ _ _ _ st h=>Gg st.1 h
theorem Turn.mono{K:B0}(t:Turn P w K tg J fp it tn)(g:∀i H,J'.go i H->J.go i H)(y:∀i H x H',J.yld i H x H'->J'.yld i H x H')(d:∀i H,J'.stop i H->J.stop i H):Turn P w K tg J' fp it tn where
 mem:=t.mem
 obj:=t.obj
 keep:=t.keep
 item:=λX a b c e i gb s σ H E I f q h=>wpAny_mono (t.item X a b c e i gb s σ H E I f q<|g i H h) (λr B ⟨u,j,p⟩=>⟨u,j,wpAny_mono p (λ_ C ⟨x,H',k,l,m,v⟩=>⟨x,H',k,l,y _ _ _ _ m,v⟩) λ_ _ z=>z⟩) λ_ _ z=>z
 done:=λX a b c e i gb s σ H E I f q h=>t.done X a b c e i gb s σ H E I f q (d i H h)
 self:=t.self
theorem Ix{K:B0}(d:Kd)(e:Kd)(z TI TO i1 i2 l1 l2:Eb)(D:ZAp2 z TI TO i1 i2 l1 l2):Turn P w K (.Tuple es kk pos) (IM K d e l1 l2) [z,TI,TO,i1,i2] z (λi h=>Af h z TI TO .none/\VZ h TI [.ref i1,.ref i2]/\(∃as:Up,as.length=2/\VZ h TO as)/\∀u∈[Zk.mk d i1 l1,⟨e,i2,l2⟩],ItAt u.k h u.i u.l i):=
 (Hx [⟨d,i1,l1⟩,⟨e,i2,l2⟩] z TI TO D.za (by simp)<|V8 2).mono (λi H h=>by obtain⟨v,q,y,t,j,m,B,C⟩:=h;simp[JM];exact⟨⟨_,j,_,B⟩,_,m,_,C⟩)
  (λi H x H' h=>by obtain⟨T,F,a,b,c,n,h⟩:=h;obtain⟨q,t,rfl⟩:=fq n;exact⟨T,q,t,a,b,c,h (⟨d,i1,l1⟩,q)<|by simp,h (⟨e,i2,l2⟩,t)<|by simp⟩)
  λi H h=>by obtain⟨v,y,j,m,h⟩:=h;simp[JM];exact⟨⟨⟨_,j⟩,_,m⟩,h.elim (λh=>.inl ⟨_,j,h⟩) λh=>.inr ⟨_,m,h⟩⟩
def Pz(K:B0)(d:TA):TI:=λσ H R=>d σ H λe a=>∃(b:Kd) (l1:Eb) (i:List V) (c:Kd) (l2:Eb) (j:List V),e=[.ref l1,.ref l2]/\Sq b K a l1 i/\Sq c K a l2 j/\R (IM K b c l1 l2) a
theorem jC{es:Bl}{kk:Nat}{ve:Pos}{a b:Vb}{B:TA}{p pos:Pos}(hg:Gl X "zip")(hm:X.mg "zip"=U)(ha:PA X [a,b] B)(hs:Pb [a,b] X.env=(Um,Wc a X.env)::Pb [b] X.env:=by rfl)(jc:(Sc pos<|Pb [b] X.env).any (·.1)=false:=by rfl) :
  PI X (.Tuple es kk ve) (.Call (.Name "zip" p) [a,b] [] pos) (Pz X.K B):=by
 intro gb s σ H R I h;refine Call_<|TJ I hg hm boot_zip<|W3 (xZ (ha pos gb s σ H _ I h) λus c ⟨vs,H1,m,r1,x⟩=>?_) hs jc;obtain⟨d,l1,vg,i,l2,xg,e,x,q2,q⟩:=x;subst e;obtain rfl:us=[.ref l1,.ref l2]:=by cases r1 with|cons r y=>cases r;cases y with|cons r y=>cases r;cases y;rfl
 obtain⟨fm,rv1,C,z1⟩:=m.sq x;obtain⟨be,rv2,G,z2⟩:=m.sq q2;have lt:∀{k:Kd}{l:Eb}{L:Zi Bb},SqAt k c.heap l L->l<c.heap.objs.size:=λ{k l L} p=>by
  cases k with
  |l=>obtain⟨o,e,_⟩:=p;exact G0 e
  |t=>obtain⟨o,e,_⟩:=p;exact G0 e
 refine Tg F.called_zip (by decide) (F.typeCall_zip_2 _ _) (F.newCall_zip_2 _ _) (λobj=>F.args_object_init_3 obj _ _) F.entry_zip_new (GF d i l1 l2 fm.toArray be.toArray) ⟨C,G,?_⟩;have M:(Ex c.heap d i l1 l2).objs.size=c.heap.objs.size+2:=by simp[u3]
 have P:(Fx c.heap d i l1 l2).objs.size=c.heap.objs.size+3:=by simp[u3]
 have Y:(Gx c.heap d i l1 l2).objs.size=c.heap.objs.size+4:=by simp[u3]
 have w:(RK c.heap d i l1 l2).get? (Gx c.heap d i l1 l2).objs.size=O _:=L0 _ Z;have gO:(RK c.heap d i l1 l2).get? (Fx c.heap d i l1 l2).objs.size=O _:=g0 _<|L0 _ Z;have gT:(RK c.heap d i l1 l2).get? (Ex c.heap d i l1 l2).objs.size=O _:=g0 _<|g0 _<|L0 _ Z;have g1:(RK c.heap d i l1 l2).get? c.heap.objs.size=O (UZ d l1):=g0 _ (g0 _<|g0 _<|g0 _<|L0 _<|by cases d<;>rfl);have g2:(RK c.heap d i l1 l2).get? (c.heap.push<|UZ d l1).objs.size=O (UZ i l2):=g0 _ (g0 _<|g0 _<|L0 _<|by cases i<;>rfl);have v:(c.heap.push<|UZ d l1).objs.size=c.heap.objs.size+1:=by simp[u3]
 rw[Y,P,M]at w;rw[M,v]at gT;rw[P]at gO;rw[v]at g2;show _/\_;rw[Y];have kp:∀b o,c.heap.get? b=O o->(RK c.heap d i l1 l2).get? b=O o:=λb o e=>g0 _<|g0 _<|g0 _<|g0 _<|g0 _<|e;refine⟨⟨_,w,Z⟩,Gg (s:={c with heap:=RK c.heap d i l1 l2}) w ?_⟩;refine⟨_,[c.heap.objs.size+4,c.heap.objs.size+2,c.heap.objs.size+3,c.heap.objs.size,c.heap.objs.size+1],_,_,H1,Z,m.kept (t':=c.toks) kp,Ix d i _ _ _ _ _ l1 l2<|FP _ l1 l2 (lt C)<|lt G,⟨w,gT,⟨[.none,.none],Z,gO⟩,by simp;exact⟨ItAt.new d g1,ItAt.new i g2⟩⟩,λb j=>?_,q⟩;have j:c.heap.objs.size<=b:=by
  have j:b=c.heap.objs.size+4\/b=c.heap.objs.size+2\/b=c.heap.objs.size+3\/b=c.heap.objs.size\/b=c.heap.objs.size+1:=by simpa using j
  rcases j with rfl|rfl|rfl|rfl|rfl;all_goals first|exact B1 _ _|exact A0 _
 exact m.fpOk j<|m.hok.fresh j
mutual
inductive Is (K:B0) (H:Hp):V->Fb->Prop
 |non:Is K H .non .none
 |bl (b):Is K H (.bl b) (.bool b)
 |int (i):Is K H (.int i) (.int i)
 |str (x):Is K H (.str x) (.str x)
 |lst {a xs ds}:SqL K H a xs->IsAll K H xs ds->Is K H (.ref a) (.list ds)
 |tup {a xs ds}:SqT K H a xs->IsAll K H xs ds->Is K H (.ref a) (.tuple ds)
inductive IsAll (K:B0) (H:Hp):List V->Ur->Prop
 |nil:IsAll K H [] []
 |cons {x xs d ds}:Is K H x d->IsAll K H xs ds->IsAll K H (x::xs) (d::ds)
end
theorem Is.reads(I:Inv X gb σ H s){x:V}{d:Fb}{u:Bb}(h:Is X.K H x d)(r:RelV x u):∃as,Oi s.heap u d as:=by
 refine Is.rec (motive_1:=λx d _=>∀u,RelV x u->∃as,Oi s.heap u d as) (motive_2:=λv w _=>∀us,Vals v us->∃as,We s.heap us w as) (λu r=>?_) (λb u r=>?_) (λi u r=>?_) (λx u r=>?_) (λk _ j u r=>?_) (λk _ j u r=>?_) (λus r=>?_) (λ_ _ j y us r=>?_) h u r
 .cases r;exact⟨_,.none⟩
 .cases r;exact⟨_,.bool b⟩
 .obtain⟨t,rfl⟩:=r;exact⟨_,.int i t⟩
 .obtain⟨t,rfl⟩:=r;exact⟨_,.str x t⟩
 .cases r;obtain⟨its,l,⟨o,n,e,c,d,q⟩,z⟩:=I.list k;obtain⟨as,m⟩:=j _ l;exact⟨_,.list e c q<|by simpa using m⟩
 .cases r;obtain⟨its,l,⟨o,e,c,n,q⟩,z⟩:=I.tuple k;obtain⟨as,m⟩:=j _ l;exact⟨_,.tuple e c q<|by simpa using m⟩
 .cases r;exact⟨_,.nil⟩
 .cases r with
  |cons r B=>obtain⟨as,a⟩:=j _ r;obtain⟨bs,b⟩:=y _ B;exact⟨_,.cons a b⟩
open PySem.SeqAt in
def qH(K:B0)(ym:Bool):R2:=λx y H Q=>∃d e:Fb,Is K H x d/\Is K H y e/\shaped d=Ul/\shaped e=Ul/\noMix d e=Ul/\Q (.bl<|if ym then !same d e else Kg d e) H
theorem KM(c:X.A.units+64<Oc):OpR X (Bc .Eq) (qH X.K Um):=by intro gb s σ H x y v u Q I i j h;obtain⟨d,e,i1,i2,k,l,nm,q⟩:=h;obtain⟨as,a⟩:=i1.reads I i;obtain⟨bs,b⟩:=i2.reads I j;exact eq_dataH_same a b k l c nm ⟨.bl _,H,I,Z,q⟩
theorem LM(c:X.A.units+64<Oc):OpR X (Bc .NotEq) (qH X.K Ul):=by intro gb s σ H x y v u Q I i j h;obtain⟨d,e,i1,i2,k,l,nm,q⟩:=h;obtain⟨as,a⟩:=i1.reads I i;obtain⟨bs,b⟩:=i2.reads I j;exact ne_dataH_same a b k l c nm ⟨.bl _,H,I,Z,q⟩
structure Cal(P:Cc)(w:Wb)(K:B0)(mg:Str->Yi Bb)(base:Dc)(k:Nat)(x:Str)(ps:Us)(sp:Sp):Prop where
 ex:∃(f:Eb) (fd:Hd),FnOk P w K mg base GJ k f fd ps sp/\mg x=O (.ref f)/\Y5 K (.ref f)=Ul/\Binds K fd ps []
theorem GI{k:Nat}{x:Str}{c:Us}{b:Sp}{p pos:Pos}{e:Vb}{a:Bl}{t:TA}(C:Cal X.prog X.w X.K X.mg X.base k x c b)(d:Room k X.A)(i:PA X (e::a) t)(j:Gl X x:=by rfl)
  (l:(x==("__debug__":Str))=false:=by decide) (m:Pb (e::a) X.env=(Um,Wc e X.env)::Pb a X.env:=by rfl) (q:(Sc pos<|Pb a X.env).any (·.1)=false:=by rfl) :
  PE X (.Call (.Name x p) (e::a) [] pos) (EH b [] E0 t):=by
 obtain⟨f,fd,F,v,y,B⟩:=C.ex;exact WB F d j v y B .nil BP i l m q
noncomputable def ZY(a:Oh)(N:Us)(fr:Bm)(sc:Oh):Bool :=
 Uo (sc.kind=.function)&&(sc.names.all λy=>!Uo (y.2=.cell)||decide (sc.names.lookup y.1=O .cell))&&(sc.names.all λy=>!Uo (y.2=.local)||decide (sc.names.lookup y.1=O .local)) &&
 (sc.names.all λy=>!Uo (y.2=.free)||(Uo (a.names.lookup y.1=O .cell)||decide (a.names.lookup y.1=O .free))) &&
 (fr.all λi=>match N[i]? with|some x=>Uo (sc.names.lookup x=O .free)|none=>Um)
theorem OH(h:ZY X.env.scope X.N fr sc=Ul):CompSc X own fr sc:=by
 unfold ZY at h;simp only[X1,decide_eq_true_eq,L4,Bool.or_eq_true,Bool.not_eq_true',decide_eq_false_iff_not]at h;obtain⟨⟨⟨⟨a,b⟩,c⟩,d⟩,j⟩:=h;refine⟨a,λy hy e=>?_,λy hy e=>?_,λy hy e=>?_,λi hi=>?_⟩
 .rcases b y hy with z|z
  .exact absurd e z
  .exact z
 .rcases c y hy with z|z
  .exact absurd e z
  .exact z
 .rcases d y hy with z|z
  .exact absurd e z
  .exact z
 .have:=j i hi;cases q:X.N[i]? with
  |none=>rw[q]at this;cases this
  |some x=>rw[q]at this;exact⟨x,Z,Ob this⟩
def IP(J:It)(own:Us)(fr:Bm)(g:TG)(l:TT)(q:TE)(σ:St)(H:Hp)(Q:VK):Prop :=
 ∃W:Nat->Nat->List V->St->Hp->Prop,(∃m,W 0 m [] (EM own σ fr) H)/\∀i m ys d H,W i m ys d H ->
   (J.stop i H/\∀D,H D=U->Q (.ref D) (kZ H D<|.lst ys)) \/
   (J.go i H/\ys.length<sizeLine/\∃N:List V->St->Hp->Prop,(∀e c H',N e c H'->∃j,j<m/\W (i+1) j e c H')/\∀x H',J.yld i H x H'->g x d H' λa t=>l a t λb k=>if b=Ul then q a k λy v=>N (ys++[y]) a v else N ys a k)
def mU(a:TI)(own:Us)(fr:Bm)(g:TG)(b:TT)(c:TE):TE:=λσ H Q=>a σ H λJ d=>IP J own fr g b c σ d Q
theorem cv{pos:Pos}{own:Us}{a:TI}{g:TG}{b:TT}{c:TE}(d:X.calm=Ul)(S:CompSc X own fr sc)(hi:PI X tg cc a)
  (e:∀C s H ex,PG (IX X own fr sc C s H ex) tg g) (i:∀C s H ex,Yw (IX X own fr sc C s H ex) ff b) (j:∀C s H ex,PE (IX X own fr sc C s H ex) we c)
  (k:∀x,Ld cc X.env x=pure x:=by intro _;rfl):PE X (.ListComp we [⟨tg,cc,ff,0⟩] sc pos) (mU a own fr g b c):=iC d S hi e i j k
theorem IF{pos b c:Pos}{i:Nat}{y:Str}{own:Us}{d:TI}{g:TG}{e:TT}{j:TE}(hN:X.N.Nodup)(hy:X.N[i]?=O y)(hl:X.env.scope.names.lookup y=O .local)(k:X.calm=Ul)(S:CompSc X own fr sc)(hi:PI X tg cc d)
  (l:∀C s H ex,PG (IX X own fr sc C s H ex) tg g) (m:∀C s H ex,Yw (IX X own fr sc C s H ex) ff e) (q:∀C s H ex,PE (IX X own fr sc C s H ex) we j)
  (a:Ff (.ListComp we [⟨tg,cc,ff,0⟩] sc pos) (O<|.Name y c) b.line X.env=pure true:=by rfl)
  (t:∀x,Ld cc X.env x=pure x:=by intro _;rfl):PS X (.Assign [.Name y c] (.ListComp we [⟨tg,cc,ff,0⟩] sc pos) b) (RW (mU d own fr g e j)<|YK i):=dq hN hy hl k S hi l m q a t
section
variable {K:B0}
theorem fv(h:X.K=K):IxR X (ZB K):=by subst h;exact bC
theorem kC(h:X.K=K):IxR X (aC K):=by subst h;exact tM
def JP(K:B0):List V->Hp->VK->Prop:=λa H Q=>∃(p:Eb) (ys:List V),a=[.ref p]/\(SqL K H p ys\/SqT K H p ys)/\Q (.int ys.length) H
theorem Jx(h:X.K=K):nZ X (.builtin "len") (JP K):=by subst h;exact rG
def Qz(K:B0):List V->Hp->VK->Prop:=λa H Q=>∃(p:Eb) (ys:List V),a=[.ref p]/\(SqL K H p ys\/SqT K H p ys)/\∀l,H l=U->Q (.ref l) (kZ H l<|.lst ys)
theorem sJ(h:X.K=K):nZ X (.type "list") (Qz K):=by subst h;exact sG
def KF(K:B0):List V->Hp->VK->Prop:=λa H Q=>∃(p:Eb) (ys:List V),a=[.ref p]/\((SqL K H p ys/\∀l,H l=U->Q (.ref l) (kZ H l<|.tup ys))\/(SqT K H p ys/\Q (.ref p) H))
theorem LF(h:X.K=K):nZ X (.type "tuple") (KF K):=by subst h;exact oH
theorem RJ(h:X.K=K)(a:X.calm=Ul):nZ X (.builtin "all") (HM K):=by subst h;exact bv a
theorem lC(h:X.K=K)(a:X.A.units+64<Oc):OpR X (Bc .Eq) (qH K Um):=by subst h;exact KM a
theorem mC(h:X.K=K)(a:X.A.units+64<Oc):OpR X (Bc .NotEq) (qH K Ul):=by subst h;exact LM a
theorem gv{d:Bl}{kk:Nat}{e:Pos}{a b:Vb}{c:TA}{p pos:Pos}(h:X.K=K)(i:Gl X "zip")(j:X.mg "zip"=U)(k:PA X [a,b] c)(l:Pb [a,b] X.env=(Um,Wc a X.env)::Pb [b] X.env:=by rfl)(m:(Sc pos<|Pb [b] X.env).any (·.1)=false:=by rfl) :
  PI X (.Tuple d kk e) (.Call (.Name "zip" p) [a,b] [] pos) (Pz K c):=by subst h;exact jC i j k l m
theorem nC{a:Bl}{k:Nat}{t:AB}{pos:Pos}(h:X.K=K)(b:X.calm=Ul)(c:yI X a t)(d:(Kc a X.env).length=n:=by rfl)(e:(Kc a X.env).findIdx? (·.1)=none:=by rfl):PG X (.Tuple a k pos) (QB K n t):=by subst h;exact aM b c d e
end
theorem jv{a:Up}(m:Ai s.heap t ([]:Up).toArray)(q:Ai s.heap b a.toArray)(h:Q (.ref b) s):Hb (Kb prog w) A (Rc .Add (.ref t)<|.ref b) Q E s:=by obtain⟨⟨v,x,c,y⟩,d,e,n,hd⟩:=id m;obtain⟨⟨i,B,data2,C⟩,j,k,G,l⟩:=id q;simp only at e hd k l;subst e hd k l;exact Fi ⟨_,d,Z⟩ ⟨_,j,Z⟩ Hg Th PySem.F.slot_tuple_add PySem.F.entry_tuple_add (PySem.F.args_tuple_add_2 _ _) (tuple_addW0 t b _ a.toArray n G x B y C Z) ⟨d,j,h⟩
noncomputable abbrev KP(a:Eb):HO:=.ext λh=>∃o b c,h.get? a=O o/\o.ExactDict/\o.data=.dict b c
noncomputable def hL(k:Ql):Int:=Xh<|Q5<|k.map hashInt
noncomputable def hB(k:Ql×Ql):Int:=Xh<|Q5 [hL k.1,hL k.2]
noncomputable abbrev JZ{κ:Type}(e:κ->Int)(a:Eb)(i:Nat)(b:List (κ×Eb×V)):HO:=.ext λh=>(∃c:List (κ×Eb×Bb),Paired (λx v=>x.1=v.1/\x.2.1=v.2.1/\RelV x.2.2 v.2.2) b c /\
  ∃o d,h.get? a=O o/\o.ExactDict/\o.data=.dict d i/\d.toList=c.map λx=>⟨e x.1,.ref x.2.1,x.2.2⟩)/\(b.map (·.1)).Nodup/\b.length<=sizeLine/\(a==Ac)=Um
noncomputable abbrev wA(a C:Eb):HO:=.ext λh=>∃o b,h.get? a=O o/\o.cls=.ref C/\o.data=.fields b
end L2
namespace L3
open L2
noncomputable abbrev D:=Fb
noncomputable abbrev Fg:=B0
def Sub(F H:Hp):Prop:=∀a o,F a=O o->H a=O o
theorem Sub.refl(H:Hp):Sub H H:=λ_ _ h=>h
theorem Sub.trans{A:Hp}(h:Sub A B)(k:Sub B C):Sub A C:=λa o e=>k a o<|h a o e
theorem Sub.new{o:HO}(h:F a=U):Sub F (kZ F a o):=λb u e=>by rw[zX<|AX e h];exact e
theorem Sub.rd{F:Hp}{a:Eb}{u:HO}(s:Sub F H):Rd F a u->Rd H a u
 | .inl h=>.inl<|s _ _ h
 | .inr ⟨o,h⟩=>.inr ⟨o,s _ _ h⟩
theorem Sub.sql{K:Fg}{F:Hp}{a:Eb}{b:List V}(s:Sub F H):SqL K F a b->SqL K H a b
 | .inl h=>.inl<|s.rd h
 | .inr h=>.inr h
noncomputable def qW:wZ->D
 | .inl i=>.int i
 | .inr x=>.str x
noncomputable abbrev SK(ns:Ql):D:=.dict [(.none,.list<|ns.map n0)]
noncomputable abbrev LP(C:Eb):D:=.dict [(.bool Ul,.int (C:Nat))]
noncomputable abbrev MP:D:=.dict [(.bool Um,.none)]
noncomputable abbrev wG(a:List (Ql×D)):D:=.dict [(.bool Um,.list<|a.map λp=>.tuple [.tuple<|p.1.map n0,p.2])]
noncomputable abbrev tK(a:List ((Ql×Ql)×D)):D:=.dict [(.bool Um,.tuple<|a.map λp=>.tuple [.tuple [.tuple<|p.1.1.map n0,.tuple<|p.1.2.map n0],p.2])]
mutual
inductive Da (K:Fg) (F:Hp):V->D->Prop
 |non:Da K F .non .none
 |bl (b):Da K F (.bl b) (.bool b)
 |int (i):Da K F (.int i) (.int i)
 |str (x):Da K F (.str x) (.str x)
 |lst {a xs ds}:F a=O (.lst xs)->DaAll K F xs ds->Da K F (.ref a) (.list ds)
 |tup {a xs ds}:F a=O (.tup xs)->DaAll K F xs ds->Da K F (.ref a) (.tuple ds)
 |dk {a kvs es}:Rd F a (.dK kvs)->DaKV K F kvs es->Da K F (.ref a) (.dict es)
 |dt {a kvs es}:Rd F a (.dT kvs)->DaKT K F kvs es->Da K F (.ref a) (.dict es)
 |scr {a ns}:SqL K F a (ns.map V.int)->Da K F (.ref a) (SK ns)
 |exc {a C}:F a=O (wA a C)->Da K F (.ref a) (LP C)
 |opq {a}:F a=O (KP a)->Da K F (.ref a) MP
 |pd {a a' ep xs ps}:F a=O (JZ hL a' ep xs)->DaPd K F xs ps->Da K F (.ref a) (wG ps)
 |bd {a a' ep xs ps}:F a=O (JZ hB a' ep xs)->DaBd K F xs ps->Da K F (.ref a) (tK ps)
inductive DaAll (K:Fg) (F:Hp):List V->List D->Prop
 |nil:DaAll K F [] []
 |cons {x xs d ds}:Da K F x d->DaAll K F xs ds->DaAll K F (x::xs) (d::ds)
inductive DaKV (K:Fg) (F:Hp):List (wZ×V)->List (D×D)->Prop
 |nil:DaKV K F [] []
 |cons {k v d kvs es}:Da K F v d->DaKV K F kvs es->DaKV K F ((k,v)::kvs) ((qW k,d)::es)
inductive DaKT (K:Fg) (F:Hp):List (List wZ×V)->List (D×D)->Prop
 |nil:DaKT K F [] []
 |cons {ks v d kvs es}:Da K F v d->DaKT K F kvs es->DaKT K F ((ks,v)::kvs) ((.tuple<|ks.map qW,d)::es)
inductive DaPd (K:Fg) (F:Hp):List (Ql×Eb×V)->List (Ql×D)->Prop
 |nil:DaPd K F [] []
 |cons {k b v d xs ps}:F b=O (.tup<|k.map V.int)->Da K F v d->DaPd K F xs ps->DaPd K F ((k,b,v)::xs) ((k,d)::ps)
inductive DaBd (K:Fg) (F:Hp):List ((Ql×Ql)×Eb×V)->List ((Ql×Ql)×D)->Prop
 |nil:DaBd K F [] []
 |cons {k b c e v d xs ps}:F b=O (.tup [.ref c,.ref e])->F c=O (.tup<|k.1.map V.int)->F e=O (.tup<|k.2.map V.int)->Da K F v d->DaBd K F xs ps->DaBd K F ((k,b,v)::xs) ((k,d)::ps)
end
section
variable {K:Fg}{F F':Hp}
mutual
theorem Da.mono(s:Sub F F'):∀{v:V}{d:D},Da K F v d->Da K F' v d
 |_,_,.non=>.non
 |_,_,.bl b=>.bl b
 |_,_,.int i=>.int i
 |_,_,.str x=>.str x
 |_,_,.lst h t=>.lst (s _ _ h)<|DaAll.mono s t
 |_,_,.tup h t=>.tup (s _ _ h)<|DaAll.mono s t
 |_,_,.dk h t=>.dk (s.rd h)<|DaKV.mono s t
 |_,_,.dt h t=>.dt (s.rd h)<|DaKT.mono s t
 |_,_,.scr h=>.scr<|s.sql h
 |_,_,.exc h=>.exc<|s _ _ h
 |_,_,.opq h=>.opq<|s _ _ h
 |_,_,.pd h t=>.pd (s _ _ h)<|DaPd.mono s t
 |_,_,.bd h t=>.bd (s _ _ h)<|DaBd.mono s t
theorem DaAll.mono(s:Sub F F'):∀{a:List V}{b:List D},DaAll K F a b->DaAll K F' a b
 |_,_,.nil=>.nil
 |_,_,.cons h t=>.cons (Da.mono s h)<|DaAll.mono s t
theorem DaKV.mono(s:Sub F F'):∀{a:List (wZ×V)}{b:List (D×D)},DaKV K F a b->DaKV K F' a b
 |_,_,.nil=>.nil
 |_,_,.cons h t=>.cons (Da.mono s h)<|DaKV.mono s t
theorem DaKT.mono(s:Sub F F'):∀{a:List (List wZ×V)}{b:List (D×D)},DaKT K F a b->DaKT K F' a b
 |_,_,.nil=>.nil
 |_,_,.cons h t=>.cons (Da.mono s h)<|DaKT.mono s t
theorem DaPd.mono(s:Sub F F'):∀{a:List (Ql×Eb×V)}{b:List (Ql×D)},DaPd K F a b->DaPd K F' a b
 |_,_,.nil=>.nil
 |_,_,.cons h v t=>.cons (s _ _ h) (Da.mono s v)<|DaPd.mono s t
theorem DaBd.mono(s:Sub F F'):∀{a:List ((Ql×Ql)×Eb×V)}{b:List ((Ql×Ql)×D)},DaBd K F a b->DaBd K F' a b
 |_,_,.nil=>.nil
 |_,_,.cons h c d v t=>.cons (s _ _ h) (s _ _ c) (s _ _ d) (Da.mono s v)<|DaBd.mono s t
end
@[elab_as_elim] theorem DaAll.ind {M:∀xs ds,DaAll K F xs ds->Prop} (h0:M [] [] .nil) (h1:∀{v d xs ds} (h:Da K F v d) (r:DaAll K F xs ds),M xs ds r->M (v::xs) (d::ds) (.cons h r)) {xs:List V}{ds:List D} (h:DaAll K F xs ds):M xs ds h:=by refine DaAll.rec (motive_1:=λ_ _ _=>True) (motive_2:=λv d h=>M v d h) (motive_3:=λ_ _ _=>True) (motive_4:=λ_ _ _=>True) (motive_5:=λ_ _ _=>True) (motive_6:=λ_ _ _=>True) ?_ ?_ ?_ ?_ ?_ ?_ ?_ ?_ ?_ ?_ ?_ ?_ ?_ h0 (λh r _ i=>h1 h r i) ?_ ?_ ?_ ?_ ?_ ?_ ?_ ?_ h<;>intros<;>trivial
theorem DaAll.length(h:DaAll K F xs ds):xs.length=ds.length:=by
 induction h using DaAll.ind with
 |h0=>rfl
 |h1 _ _ i=>rw[U1,U1,i]
theorem DaAll.get{i:Nat}(h:DaAll K F xs ds):ds[i]?=O d->∃v,xs[i]?=O v/\Da K F v d:=by
 induction h using DaAll.ind generalizing i with
 |h0=>intro e;cases e
 |h1 h _ a =>
  cases i with
  |zero=>intro e;cases e;exact⟨_,Z,h⟩
  |succ i=>exact a
theorem DaAll.getV{i:Nat}(h:DaAll K F xs ds):xs[i]?=O v->∃d,ds[i]?=O d/\Da K F v d:=by
 induction h using DaAll.ind generalizing i with
 |h0=>intro e;cases e
 |h1 h _ a =>
  cases i with
  |zero=>intro e;cases e;exact⟨_,Z,h⟩
  |succ i=>exact a
theorem DaAll.append(h:DaAll K F xs ds)(s:DaAll K F ys es):DaAll K F (xs++ys) (ds++es):=h.ind s λh _ i=>.cons h i
theorem DaAll.set(h:Da K F v d){a:List V}{b:List D}(i:Nat)(t:DaAll K F a b):DaAll K F (a.set i v) (b.set i d):=by
 induction t using DaAll.ind generalizing i with
 |h0=>exact .nil
 |h1 q t c=>cases i with|zero=>exact .cons h t|succ i=>exact .cons q<|c i
theorem DaAll.take(n:Nat)(t:DaAll K F xs ds):DaAll K F (xs.take n) (ds.take n):=by
 induction t using DaAll.ind generalizing n with
 |h0=>cases n<;>exact .nil
 |h1 q _ a=>cases n with|zero=>exact .nil|succ n=>exact .cons q<|a n
theorem DaAll.drop(n:Nat)(t:DaAll K F xs ds):DaAll K F (xs.drop n) (ds.drop n):=by
 induction t using DaAll.ind generalizing n with
 |h0=>cases n<;>exact .nil
 |h1 q t a=>cases n with|zero=>exact .cons q t|succ n=>exact a n
theorem DaAll.reverse(h:DaAll K F a ds):DaAll K F a.reverse ds.reverse:=by
 induction a generalizing ds with
 |nil=>cases h;exact .nil
 |cons x a b =>
  cases h with
  |cons h t=>rw[w8,w8];exact(b t).append<|.cons h .nil
theorem DaAll.dropLast(t:DaAll K F xs ds):DaAll K F xs.dropLast ds.dropLast:=by rw[zQ,zQ,t.length];exact t.take _
theorem DaAll.rep{a:List V}{b:List D}(h:DaAll K F a b):∀k:Nat,DaAll K F (O1 k a).flatten (O1 k b).flatten
 |0=>.nil
 |k+1=>by rw[X4,X4,M6,M6];exact h.append<|DaAll.rep h k
theorem DaAll.ints:∀ns:Ql,DaAll K F (ns.map V.int) (ns.map n0)
 |[]=>.nil
 |n::ns=>.cons (.int n)<|DaAll.ints ns
end
inductive Sl where
 |fz (d:D)|ow (d:D)|io (d:D)
noncomputable def Sl.d:Sl->D
 | .fz d=>d
 | .ow d=>d
 | .io d=>d
noncomputable def uZ:Sl->Bool
 | .fz _=>Um
 | .ow _=>Ul
 | .io _=>Ul
noncomputable abbrev Ev:=List<|Yi Sl
noncomputable def Own1(K:Fg)(F:Hp):HO->D->Prop
 | .lst a,.list k=>DaAll K F a k
 | .dK b,.dict d=>DaKV K F b d
 | .dT b,.dict d=>DaKT K F b d
 | .ext e,.dict [(.bool Um,.list L)]=>∃(i:Eb) (j:Nat) (a:List (Ql×Eb×V)) (c:List (Ql×D)),HO.ext e=JZ hL i j a/\L=c.map (λp=>.tuple [.tuple<|p.1.map n0,p.2])/\DaPd K F a c
 | .ext e,.dict [(.bool Um,.tuple L)]=>∃(i:Eb) (j:Nat) (a:List ((Ql×Ql)×Eb×V)) (c:List ((Ql×Ql)×D)),HO.ext e=JZ hB i j a/\L=c.map (λp=>.tuple [.tuple [.tuple<|p.1.1.map n0,.tuple<|p.1.2.map n0],p.2])/\DaBd K F a c
 |_,_=>Al
section
variable {K:Fg}{F F':Hp}{o:HO}{d:D}{a:Eb}
theorem Own1.ext(h:Own1 K F (.ext φ) d):(∃(i:Eb) (j:Nat) (b:List (Ql×Eb×V)) (c:List (Ql×D)),HO.ext φ=JZ hL i j b/\d=wG c/\DaPd K F b c) \/ ∃(i:Eb) (j:Nat) (b:List ((Ql×Ql)×Eb×V)) (c:List ((Ql×Ql)×D)),HO.ext φ=JZ hB i j b/\d=tK c/\DaBd K F b c:=by
 unfold Own1 at h;split at h
 .rename_i z;cases z
 .rename_i z;cases z
 .rename_i z;cases z
 .rename_i z;obtain⟨i,j,b,c,e,rfl,t⟩:=h;exact .inl ⟨i,j,b,c,z.trans e,Z,t⟩
 .rename_i z;obtain⟨i,j,b,c,e,rfl,t⟩:=h;exact .inr ⟨i,j,b,c,z.trans e,Z,t⟩
 .exact h.elim
theorem Own1.bd(h:DaBd K F xs ps):Own1 K F (JZ hB a' ep xs) (tK ps):=⟨a',ep,xs,ps,Z,Z,h⟩
theorem Own1.mono(s:Sub F F')(h:Own1 K F o d):Own1 K F' o d:=by
 cases o with
 |ext k =>
  rcases h.ext with⟨b,c,i,j,e,rfl,t⟩|⟨b,c,i,j,e,rfl,t⟩
  .exact⟨b,c,i,j,e,Z,t.mono s⟩
  .exact⟨b,c,i,j,e,Z,t.mono s⟩
 |_=>cases d<;>first|exact DaAll.mono s h|exact DaKV.mono s h|exact DaKT.mono s h|exact h.elim
theorem Own1.da(h:Own1 K F o d)(e:F a=O o):Da K F (.ref a) d:=by
 cases o with
 |ext j =>
  rcases h.ext with⟨b,c,xs,i,z,rfl,t⟩|⟨b,c,xs,i,z,rfl,t⟩
  .rw[z]at e;exact .pd e t
  .rw[z]at e;exact .bd e t
 |_=>cases d<;>first|exact .lst e h|exact .dk (.inl e) h|exact .dt (.inl e) h|exact h.elim
end
noncomputable def lamN:Us:=["all_around","_law_settle","exchanged","mirrored","stretched","cut"]
noncomputable def TB(K:Fg):List (Eb×Str):=lamN.filterMap λx=>(VQ K x).map λz=>(z.2,x)
noncomputable def stk:HO->Bool
 | .tbl _=>Ul
 | .frz _ _=>Ul
 |_=>Um
noncomputable abbrev xA(c:Eb)(o:Obj):HO:=.frz o (.ext λh=>∃o,h.get? c=O o)
def yA(x:Str)(o:Obj):Prop:=∃a t,o.data=.fields a/\a[1]?=O (.str (x ++ ".<locals>.<lambda>") t)
def TabOk(K:Fg)(F H:Hp):Prop:=∀z∈TB K,F z.1=U/\∃a,H z.1=O (.tbl a)/\PySem.TriplesOk a.toList/\∀pos v,codeAmong pos a.toList=O v->∃c o,v=.ref c/\H c=O (xA c o)/\yA z.2 o
theorem TabOk.up{K:Fg}(T:TabOk K F H)(kp:∀a o,stk o=Ul->H a=O o->H' a=O o)(d:∀z∈TB K,F' z.1=U):TabOk K F' H':=λz b=>by obtain⟨_,i,e,t,q⟩:=T z b;refine⟨d z b,i,kp _ _ Z e,t,λpos v j=>?_⟩;obtain⟨c,o,k,l,m⟩:=q pos v j;exact⟨c,o,k,kp _ _ Z l,m⟩
theorem TabOk.put{K:Fg}{o:HO}(T:TabOk K F H)(n:∀u,H a=O u->stk u=Um):TabOk K F (kZ H a o):=T.up (λb u s e=>by rw[zX λz=>by subst z;rw[n u e]at s;cases s];exact e) λz c=>(T z c).1
theorem TabOk.ne{K:Fg}(T:TabOk K F H)(n:∀u,H a=O u->stk u=Um):∀z∈TB K,z.1≠a:=λz c e=>by obtain⟨_,d,b,_⟩:=T z c;rw[e]at b;cases n _ b
theorem TabOk.F{K:Fg}{F:Hp}{o:HO}(T:TabOk K F H)(n:∀u,H a=O u->stk u=Um):TabOk K (kZ F a o) H:=T.up (λ_ _ _ e=>e) λz b=>by rw[zX<|T.ne n z b];exact(T z b).1
theorem Own1.stk{K:Fg}{F:Hp}{o:HO}{d:D}(h:Own1 K F o d):stk o=false:=by cases o<;>first|rfl|(cases d<;>exact h.elim)
structure Gh where
 H0:Hp
 F0:Hp
 io:Nat->Yi Eb
structure Rel(K:Fg)(G:Gh)(F:Hp)(σ:L2.St)(H:Hp)(ρ:Ev):Prop where
 len:σ.length=ρ.length
 sub:Sub F H
 sub0:Sub G.F0 F
 fn:∀a o,F a=O o->G.F0 a=O o\/G.H0 a=U
 keep:∀a o,G.H0 a=O o->(∀i,G.io i≠O a)->(∀z∈TB K,z.1≠a)->H a=O o
 tb:TabOk K F H
 fz:∀(i:Nat) (d:D),ρ[i]?=O (O<|Sl.fz d)->∃v,σ[i]?=O (O v)/\Da K F v d
 ow:∀(i:Nat) (s:Sl),ρ[i]?=O (O s)->uZ s=Ul->∃a o,σ[i]?=O (O<|V.ref a)/\F a=U/\H a=O o/\Own1 K F o s.d
 new:∀(i:Nat) (d:D) (a:Eb),ρ[i]?=O (O<|Sl.ow d)->σ[i]?=O (O<|V.ref a)->G.H0 a=U
 io:∀(i:Nat) (a:Eb),G.io i=O a->∃d,ρ[i]?=O (O<|Sl.io d)/\σ[i]?=O (O<|V.ref a)
 ioi:∀(i:Nat) (d:D),ρ[i]?=O (O<|Sl.io d)->∃a,G.io i=O a
 ap:∀(i j:Nat) (s t:Sl) (a:Eb),ρ[i]?=O (O s)->uZ s=Ul->ρ[j]?=O (O t)->uZ t=Ul->σ[i]?=O (O<|V.ref a)->σ[j]?=O (O<|V.ref a)->i=j
noncomputable def Res(K:Fg)(G:Gh)(F H:Hp)(σ:L2.St)(b:Ev)(v:V):Sl->Prop
 | .fz d=>Da K F v d
 | .ow d=>∃a o,v=.ref a/\F a=U/\H a=O o/\Own1 K F o d/\G.H0 a=U/\∀(i:Nat) (s:Sl),b[i]?=O (O s)->uZ s=Ul->σ[i]?≠O (O<|V.ref a)
 | .io _=>Al
section
variable {K:Fg}{G:Gh}{F F':Hp}{σ:L2.St}{ρ:Ev}{a:Eb}{o:HO}{d:D}{v:V}{s:Sl}
theorem Rel.bound(R:Rel K G F σ H ρ){i:Nat}(h:ρ[i]?=O (O s)):∃v,σ[i]?=O (O v):=by
 cases s with
 |fz d=>obtain⟨v,e,_⟩:=R.fz i d h;exact⟨v,e⟩
 |ow d=>obtain⟨a,o,e,_⟩:=R.ow i _ h Z;exact⟨_,e⟩
 |io d=>obtain⟨a,o,e,_⟩:=R.ow i _ h Z;exact⟨_,e⟩
theorem Rel.h0(R:Rel K G F σ H ρ)(h:H a=U):G.H0 a=none:=by
 cases e:G.H0 a with
 |none=>rfl
 |some o =>
  by_cases q:∃i,G.io i=O a
  .obtain⟨i,q⟩:=q;obtain⟨d,j,k⟩:=R.io i a q;obtain⟨l,m,b,_,c,_⟩:=R.ow i _ j Z;rw[k]at b;cases b;rw[h]at c;cases c
  .have:=R.keep a o e (λi z=>q ⟨i,z⟩) (R.tb.ne λu z=>by rw[h]at z;cases z);rw[h]at this;cases this
theorem Rel.f0(R:Rel K G F σ H ρ)(h:H a=U):F a=none:=by
 cases e:F a with
 |none=>rfl
 |some o=>rw[R.sub a o e]at h;cases h
theorem Rel.laid(R:Rel K G F σ H ρ)(h:H a=U):Rel K G F σ (kZ H a o) ρ where
 len:=R.len
 sub:=λb u e=>by rw[zX<|AX (R.sub b u e) h];exact R.sub b u e
 sub0:=R.sub0
 fn:=R.fn
 keep:=λb u e n t=>by rw[zX<|AX (R.keep b u e n t) h];exact R.keep b u e n t
 tb:=R.tb.put λu z=>by rw[h]at z;cases z
 fz:=R.fz
 ow:=λi s e w=>by obtain⟨j,k,l,m,c,q⟩:=R.ow i s e w;exact⟨j,k,l,m,by rw[zX<|AX c h];exact c,q⟩
 new:=R.new
 io:=R.io
 ioi:=R.ioi
 ap:=R.ap
theorem Rel.grow(R:Rel K G F σ H ρ)(h0:G.H0 a=U)(h:H a=O o)(m:∀(i:Nat) (s:Sl),ρ[i]?=O (O s)->uZ s=Ul->σ[i]?≠O (O<|V.ref a))(q:stk o=false:=by rfl):Sub F (kZ F a o)/\Rel K G (kZ F a o) σ H ρ:=by
 have c:Sub F (kZ F a o):=λb u e=>by
  by_cases z:b=a
  .subst z;rw[OX,<-h];exact R.sub _ _ e
  .rw[zX z];exact e
 refine⟨c,R.len,λb u e=>?_,R.sub0.trans c,λb u e=>?_,R.keep,R.tb.F λu z=>by rw[h]at z;cases z;exact q,λi d e=>?_,λi s e w=>?_,R.new,R.io,R.ioi,R.ap⟩
 .by_cases z:b=a
  .subst z;rw[OX]at e;rw[h];exact e
  .rw[zX z]at e;exact R.sub _ _ e
 .by_cases z:b=a
  .subst z;exact .inr h0
  .rw[zX z]at e;exact R.fn _ _ e
 .obtain⟨v,j,k⟩:=R.fz i d e;exact⟨v,j,k.mono c⟩
 .obtain⟨l,t,j,k,x,y⟩:=R.ow i s e w;have z:l≠a:=λz=>m i s e w (by rw[j,z]);exact⟨l,t,j,by rw[zX z];exact k,x,y.mono c⟩
theorem Res.frz(R:Rel K G F σ H ρ)(r:Res K G F H σ ρ v s):∃F',Sub F F'/\Rel K G F' σ H ρ/\Da K F' v s.d:=by
 cases s with
 |fz d=>exact⟨F,Sub.refl _,R,r⟩
 |ow d=>obtain⟨a,o,rfl,l,e,b,i,j⟩:=r;obtain⟨c,k⟩:=R.grow i e j b.stk;exact⟨_,c,k,(b.mono c).da OX⟩
 |io d=>exact r.elim
theorem Rel.newOw(R:Rel K G F σ H ρ)(h:H a=U)(w:Own1 K F o d):Rel K G F σ (kZ H a o) ρ/\Res K G F (kZ H a o) σ ρ (.ref a) (.ow d):=by refine⟨R.laid h,a,o,Z,R.f0 h,OX,w,R.h0 h,λi s e w z=>?_⟩;obtain⟨j,k,b,l,c,m⟩:=R.ow i s e w;rw[z]at b;cases b;rw[h]at c;cases c
theorem Rel.newTup(R:Rel K G F σ H ρ){b:List V}{c:List D}(h:H a=U)(w:DaAll K F b c):Sub F (kZ F a<|.tup b)/\Rel K G (kZ F a<|.tup b) σ (kZ H a<|.tup b) ρ/\Da K (kZ F a<|.tup b) (.ref a) (.tuple c):=by
 have k:Rel K G F σ (kZ H a<|.tup b) ρ:=R.laid h;obtain⟨j,R2⟩:=k.grow (a:=a) (o:=.tup b) (R.h0 h) OX λi s e w z=>by obtain⟨a',o',h1,h2,h3,h4⟩:=R.ow i s e w;rw[z]at h1;cases h1;rw[h]at h3;cases h3
 exact⟨j,R2,.tup OX<|w.mono j⟩
noncomputable def Sl.put:Sl->D->Sl
 | .fz _,d=>.fz d
 | .ow _,d=>.ow d
 | .io _,d=>.io d
theorem GX{l:List α}{x y:α}(h:(l.set i x)[j]?=O y):(j=i/\y=x)\/(j≠i/\l[j]?=O y):=by
 by_cases z:i=j
 .subst z;rw[List.getElem?_set]at h;simp at h;exact .inl ⟨Z,h.2.symm⟩
 .rw[W1 z]at h;exact .inr ⟨λq=>z q.symm,h⟩
theorem AK{l:List α}{x:α}(h:i<l.length):(l.set i x)[i]?=O x:=by simp[h]
theorem RZ{l:List α}{x:α}(h:l[i]?=O x):i<l.length:=(L1.mp h).1
theorem Rel.change(R:Rel K G F σ H ρ){i:Nat}{o':HO}{d':D}(h:ρ[i]?=O (O s))(w:uZ s=Ul)(l:σ[i]?=O (O<|V.ref a))(q:Own1 K F o' d'):Rel K G F σ (kZ H a o') (ρ.set i<|O<|s.put d'):=by
 obtain⟨a0,o0,P,Y,h3,h4⟩:=R.ow i s h w;rw[l]at P;cases P;have sw:uZ (s.put d')=true:=by cases s<;>first|rfl|cases w
 have hl:=RZ h;refine⟨by rw[j5];exact R.len,λb u e=>?_,R.sub0,R.fn,λb u e n t=>?_,R.tb.put λu z=>by rw[h3]at z;cases z;exact h4.stk,λj d e=>?_,λj t e y=>?_,λj d b e eb=>?_,λj b e=>?_,λj d e=>?_,λj k t u b m w1 c w2 e3 e4=>?_⟩
 .have z:b≠a:=λz=>by subst z;rw[Y]at e;cases e
  rw[zX z];exact R.sub _ _ e
 .by_cases z:b=a
  .subst z;cases s with
   |fz d=>cases w
   |ow d=>rw[R.new i d b h l]at e;cases e
   |io d=>obtain⟨a',e'⟩:=R.ioi i d h;obtain⟨d',_,c⟩:=R.io i a' e';rw[l]at c;cases c;exact absurd e'<|n i
  .rw[zX z];exact R.keep _ _ e n t
 .rcases GX e with⟨rfl,z⟩|⟨n,z⟩
  .cases s<;>simp[Sl.put,uZ]at z w
  .exact R.fz j d z
 .rcases GX e with⟨rfl,z⟩|⟨n,z⟩
  .cases z;exact⟨a,o',l,Y,OX,by cases s<;>first|exact q|cases w⟩
  .obtain⟨b,u,g1,g2,g3,g4⟩:=R.ow j t z y;have nb:b≠a:=λx=>n<|R.ap j i t s a z y h w (by rw[g1,x]) l;exact⟨b,u,g1,g2,by rw[zX nb];exact g3,g4⟩
 .rcases GX e with⟨rfl,z⟩|⟨n,z⟩
  .cases s with
   |fz d=>cases w
   |ow B=>exact R.new j B b h eb
   |io d=>cases z
  .exact R.new j d b z eb
 .obtain⟨d,m,c⟩:=R.io j b e;by_cases z:j=i
  .subst z;rw[h]at m;cases m;exact⟨d',by rw[AK hl];rfl,c⟩
  .exact⟨d,by rw[W1<|U3 z];exact m,c⟩
 .rcases GX e with⟨rfl,z⟩|⟨n,z⟩
  .cases s with
   |fz d=>cases w
   |ow B=>cases z
   |io B=>exact R.ioi j B h
  .exact R.ioi j d z
 .have f:∀(j:Nat) (t:Sl),(ρ.set i<|O<|s.put d')[j]?=O (O t)->uZ t=Ul->∃t',ρ[j]?=O (O t')/\uZ t'=true:=λj t e y=>by
   rcases GX e with⟨rfl,z⟩|⟨n,z⟩
   .exact⟨s,h,w⟩
   .exact⟨t,z,y⟩
  obtain⟨t',C,I⟩:=f j t m w1;obtain⟨u',L,M⟩:=f k u c w2;exact R.ap j k t' u' b C I L M e3 e4
theorem Rel.forget(R:Rel K G F σ H ρ){i:Nat}(h:ρ[i]?=O (O<|Sl.ow d)):Rel K G F σ H (ρ.set i U):=by
 refine⟨by rw[j5];exact R.len,R.sub,R.sub0,R.fn,R.keep,R.tb,λj d e=>?_,λj t e q=>?_,λj d b e w=>?_,λj b e=>?_,λj d e=>?_,λj k t u b c x l y B C=>?_⟩
 .rcases GX e with⟨rfl,z⟩|⟨n,z⟩
  .cases z
  .exact R.fz j d z
 .rcases GX e with⟨rfl,z⟩|⟨n,z⟩
  .cases z
  .exact R.ow j t z q
 .rcases GX e with⟨rfl,z⟩|⟨n,z⟩
  .cases z
  .exact R.new j d b z w
 .obtain⟨I,c,l⟩:=R.io j b e;have n:i≠j:=λz=>by subst z;rw[h]at c;cases c
  exact⟨I,by rw[W1 n];exact c,l⟩
 .rcases GX e with⟨rfl,z⟩|⟨n,z⟩
  .cases z
  .exact R.ioi j d z
 .rcases GX c with⟨rfl,z⟩|⟨n,z⟩
  .cases z
  .rcases GX l with⟨rfl,m⟩|⟨L,m⟩
   .cases m
   .exact R.ap j k t u b z x m y B C
theorem Rel.freeze(R:Rel K G F σ H ρ){i:Nat}(h:ρ[i]?=O (O<|Sl.ow d)):∃F' v,Sub F F'/\Rel K G F' σ H (ρ.set i<|O<|Sl.fz d)/\σ[i]?=O (O v)/\Da K F' v d:=by
 obtain⟨a,o,l,h2,Y,B⟩:=R.ow i _ h Z;have hl:=RZ h;have R1:=R.forget h;have hn:∀(j:Nat) (s:Sl),(ρ.set i U)[j]?=O (O s)->uZ s=Ul->σ[j]?≠O (O<|V.ref a):=λj s e w z=>by
  rcases GX e with⟨rfl,q⟩|⟨n,q⟩
  .cases q
  .exact n (R.ap j i s _ a q w h Z z l)
 obtain⟨C,R2⟩:=R1.grow (R.new i d a h l) Y hn B.stk;have I:Da K (kZ F a o) (.ref a) d:=(B.mono C).da OX;refine⟨_,_,C,?_,l,I⟩;refine⟨by rw[j5];exact R.len,R2.sub,R2.sub0,R2.fn,R2.keep,R2.tb,λj m e=>?_,λj t e L=>?_,λj d b e eb=>?_,λj b e=>?_,λj d e=>?_,λj k t u b c M x P e3 e4=>?_⟩
 .rcases GX e with⟨rfl,z⟩|⟨n,z⟩
  .cases z;exact⟨_,l,I⟩
  .exact R2.fz j m (by rw[W1<|U3 n];exact z)
 .rcases GX e with⟨rfl,z⟩|⟨n,z⟩
  .cases z;cases L
  .exact R2.ow j t (by rw[W1<|U3 n];exact z) L
 .rcases GX e with⟨rfl,z⟩|⟨n,z⟩
  .cases z
  .exact R.new j d b z eb
 .obtain⟨m,c,x⟩:=R.io j b e;have n:i≠j:=λz=>by subst z;rw[h]at c;cases c
  exact⟨m,by rw[W1 n];exact c,x⟩
 .rcases GX e with⟨rfl,z⟩|⟨n,z⟩
  .cases z
  .exact R.ioi j d z
 .rcases GX c with⟨rfl,z⟩|⟨n,z⟩
  .cases z;cases M
  .rcases GX x with⟨rfl,y⟩|⟨n',y⟩
   .cases y;cases P
   .exact R.ap j k t u b z M y P e3 e4
theorem Rel.forgetRes(R:Rel K G F σ H ρ){i:Nat}(h:ρ[i]?=O (O<|Sl.ow d)):∃v,σ[i]?=O (O v)/\Res K G F H σ (ρ.set i U) v (.ow d):=by
 obtain⟨a,o,b,c,k,l⟩:=R.ow i _ h Z;refine⟨_,b,a,o,Z,c,k,l,R.new i d a h b,λj s e w z=>?_⟩;rcases GX e with⟨rfl,q⟩|⟨n,q⟩
 .cases q
 .exact n (R.ap j i s _ a q w h Z z b)
def lv(ρ:Ev)(i:Nat):Prop:=match ρ[i]? with
 |some (O<|Sl.io _)=>Al
 |some _=>True
 |none=>Al
theorem Rel.asg(R:Rel K G F σ H ρ){i:Nat}(hi:lv ρ i)(r:Res K G F H σ ρ v s):Rel K G F (σ.set i<|O v) H (ρ.set i<|O s):=by
 have hl:i<ρ.length:=by
  cases e:ρ[i]? with
  |none=>unfold lv at hi;rw[e]at hi;exact hi.elim
  |some x=>exact RZ e
 have m:i<σ.length:=by rw[R.len];exact hl
 have ni:∀d,ρ[i]?≠O (O<|Sl.io d):=λd e=>by unfold lv at hi;rw[e]at hi;exact hi
 refine⟨by rw[j5,j5];exact R.len,R.sub,R.sub0,R.fn,R.keep,R.tb,λj d e=>?_,λj t e wt=>?_,λj d b e c=>?_,λj b e=>?_,λj d e=>?_,λj k t u b B I C L q y=>?_⟩
 .rcases GX e with⟨rfl,z⟩|⟨n,z⟩
  .cases z;exact⟨v,AK m,r⟩
  .rw[W1<|U3 n];exact R.fz j d z
 .rcases GX e with⟨rfl,z⟩|⟨n,z⟩
  .cases z;cases s with
   |fz d=>cases wt
   |ow d=>obtain⟨a,o,rfl,M,P,Y,_⟩:=r;exact⟨a,o,AK m,M,P,Y⟩
   |io d=>exact r.elim
  .rw[W1<|U3 n];exact R.ow j t z wt
 .rcases GX e with⟨rfl,z⟩|⟨n,z⟩
  .cases z;obtain⟨a,o,rfl,M,P,Y,h4,_⟩:=r;rw[AK m]at c;cases c;exact h4
  .rw[W1<|U3 n]at c;exact R.new j d b z c
 .obtain⟨d,B,C⟩:=R.io j b e;have n:i≠j:=λz=>by subst z;exact ni d B
  exact⟨d,by rw[W1 n];exact B,by rw[W1 n];exact C⟩
 .rcases GX e with⟨rfl,z⟩|⟨n,z⟩
  .cases z;exact r.elim
  .exact R.ioi j d z
 .have own:∀(j:Nat) (t:Sl),j≠i->ρ[j]?=O (O t)->uZ t=Ul->(σ.set i<|O v)[j]?=O (O<|V.ref b)->s.d=s.d->uZ s=Ul->v=.ref b->Al:=λj t n e w c _ ws ev=>by
   subst ev;cases s with
   |fz d=>cases ws
   |io d=>exact r
   |ow d=>obtain⟨a,o,z,M,P,Y,h4,h5⟩:=r;cases z;rw[W1<|U3 n]at c;exact h5 j t e w c
  rcases GX B with⟨rfl,z⟩|⟨n,z⟩
  .rcases GX C with⟨rfl,l⟩|⟨n',l⟩
   .rfl
   .rw[AK m]at q;cases q;cases z;exact(own k u n' l L y Z I Z).elim
  .rcases GX C with⟨rfl,l⟩|⟨n',l⟩
   .rw[AK m]at y;cases y;cases l;exact(own j t n z I q Z L Z).elim
   .rw[W1<|U3 n]at q;rw[W1<|U3 n']at y;exact R.ap j k t u b z I l L q y
end
noncomputable abbrev TD:=Ev->(Sl->Ev->Prop)->Prop
noncomputable abbrev ZW:=Ev->(Bool->Ev->Prop)->Prop
noncomputable abbrev xG:=Sum Nat D
noncomputable abbrev AD:=Sum Nat TD
def lift(K:Fg)(e:TD):TE:=λσ H Q=>∃(G:Gh) (F:Hp) (c:Ev) (d:Sl->Ev->Prop),Rel K G F σ H c/\e c d /\
 ∀v H' b r a,Sub F b->Rel K G b σ H' a->Res K G b H' σ a v r->d r a->Q v H'
def LX(K:Fg)(i:ZW):TT:=λσ H Q=>∃(G:Gh) (F:Hp) (c:Ev) (d:Bool->Ev->Prop),Rel K G F σ H c/\i c d /\
 ∀b H' e a,Sub F e->Rel K G e σ H' a->d b a->Q b H'
noncomputable def uX(K:Fg):AD->TE
 | .inl i=>XY i
 | .inr a=>lift K a
noncomputable def MX:List TE->TA
 |[]=>VB
 |t::ts=>Cz t<|MX ts
theorem aV{K:Fg}{Q:VK}(m:∀v H,Q v H->Q' v H)(h:uX K a σ H Q):uX K a σ H Q':=by
 cases a with
 |inl i=>obtain⟨v,e,q⟩:=h;exact⟨v,e,m _ _ q⟩
 |inr x=>obtain⟨G,F,c,d,R,w,k⟩:=h;exact⟨G,F,c,d,R,w,λv H' j r b s l t q=>m _ _<|k v H' j r b s l t q⟩
theorem MF{K:Fg}(h:MX ([a].map (uX K)) σ H λb c=>∃x,b=[x]/\P x c):uX K a σ H P:=aV (λv H q=>by obtain⟨x,e,q⟩:=q;cases e;exact q) h
theorem NF{K:Fg}{P:V->V->Hp->Prop}(h:MX ([a,b].map (uX K)) σ H λd c=>∃x y,d=[x,y]/\P x y c):uX K a σ H λx i=>uX K b σ i λy c=>P x y c:=aV (λv H q=>aV (λu H q=>by obtain⟨x,y,e,q⟩:=q;cases e;exact q) q) h
def oC(i:Nat):TD:=λa Q=>match a[i]? with
 |some (O<|.fz d)=>Q (.fz d) a
 |some (O<|.ow d)=>Q (.fz d)<|a.set i<|O<|.fz d
 |_=>Al
def dC(d:D):TD:=λa Q=>Q (.fz d) a
section
variable {K:Fg}{σ:L2.St}{Q:VK}
theorem NP(h:lift K (oC i) σ H Q):XY i σ H Q:=by
 obtain⟨G,F,c,q,R,w,k⟩:=h;unfold oC at w;split at w
 .rename_i d e;obtain⟨v,a,b⟩:=R.fz i d e;exact⟨v,a,k v H F (.fz d) c (Sub.refl _) R b w⟩
 .rename_i d e;obtain⟨j,v,l,m,a,b⟩:=R.freeze e;exact⟨v,a,k v H j (.fz d) _ l m b w⟩
 .exact w.elim
theorem Ga(a:∀F,Da K F v d)(h:lift K (dC d) σ H Q):tC v σ H Q:=by obtain⟨G,F,b,c,R,w,k⟩:=h;exact k v H F (.fz d) b (Sub.refl _) R (a F) w
end
noncomputable def OpdAt(K:Fg)(F:Hp)(σ:L2.St)(v:V):xG->Prop
 | .inl i=>σ[i]?=O (O v)
 | .inr d=>Da K F v d
inductive OpdsAt (K:Fg) (F:Hp) (σ:L2.St):List V->List xG->Prop
 |nil:OpdsAt K F σ [] []
 |cons {v x vs xs}:OpdAt K F σ v x->OpdsAt K F σ vs xs->OpdsAt K F σ (v::vs) (x::xs)
theorem OpdAt.mono{K:Fg}(s:Sub F F')(h:OpdAt K F σ v x):OpdAt K F' σ v x:=by
 cases x with
 |inl i=>exact h
 |inr d=>exact Da.mono s h
noncomputable def WZ:List AD->Ev->(List xG->Ev->Prop)->Prop
 |[],a,Q=>Q [] a
 | .inl i::as,a,Q=>match a[i]? with
  |some (O _)=>WZ as a λb c=>Q (.inl i::b) c
  |_=>Al
 | .inr k::as,a,Q=>k a λr e=>WZ as e λb j=>Q (.inr r.d::b) j
theorem fY{K:Fg}{G:Gh}{σ:L2.St}:∀{as:List AD}{F H:Hp}{b:Ev}{m:List xG->Ev->Prop}{t:List V->Hp->Prop},Rel K G F σ H b->WZ as b m -> (∀c H' j l a,Sub F j->Rel K G j σ H' a->OpdsAt K j σ c l->c.length=as.length->m l a->t c H')->MX (as.map<|uX K) σ H t
 |[],F,H,b,m,t,R,w,k=>k [] H F [] b (Sub.refl _) R .nil Z w
 | .inl i::as,F,H,b,m,t,R,w,k=>by
  unfold WZ at w;split at w
  .rename_i s e;obtain⟨v,B⟩:=R.bound e;refine⟨v,B,fY (as:=as) R w λc H' j l a x y o hl q=>?_⟩;exact k (v::c) H' j (.inl i::l) a x y (.cons B o) (by simp[hl]) q
  .exact w.elim
 | .inr td::as,F,H,b,m,t,R,w,k=>by refine⟨G,F,b,_,R,w,λv H1 F1 r C I L M P=>?_⟩;obtain⟨F2,Y,R2,d2⟩:=M.frz L;refine fY (as:=as) R2 P λc H' j l a x y o hl q=>?_;exact k (v::c) H' j (.inr r.d::l) a (I.trans<|Y.trans x) y (.cons (d2.mono x) o) (by simp[hl]) q
theorem LZ{K:Fg}(R:Rel K G F σ H ρ)(w:WZ as ρ Qd)(k:∀c H' b xs a,Sub F b->Rel K G b σ H' a->OpdsAt K b σ c xs->Qd xs a->Qv c H'):MX (as.map<|uX K) σ H Qv:=fY R w λc H' b xs a s d o _ q=>k c H' b xs a s d o q
def At(K:Fg)(F H:Hp)(v:V)(d:D):Prop:=Da K F v d\/∃a o,v=.ref a/\F a=U/\H a=O o/\Own1 K F o d
inductive AtAll (K:Fg) (F H:Hp):List V->List D->Prop
 |nil:AtAll K F H [] []
 |cons {v d vs ds}:At K F H v d->AtAll K F H vs ds->AtAll K F H (v::vs) (d::ds)
noncomputable def look(a:Ev):xG->Yi D
 | .inl i=>match a[i]? with
  |some (O s)=>O s.d
  |_=>U
 | .inr d=>O d
noncomputable def rZ(a:Ev):List xG->(List D->Prop)->Prop
 |[],k=>k []
 | .inr d::b,k=>rZ a b λc=>k (d::c)
 | .inl i::b,k=>match a[i]? with
  |some (O s)=>rZ a b λc=>k (s.d::c)
  |_=>Al
section
variable {K:Fg}{G:Gh}{F:Hp}{σ:L2.St}{ρ:Ev}
theorem Rel.at(R:Rel K G F σ H ρ){i:Nat}{s:Sl}{v:V}(e:ρ[i]?=O (O s))(c:σ[i]?=O (O v)):At K F H v s.d:=by
 cases s with
 |fz d=>obtain⟨q,m,b⟩:=R.fz i d e;rw[c]at m;cases m;exact .inl b
 |ow d=>obtain⟨a,o,b,j,k,l⟩:=R.ow i _ e Z;rw[c]at b;cases b;exact .inr ⟨a,o,Z,j,k,l⟩
 |io d=>obtain⟨a,o,b,j,k,l⟩:=R.ow i _ e Z;rw[c]at b;cases b;exact .inr ⟨a,o,Z,j,k,l⟩
theorem AJ(R:Rel K G F σ H ρ){c:List xG}{j:List V}{k:List D->Prop}(o:OpdsAt K F σ j c)(h:rZ ρ c k):∃b,AtAll K F H j b/\k b:=by
 induction o generalizing k with
 |nil=>exact⟨[],.nil,h⟩
 |@cons v x j c o t l =>
  cases x with
  |inr d=>obtain⟨b,a,q⟩:=l (k:=λb=>k (d::b)) h;exact⟨d::b,.cons (.inl o) a,q⟩
  |inl i =>
   unfold rZ at h;split at h
   .rename_i s e;obtain⟨b,a,q⟩:=l (k:=λb=>k (s.d::b)) h;exact⟨s.d::b,.cons (R.at e o) a,q⟩
   .exact h.elim
end
def TK(as:List AD)(f:List D->(Sl->Prop)->Prop):TD:=λb Q=>WZ as b λc a=>rZ a c λd=>f d λr=>Q r a
def ZX(K:Fg)(r:List V->Hp->VK->Prop)(f:List D->(Sl->Prop)->Prop):Prop :=
 ∀(G:Gh) (F:Hp) (σ:L2.St) (H:Hp) (a:Ev) (c:List V) (d:List D) (Q:VK) (e:Sl->Prop),Rel K G F σ H a->AtAll K F H c d->f d e ->
  (∀v H' b s,Sub F b->Rel K G b σ H' a->Res K G b H' σ a v s->e s->Q v H')->r c H Q
theorem bV{K:Fg}{r:List V->Hp->VK->Prop}{f:List D->(Sl->Prop)->Prop}(ok:ZX K r f){σ:L2.St}{H:Hp}{Q:VK}(h:lift K (TK as f) σ H Q):MX (as.map<|uX K) σ H λb d=>r b d Q:=by obtain⟨G,F,C,I,R,w,k⟩:=h;refine LZ R w λb H' e L a i c o q=>?_;obtain⟨j,l,q⟩:=AJ c o q;exact ok G e σ H' a b j Q _ c l q λv m t s x R2 y B=>k v m t s a (i.trans x) R2 y B
noncomputable def o1(f:D->(Sl->Prop)->Prop):List D->(Sl->Prop)->Prop
 |[x],Q=>f x Q
 |_,_=>Al
noncomputable def o2(f:D->D->(Sl->Prop)->Prop):List D->(Sl->Prop)->Prop
 |[x,y],Q=>f x y Q
 |_,_=>Al
noncomputable def o3(f:D->D->D->(Sl->Prop)->Prop):List D->(Sl->Prop)->Prop
 |[x,y,z],Q=>f x y z Q
 |_,_=>Al
noncomputable def OF(c:TD):ZW:=λd Q=>c d λr a=>match r with
 | .fz (.bool b)=>Q b a
 |_=>Al
noncomputable def MM(c:ZW):ZW:=λd Q=>c d λb a=>Q (!b) a
noncomputable def NM(c e:ZW):ZW:=λd Q=>c d λb a=>if b=Ul then e a Q else Q Um a
noncomputable def zA(c e:ZW):ZW:=λd Q=>c d λb a=>if b=Ul then Q Ul a else e a Q
noncomputable def PF:ZW:=λa Q=>Q Ul a
section
variable {K:Fg}{σ:L2.St}
theorem HI(c:∀{σ H Q},lift K td σ H Q->t σ H Q){Q:Bool->Hp->Prop}(h:LX K (OF td) σ H Q):Cw t σ H Q:=by
 obtain⟨G,F,d,m,R,w,k⟩:=h;refine c ⟨G,F,d,_,R,w,λv H' e r a i j l q=>?_⟩;split at q
 .rename_i b;cases l;exact⟨b,Z,k b H' e a i j q⟩
 .exact q.elim
theorem OP{Q:Bool->Hp->Prop}(h:LX K (MM c) σ H Q):PL (LX K c) σ H Q:=by obtain⟨G,F,d,l,R,w,k⟩:=h;exact⟨G,F,d,_,R,w,λb H' e a i j q=>k (!b) H' e a i j q⟩
theorem PP{Q:Bool->Hp->Prop}(h:LX K (NM c e) σ H Q):OL (LX K c) (LX K e) σ H Q:=by
 obtain⟨G,F,m,t,R,w,k⟩:=h;refine⟨G,F,m,_,R,w,λb H' i a j l q=>?_⟩;cases b with
 |true=>exact⟨G,i,a,t,l,q,λb v x d y R2 B=>k b v x d (j.trans y) R2 B⟩
 |false=>exact k Um H' i a j l q
theorem AA{Q:Bool->Hp->Prop}(h:LX K (zA c e) σ H Q):gA (LX K c) (LX K e) σ H Q:=by
 obtain⟨G,F,m,t,R,w,k⟩:=h;refine⟨G,F,m,_,R,w,λb H' i a j l q=>?_⟩;cases b with
 |true=>exact k Ul H' i a j l q
 |false=>exact⟨G,i,a,t,l,q,λb v x d y R2 B=>k b v x d (j.trans y) R2 B⟩
theorem QP{Q:Bool->Hp->Prop}(h:LX K PF σ H Q):DP σ H Q:=by obtain⟨G,F,a,b,R,w,k⟩:=h;exact k Ul H F a (Sub.refl _) R w
end
def mv(a b:TD):TD:=λe Q=>a e λr d=>match r with
 | .fz (.bool c)=>if c=Ul then b d Q else Q (.fz<|.bool Um) d
 |_=>Al
def nv(a:TD):TD:=λd Q=>a d λr b=>match r with
 | .fz (.bool c)=>Q (.fz<|.bool<|!c) b
 |_=>Al
section
variable {K:Fg}{σ:L2.St}{Q:VK}{a b:TD}{c:ZW}
theorem OM(h:lift K (mv a b) σ H Q):bw (lift K a) (lift K b) σ H Q:=by
 obtain⟨G,F,m,t,R,w,k⟩:=h;refine⟨G,F,m,_,R,w,λv H' i r d j l x q=>?_⟩;split at q
 .rename_i c;cases x;refine⟨c,Z,?_⟩;cases c with
  |true=>exact⟨G,i,d,t,l,q,λv y B r e C R2 I L=>k v y B r e (j.trans C) R2 I L⟩
  |false=>exact k _ H' i (.fz<|.bool Um) d j l (Da.bl Um) q
 .exact q.elim
theorem PM(h:lift K (nv a) σ H Q):cw (lift K a) σ H Q:=by
 obtain⟨G,F,e,t,R,w,k⟩:=h;refine⟨G,F,e,_,R,w,λv H' i r d j l m q=>?_⟩;split at q
 .rename_i c;cases m;exact⟨c,Z,k _ H' i (.fz<|.bool<|!c) d j l (Da.bl<|!c) q⟩
 .exact q.elim
end
theorem OV{a:Ev}{i:Nat}(h:match a[i]? with|some (O<|.io _)=>Al|some _=>P|none=>Al):lv a i/\P:=by
 unfold lv;cases e:a[i]? with
 |none=>rw[e]at h;exact h.elim
 |some x =>
  rw[e]at h;cases x with
  |none=>exact⟨trivial,h⟩
  |some s=>cases s with
   |fz d=>exact⟨trivial,h⟩
   |ow d=>exact⟨trivial,h⟩
   |io d=>exact h.elim
structure DE where
 nx:Ev->Prop
 rt:Sl->Ev->Prop
 bk:Ev->Prop
 ct:Ev->Prop
noncomputable abbrev gY:=DE->Ev->Prop
def EX(K:Fg)(ts:gY):TS:=λD σ H=>∃(G:Gh) (F:Hp) (d:Ev) (E:DE),Rel K G F σ H d/\ts E d /\
 (∀b H' c a,Sub F c->Rel K G c b H' a->E.nx a->D.nx b H') /\
 (∀v b H' c r a,Sub F c->Rel K G c b H' a->Res K G c H' b a v r->E.rt r a->D.rt v H') /\
 (∀b H' c a,Sub F c->Rel K G c b H' a->E.bk a->D.bk b H') /\
 (∀b H' c a,Sub F c->Rel K G c b H' a->E.ct a->D.ct b H')
noncomputable def qv:gY:=λE a=>E.nx a
noncomputable def pC(t u:gY):gY:=λE b=>t {nx:=λa=>u E a,rt:=E.rt,bk:=E.bk,ct:=E.ct} b
noncomputable def qC(a:TD):gY:=λE b=>a b E.rt
noncomputable def sv(a:TD):gY:=λE c=>a c λ_ b=>E.nx b
noncomputable def QM(c:ZW)(t u:gY):gY:=λE d=>c d λb a=>if b=Ul then t E a else u E a
noncomputable def Kx(i:Nat)(a:TD):gY:=λE c=>a c λr b=>match b[i]? with
 |some (O<|.io _)=>Al
 |some _=>E.nx<|b.set i<|O r
 |none=>Al
section
variable {K:Fg}{σ:L2.St}{E:Ends}{t u:gY}{a:TD}{c:ZW}
theorem RM(h:EX K qv E σ H):dw E σ H:=by obtain⟨G,F,d,D,R,w,n,r,b,c⟩:=h;exact n σ H F d (Sub.refl _) R w
theorem later{D:DE}{ts:gY}(s:Sub F F1)(R:Rel K G F1 σ1 H1 ρ1)(w:ts D ρ1)(n:∀e H' i d,Sub F i->Rel K G i e H' d->D.nx d->E.nx e H')(r:∀v e H' i r d,Sub F i->Rel K G i e H' d->Res K G i H' e d v r->D.rt r d->E.rt v H')(b:∀e H' i d,Sub F i->Rel K G i e H' d->D.bk d->E.bk e H')(c:∀e H' i d,Sub F i->Rel K G i e H' d->D.ct d->E.ct e H'):EX K ts E σ1 H1:=
 ⟨G,F1,ρ1,D,R,w,λ_ _ _ _ s' j q=>n _ _ _ _ (s.trans s') j q,λ_ _ _ _ _ _ s' j k q=>r _ _ _ _ _ _ (s.trans s') j k q,
   λ_ _ _ _ s' j q=>b _ _ _ _ (s.trans s') j q,λ_ _ _ _ s' j q=>c _ _ _ _ (s.trans s') j q⟩
theorem RP(h:EX K (pC t u) E σ H):WL (EX K t) (EX K u) E σ H:=by obtain⟨G,F,d,D,R,w,n,r,b,c⟩:=h;exact⟨G,F,d,_,R,w,λe H' k i s j q=>later s j q n r b c,r,b,c⟩
theorem UP(h:EX K (qC a) E σ H):iw (lift K a) E σ H:=by obtain⟨G,F,e,D,R,w,n,r,b,c⟩:=h;exact⟨G,F,e,_,R,w,λv H' i x d s j k q=>r v σ H' i x d s j k q⟩
theorem SM(h:EX K (sv a) E σ H):gw (lift K a) E σ H:=by obtain⟨G,F,e,D,R,w,n,r,b,c⟩:=h;exact⟨G,F,e,_,R,w,λv H' i x d s j k q=>n σ H' i d s j q⟩
theorem VP(h:EX K (QM c t u) E σ H):YL (LX K c) (EX K t) (EX K u) E σ H:=by
 obtain⟨G,F,e,D,R,w,n,r,b,c⟩:=h;refine⟨G,F,e,_,R,w,λx H' j i s d q=>?_⟩;cases x with
 |true=>exact later s d q n r b c
 |false=>exact later s d q n r b c
theorem II(h:EX K (Kx i a) E σ H):RW (lift K a) (YK i) E σ H:=by obtain⟨G,F,e,D,R,w,n,r,b,c⟩:=h;refine⟨G,F,e,_,R,w,λv H' j x k s l m q=>?_⟩;have d:=OV q;exact n _ H' j _ s (l.asg d.1 m) d.2
end
noncomputable def QF(i:Nat):gY:=λE a=>match a[i]? with
 |some (O<|.fz d)=>E.rt (.fz d) a
 |some (O<|.ow d)=>E.rt (.ow d)<|a.set i U
 |_=>Al
noncomputable def Rz(i j:Nat):gY:=λE a=>match a[j]? with
 | some (O<|.fz d)=>(match a[i]? with
   |some (O<|.io _)=>Al
   |some _=>E.nx<|a.set i<|O<|.fz d
   |none=>Al)
 | some (O<|.ow d)=>(match (a.set j U)[i]? with
   |some (O<|.io _)=>Al
   |some _=>E.nx<|(a.set j U).set i<|O<|.ow d
   |none=>Al)
 |_=>Al
section
variable {K:Fg}{σ:L2.St}{E:Ends}
theorem TM(h:EX K (QF i) E σ H):iw (XY i) E σ H:=by
 obtain⟨G,F,k,D,R,w,n,r,b,c⟩:=h;unfold QF at w;split at w
 .rename_i d e;obtain⟨v,a,j⟩:=R.fz i d e;exact⟨v,a,r v σ H F (.fz d) k (Sub.refl _) R j w⟩
 .rename_i d e;obtain⟨v,a,j⟩:=R.forgetRes e;exact⟨v,a,r v σ H F (.ow d) _ (Sub.refl _) (R.forget e) j w⟩
 .exact w.elim
theorem UM(h:EX K (Rz i j) E σ H):RW (XY j) (YK i) E σ H:=by
 obtain⟨G,F,m,D,R,w,n,r,b,c⟩:=h;unfold Rz at w;split at w
 .rename_i d e;obtain⟨v,a,k⟩:=R.fz j d e;obtain⟨l,w⟩:=OV w;exact⟨v,a,n _ H F _ (Sub.refl _) (R.asg (s:=.fz d) l k) w⟩
 .rename_i d e;obtain⟨v,a,k⟩:=R.forgetRes e;obtain⟨l,w⟩:=OV w;exact⟨v,a,n _ H F _ (Sub.refl _) ((R.forget e).asg (s:=.ow d) l k) w⟩
 .exact w.elim
end
noncomputable abbrev UK:=D->Ev->(Ev->Prop)->Prop
def oZ(K:Fg)(g:UK):TG:=λv σ H Q=>∃(G:Gh) (F:Hp) (c:Ev) (d:D) (e:Ev->Prop),Rel K G F σ H c/\Da K F v d/\g d c e/\∀a b,Rel K G F a H b->e b->Q a H
noncomputable def Vk(i:Nat):UK:=λd a Q=>match a[i]? with
 |some (O<|.io _)=>Al
 |some _=>Q<|a.set i<|O<|.fz d
 |none=>Al
noncomputable def BA:List UK->List D->Ev->(Ev->Prop)->Prop
 |[],[],a,Q=>Q a
 |g::c,d::e,a,Q=>g d a λb=>BA c e b Q
 |_,_,_,_=>Al
noncomputable def sT(a:List UK):UK:=λd c Q=>match d with
 | .tuple b=>b.length=a.length/\BA a b c Q
 |_=>Al
noncomputable def rH:List TG->AB
 |[]=>jP
 |g::a=>AI g<|rH a
section
variable {K:Fg}{σ:L2.St}{v:V}{Q:L2.St->Hp->Prop}
theorem CA(h:oZ K (Vk i) v σ H Q):YK i v σ H Q:=by obtain⟨G,F,b,d,c,R,hd,w,k⟩:=h;obtain⟨a,w⟩:=OV w;exact k _ _ (R.asg (s:=.fz d) a hd) w
theorem WP{G:Gh}{F:Hp}:∀{gs:List UK}{i:List D}{j:List V}{σ:L2.St}{a:Ev}{e:Ev->Prop},Rel K G F σ H a->DaAll K F j i->BA gs i a e->(∀b c,Rel K G F b H c->e c->Q b H)->rH (gs.map<|oZ K) j σ H Q
 |[],[],_,σ,a,e,R,.nil,w,k=>⟨Z,k σ a R w⟩
 |g::gs,d::i,_,σ,a,e,R,.cons h t,w,k=>⟨_,_,Z,G,F,a,d,_,R,h,w,λb c l m=>WP (gs:=gs) l t m k⟩
 |[],_::_,_,σ,a,e,R,_,w,k=>by exact w.elim
 |_::_,[],_,σ,a,e,R,_,w,k=>by exact w.elim
theorem DA(a:gs.length=n)(h:oZ K (sT gs) v σ H Q):QB K n (rH<|gs.map<|oZ K) v σ H Q:=by
 obtain⟨G,F,b,d,c,R,hd,w,k⟩:=h;unfold sT at w;split at w
 .cases hd with
  |tup e t=>exact⟨_,_,Z,SqT.of<|R.sub _ _ e,by rw[t.length,w.1,a],WP R t w.2 k⟩
 .exact w.elim
end
def Walks(K:Fg)(J:It)(F:Hp)(e:List D):Prop:=∀(i:Nat) (H a:Hp),Sub F a->Sub a H ->
 (∀d,e[i]?=O d->J.go i H/\∀x H',J.yld i H x H'->∃c,Sub a c/\(∀b o,c b=O o->a b=O o\/H b=U)/\Sub c H'/\Sub H H'/\Da K c x d)/\(e.length=i->J.stop i H)
noncomputable abbrev RD:=Ev->(List D->Ev->Prop)->Prop
def NZ(K:Fg)(i:RD):TI:=λσ H R=>∃(G:Gh) (F:Hp) (c:Ev) (d:List D->Ev->Prop),Rel K G F σ H c/\i c d /\
 ∀J H' b e a,Sub F b->Rel K G b σ H' a->Walks K J b e->d e a->R J H'
theorem Rel.turn{K:Fg}(R:Rel K G F σ H ρ)(s:Sub F F2)(n:∀b o,F2 b=O o->F b=O o\/H b=U)(x:Sub F2 H')(c:Sub H H'):Rel K G F2 σ H' ρ where
 len:=R.len
 sub:=x
 sub0:=R.sub0.trans s
 fn:=λb o e=>by
  rcases n b o e with q|q
  .exact R.fn b o q
  .exact .inr (R.h0 q)
 keep:=λa o e m t=>c _ _ (R.keep a o e m t)
 tb:=R.tb.up (λ_ _ _ e=>c _ _ e) λz B=>by
  obtain⟨C,M,I,_⟩:=R.tb z B;cases q:F2 z.1 with
  |none=>rfl
  |some u =>
   rcases n _ u q with y|y
   .rw[C]at y;cases y
   .rw[I]at y;cases y
 fz:=λi d e=>by obtain⟨v,j,k⟩:=R.fz i d e;exact⟨v,j,k.mono s⟩
 ow:=λi t e w=>by
  obtain⟨a,o,j,k,l,L⟩:=R.ow i t e w;refine⟨a,o,j,?_,c _ _ l,L.mono s⟩;cases q:F2 a with
  |none=>rfl
  |some u =>
   rcases n a u q with z|z
   .rw[k]at z;cases z
   .rw[l]at z;cases z
 new:=R.new
 io:=R.io
 ioi:=R.ioi
 ap:=R.ap
theorem RF{l:List α}{x:α}(h:l[i]?=O x):l.drop i=x::l.drop (i+1):=by obtain⟨hl,rfl⟩:=L1.mp h;exact W4 hl
noncomputable def gq(c:ZW)(j:gY):gY:=λE e=>∃W:Nat->Ev->Prop,(∃m,W m e)/\∀m e,W m e->c e λb a=>if b=Ul then
 ∃N:Ev->Prop,(∀d,N d->∃i,i<m/\W i d)/\j {nx:=N,rt:=E.rt,bk:=E.nx,ct:=N} a else E.nx a
theorem rC{K:Fg}{E:Ends}(h:EX K (gq c tb) E σ H):SD (LX K c) (EX K tb) E σ H:=by
 obtain⟨G,F,Y,D,R,⟨W,⟨m0,w0⟩,st⟩,n,r,b,c⟩:=h;refine⟨λm σ H=>∃C d,Sub F C/\Rel K G C σ H d/\W m d,⟨m0,F,Y,Sub.refl _,R,w0⟩,?_⟩;rintro m σ H ⟨C,d,s',R',w'⟩;refine⟨G,C,d,_,R',st m d w',λx H1 L t w M q=>?_⟩;cases x with
 |false=>exact n σ H1 L t (s'.trans w) M q
 |true =>
  obtain⟨N,hN,q⟩:=q;refine⟨λy P=>∃I e,Sub F I/\Rel K G I y P e/\N e,λy P ⟨I,e,z1,z2,z3⟩=>?_,?_⟩
  .obtain⟨m',hm,hw⟩:=hN e z3;exact⟨m',hm,I,e,z1,z2,hw⟩
  .refine⟨G,L,t,_,M,q,λi B j a k l q=>?_,λv i B j x4 a k l r4 q=>?_,λi B j a k l q=>?_,λi B j a k l q=>?_⟩
   .exact⟨j,a,s'.trans<|w.trans k,l,q⟩
   .exact r v i B j x4 a (s'.trans<|w.trans k) l r4 q
   .exact n i B j a (s'.trans<|w.trans k) l q
   .exact⟨j,a,s'.trans<|w.trans k,l,q⟩
noncomputable def sC:Yi Sl->Yi Sl
 |some (.ow d)=>O<|.io d
 |x=>x
noncomputable def nU(own:Us)(fr:Bm)(a:Ev):Ev:=own.map (λ_=>U)++fr.map λi=>sC<|(a[i]?).getD U
noncomputable def uC:Yi Sl->Yi (Yi Sl)->Yi Sl
 |some (.ow d),O (O<|.io a)=>O<|.ow a
 |some (.io d),O (O<|.io a)=>O<|.io a
 |x,_=>x
noncomputable def cV(fr:Bm)(a:Ev):Nat->Ev->Ev
 |_,[]=>[]
 |j,x::b=>uC x ((fr.zip a).lookup j)::cV fr a (j+1) b
theorem oU(fr:Bm)(b:Ev):∀(a:Ev) (j i:Nat),(cV fr b j a)[i]?=(a[i]?).map λx=>uC x<|(fr.zip b).lookup<|j+i
 |[],j,i=>by simp[cV]
 |x::a,j,0=>by simp[cV]
 |x::a,j,i+1=>by have:=oU fr b a (j+1) i;simp only[cV,O3];rw[this,show j+1+i=j+(i+1) by lia]
theorem SF(fr:Bm)(b:Ev):∀(a:Ev) (j:Nat),(cV fr b j a).length=a.length
 |[],_=>rfl
 |x::a,j=>by simp[cV,SF fr b a<|j+1]
theorem pU:∀{fr:Bm}{τ:Ev}{k i:Nat}{x:Yi Sl},fr.Nodup->fr[k]?=O i->τ[k]?=O x->(fr.zip τ).lookup i=O x
 |[],_,_,_,_,_,e,_=>by simp at e
 |j::fr,[],_,_,_,_,_,e=>by simp at e
 |j::fr,y::τ,0,i,x,_,e,a=>by simp at e a;subst e a;simp[M9]
 |j::fr,y::τ,k+1,i,x,c,e,a=>by
  have b:=k6.mp c;simp at e a;have d:i∈fr:=P2 e;have ne:(i==j)=false:=by simp;intro z;subst z;exact b.1 d
  simp[M9,ne];exact pU b.2 e a
theorem iY:∀{fr:Bm}{a:Ev}{i:Nat}{x:Yi Sl},(fr.zip a).lookup i=O x->∃k:Nat,fr[k]?=O i/\a[k]?=O x
 |[],_,_,_,e=>by simp at e
 |j::fr,[],_,_,e=>by simp at e
 |j::fr,y::a,i,x,e=>by
  by_cases z:i=j
  .subst z;simp[M9]at e;subst e;exact⟨0,by simp,by simp⟩
  .have ne:(i==j)=false:=by simp[z]
   simp[M9,ne]at e;obtain⟨k,b,c⟩:=iY e;exact⟨k+1,by simpa using b,by simpa using c⟩
noncomputable def uv(σ:L2.St)(b:Ev)(i:Nat):Yi Eb:=match b[i]?,σ[i]? with
 |some (O s),O (O<|.ref a)=>if uZ s=Ul then O a else U
 |_,_=>U
theorem Lx(h:uv σ ρ i=O a):∃s,ρ[i]?=O (O s)/\uZ s=Ul/\σ[i]?=O (O<|V.ref a):=by
 unfold uv at h;split at h
 .rename_i s b c d;split at h
  .rename_i w;cases h;exact⟨s,c,w,d⟩
  .cases h
 .cases h
theorem vC{s:Sl}(b:ρ[i]?=O (O s))(c:uZ s=Ul)(d:σ[i]?=O (O<|V.ref a)):uv σ ρ i=O a:=by unfold uv;rw[b,d];simp[c]
noncomputable def BB(own:Us)(fr:Bm)(F H:Hp)(σ:L2.St)(a:Ev):Gh:=⟨H,F,λj=>if own.length<=j then (match fr[j-own.length]? with|some i=>uv σ a i|none=>U) else U⟩
theorem iq(h:(BB own fr F H σ ρ).io j=O a):∃k i s,j=own.length+k/\fr[k]?=O i/\ρ[i]?=O (O s)/\uZ s=Ul/\σ[i]?=O (O<|V.ref a):=by
 unfold BB at h;simp only at h;split at h
 .rename_i hl;split at h
  .rename_i i e;obtain⟨s,b,c,d⟩:=Lx h;exact⟨j-own.length,i,s,by lia,e,b,c,d⟩
  .cases h
 .cases h
theorem jq{s:Sl}(h0:fr[k]?=O i)(b:ρ[i]?=O (O s))(c:uZ s=Ul)(d:σ[i]?=O (O<|V.ref a)):(BB own fr F H σ ρ).io (own.length+k)=O a:=by unfold BB;simp only;rw[Ib<|B1 _ _,K3,h0];exact vC b c d
theorem Mx{own:Us}{f:Nat->Yi α}(h:(own.map (λ_=>(U:Yi α))++fr.map f)[j]?=O (O x)):∃k i,j=own.length+k/\fr[k]?=O i/\f i=O x:=by
 by_cases hl:j<own.length
 .rw[m3<|by simpa using hl]at h;simp at h
 .rw[Q2<|by simpa using T1 hl]at h;simp at h;obtain⟨i,a,b⟩:=h;exact⟨j-own.length,i,by lia,a,b⟩
theorem TF{own:Us}{f:Nat->Yi α}(h:fr[k]?=O i):(own.map (λ_=>(U:Yi α))++fr.map f)[own.length+k]?=O (f i):=by rw[Q2<|by simp];simp[h]
theorem vv{s:Sl}(h:sC x=O s):∃a,x=O a/\((∃d,a=.fz d/\s=.fz d)\/(uZ a=Ul/\s=.io a.d)):=by
 cases x with
 |none=>cases h
 |some a =>
  cases a with
  |fz d=>cases h;exact⟨_,Z,.inl ⟨d,Z,Z⟩⟩
  |ow d=>cases h;exact⟨_,Z,.inr ⟨Z,Z⟩⟩
  |io d=>cases h;exact⟨_,Z,.inr ⟨Z,Z⟩⟩
theorem getD_some{o:Yi (Yi α)}{x:α}(h:o.getD U=O x):o=O (O x):=by
 cases o with
 |none=>cases h
 |some y=>simp at h;rw[h]
section
variable {K:Fg}{G:Gh}{F F':Hp}{σ τ:L2.St}{ρ μ:Ev}{own:Us}
theorem tJ{s:Sl}(h:(nU own fr ρ)[j]?=O (O s)):∃k i a,j=own.length+k/\fr[k]?=O i/\ρ[i]?=O (O a)/\((∃d,a=.fz d/\s=.fz d)\/(uZ a=Ul/\s=.io a.d)):=by obtain⟨k,i,b,c,e⟩:=Mx h;obtain⟨a,l,m⟩:=vv e;exact⟨k,i,a,b,c,getD_some l,m⟩
theorem qU(h:fr[k]?=O i):(EM own σ fr)[own.length+k]?=O ((σ[i]?).getD U):=TF (f:=λi=>(σ[i]?).getD U) h
theorem Ox(h:fr[k]?=O i):(nU own fr ρ)[own.length+k]?=O (sC<|(ρ[i]?).getD U):=TF (f:=λi=>sC<|(ρ[i]?).getD U) h
theorem xv(c:fr.Nodup){k l i:Nat}(a:fr[k]?=O i)(b:fr[l]?=O i):k=l:=by obtain⟨j,d⟩:=L1.mp a;obtain⟨m,e⟩:=L1.mp b;exact(List.getElem_inj c).mp<|d.trans e.symm
theorem Rel.inner(R:Rel K G F σ H ρ)(nd:fr.Nodup):Rel K (BB own fr F H σ ρ) F (EM own σ fr) H (nU own fr ρ) where
 len:=by simp[EM,XO,nU]
 sub:=R.sub
 sub0:=Sub.refl _
 fn:=λ_ _ e=>.inl e
 keep:=λ_ _ e _ _=>e
 tb:=R.tb
 fz:=λj d e=>by
  obtain⟨k,i,y,rfl,b,c,m⟩:=tJ e;rcases m with⟨C,rfl,z⟩|⟨_,z⟩
  .cases z;obtain⟨v,B,I⟩:=R.fz i d c;exact⟨v,by rw[qU b,B];rfl,I⟩
  .cases z
 ow:=λj s e w=>by
  obtain⟨k,i,y,rfl,b,c,m⟩:=tJ e;rcases m with⟨C,rfl,z⟩|⟨x,z⟩
  .cases z;cases w
  .cases z;obtain⟨a,o,B,I,P,Y⟩:=R.ow i y c x;exact⟨a,o,by rw[qU b,B];rfl,I,P,Y⟩
 new:=λj d a e _=>by obtain⟨k,i,y,rfl,b,c,m⟩:=tJ e;rcases m with⟨C,rfl,z⟩|⟨x,z⟩<;>cases z
 io:=λj a e=>by obtain⟨k,i,s,rfl,h1,b,c,m⟩:=iq e;refine⟨s.d,?_,by rw[qU h1,m];rfl⟩;rw[Ox h1,b];cases s<;>first|rfl|cases c
 ioi:=λj d e=>by
  obtain⟨k,i,y,rfl,b,c,m⟩:=tJ e;rcases m with⟨C,rfl,z⟩|⟨x,z⟩
  .cases z
  .obtain⟨a,o,B,_⟩:=R.ow i y c x;exact⟨a,jq b c x B⟩
 ap:=λj l s t a B w1 I w2 P Y=>by
  obtain⟨k,i,y,rfl,b,c,m⟩:=tJ B;obtain⟨k',i',L,rfl,M,h3',h4'⟩:=tJ I;have p1:uZ y=true:=by
   rcases m with⟨C,rfl,z⟩|⟨x,z⟩
   .subst z;cases w1
   .exact x
  have p2:uZ L=true:=by
   rcases h4' with⟨C,rfl,z⟩|⟨x,z⟩
   .subst z;cases w2
   .exact x
  rw[qU b]at P;rw[qU M]at Y;have q:=R.ap i i' y L a c p1 h3' p2 (getD_some<|Z1 P)<|getD_some<|Z1 Y;subst q;rw[xv nd b M]
theorem jY(R:Rel K G F σ H ρ)(v:Rel K (BB own fr F H σ ρ) F' τ H' μ)(w:fr.Nodup){i:Nat}{s:Sl}(h:(cV fr (μ.drop own.length) 0 ρ)[i]?=O (O s)):∃b,ρ[i]?=O (O b)/\((s=b/\(uZ b=Ul->i∉fr))\/(uZ b=Ul/\∃k j,fr[k]?=O i/\μ[own.length+k]?=O (O<|Sl.io j)/\s=b.put j)):=by
 rw[oU]at h;cases e:ρ[i]? with
 |none=>rw[e]at h;cases h
 |some x =>
  rw[e]at h;simp only[m6,o8]at h;have h:=Z1 h;cases x with
  |none=>simp[uC]at h
  |some b =>
   refine⟨b,Z,?_⟩;by_cases c:uZ b=Ul
   .by_cases l:i∈fr
    .obtain⟨k,m⟩:=m7.mp l;obtain⟨a,o,B,_⟩:=R.ow i b e c;obtain⟨j,t,g2⟩:=v.io _ _<|jq (own:=own) (F:=F) (H:=H) m e c B;have z:=pU (τ:=μ.drop own.length) w m (by rw[A9];exact t);rw[z]at h;refine .inr ⟨c,k,j,m,t,?_⟩;cases b with
     |fz d=>cases c
     |ow d=>simp[uC]at h;exact h.symm
     |io d=>simp[uC]at h;exact h.symm
    .refine .inl ⟨?_,λ_=>l⟩;have z:(fr.zip<|μ.drop own.length).lookup i=none:=by
      cases q:(fr.zip<|μ.drop own.length).lookup i with
      |none=>rfl
      |some y=>obtain⟨k,C,_⟩:=iY q;exact(l<|P2 C).elim
     rw[z]at h;cases b with
     |fz d=>cases c
     |ow d=>simp[uC]at h;exact h.symm
     |io d=>simp[uC]at h;exact h.symm
   .refine .inl ⟨?_,λz=>(c z).elim⟩;cases b with
    |fz d=>simp[uC]at h;exact h.symm
    |ow d=>exact(c Z).elim
    |io d=>exact(c Z).elim
theorem VM(x:Yi (Yi Sl)):∃a,uC (O<|.io d) x=O (.io a):=by
 rcases x with _|_|(a|a|a)
 .exact⟨d,Z⟩
 .exact⟨d,Z⟩
 .exact⟨d,Z⟩
 .exact⟨d,Z⟩
 .exact⟨a,Z⟩
theorem Rel.outer(R:Rel K G F σ H ρ)(l:Rel K (BB own fr F H σ ρ) F' τ H' μ)(I:fr.Nodup):Rel K G F' σ H' (cV fr (μ.drop own.length) 0 ρ):=by
 have Y:Sub F F':=l.sub0;have B:∀{i:Nat}{s:Sl},(cV fr (μ.drop own.length) 0 ρ)[i]?=O (O s)->uZ s=Ul->∃c,ρ[i]?=O (O c)/\uZ c=true:=λ{i s} e w=>by
  obtain⟨c,b,m⟩:=jY R l I e;rcases m with⟨rfl,_⟩|⟨x,_⟩
  .exact⟨s,b,w⟩
  .exact⟨c,b,x⟩
 refine⟨by rw[SF];exact R.len,l.sub,R.sub0.trans Y,λa o e=>?_,λa o e n t=>?_,l.tb,λi d e=>?_,λi s e w=>?_,λi d a e ea=>?_,λi a e=>?_,λi d e=>?_,λi j s t a e1 w1 e2 w2 e3 e4=>?_⟩
 .rcases l.fn a o e with q|q
  .exact R.fn a o q
  .exact .inr (R.h0 q)
 .refine l.keep a o (R.keep a o e n t) (λj z=>?_) t;obtain⟨k,i,s,rfl,b,m,h3,h4⟩:=iq z;cases s with
  |fz d=>cases h3
  |ow d=>rw[R.new i d a m h4]at e;cases e
  |io d=>obtain⟨a',g⟩:=R.ioi i d m;obtain⟨_,_,g2⟩:=R.io i a' g;rw[h4]at g2;cases g2;exact n i g
 .obtain⟨c,b,m⟩:=jY R l I e;rcases m with⟨rfl,_⟩|⟨x,k,L,_,_,z⟩
  .obtain⟨v,y,g2⟩:=R.fz i d b;exact⟨v,y,g2.mono Y⟩
  .cases c<;>simp[Sl.put,uZ]at z x
 .obtain⟨c,b,m⟩:=jY R l I e;rcases m with⟨rfl,hm⟩|⟨x,k,L,hk,hd,rfl⟩
  .obtain⟨a,o,y,g2,C,M⟩:=R.ow i s b w;have nio:∀j,(BB own fr F H σ ρ).io j≠O a:=λj z=>by
    obtain⟨k,i',s',rfl,q1,q2,q3,q4⟩:=iq z;have:=R.ap i i' s s' a b w q2 q3 y q4;subst this;exact hm w<|P2 q1
   refine⟨a,o,y,?_,l.keep a o C nio (R.tb.ne λu z=>by rw[C]at z;cases z;exact M.stk),M.mono Y⟩;cases q:F' a with
   |none=>rfl
   |some u =>
    rcases l.fn a u q with z|z
    .have z:F a=O u:=z;rw[g2]at z;cases z
    .have z:H a=none:=z;rw[C]at z;cases z
  .obtain⟨a,o,y,g2,C,M⟩:=R.ow i c b x;obtain⟨d2,q1,q2⟩:=l.io _ _<|jq (own:=own) (F:=F) (H:=H) hk b x y;obtain⟨a',o',p1,p2,p3,p4⟩:=l.ow _ _ hd Z;rw[q2]at p1;cases p1;exact⟨a,o',y,p2,p3,by cases c<;>first|exact p4|cases x⟩
 .obtain⟨c,b,m⟩:=jY R l I e;rcases m with⟨rfl,_⟩|⟨x,k,L,_,_,z⟩
  .exact R.new i d a b ea
  .cases c with
   |fz d=>cases x
   |ow P=>exact R.new i P a b ea
   |io P=>cases z
 .obtain⟨d,b,m⟩:=R.io i a e;obtain⟨L,hd⟩:=VM (d:=d)<|(fr.zip<|μ.drop own.length).lookup i;exact⟨L,by rw[oU,b];simp only[m6,o8];rw[hd],m⟩
 .obtain⟨c,b,m⟩:=jY R l I e;rcases m with⟨rfl,_⟩|⟨x,k,L,_,_,z⟩
  .exact R.ioi i d b
  .cases c with
   |fz d=>cases x
   |ow P=>cases z
   |io P=>exact R.ioi i P b
 .obtain⟨c,y,g2⟩:=B e1 w1;obtain⟨t0,C,M⟩:=B e2 w2;exact R.ap i j c t0 a y g2 C M e3 e4
end
noncomputable abbrev Con:=List Sl->(Sl->Ev->Prop)->Prop
noncomputable def tX(K:Fg)(i:Con):Sp:=λc H Q _=>∃(G:Gh) (F:Hp) (a:List Sl) (e:Sl->Ev->Prop),Rel K G F (c.map O) H (a.map O)/\i a e /\
 ∀v H' d r b,Sub F d->Rel K G d (c.map O) H' b->Res K G d H' (c.map O) b v r->e r b->Q v H'
mutual
noncomputable def noMut:D->Bool
 | .none=>Ul
 | .bool _=>Ul
 | .int _=>Ul
 | .str _=>Ul
 | .tuple xs=>noMutAll xs
 | .list _=>Um
 | .dict _=>Um
noncomputable def noMutAll:List D->Bool
 |[]=>Ul
 |x::a=>noMut x&&noMutAll a
end
section
variable {K:Fg}{F F':Hp}
mutual
theorem Da.noMut(h:∀b xs,F b=O (.tup xs)->F' b=O (.tup xs)):∀{v:V}{d:D},Da K F v d->noMut d=Ul->Da K F' v d
 |_,_,.non,_=>.non
 |_,_,.bl b,_=>.bl b
 |_,_,.int i,_=>.int i
 |_,_,.str x,_=>.str x
 |_,_,.lst _ _,z=>by simp[L3.noMut]at z
 |_,_,.tup e t,z=>.tup (h _ _ e) (DaAll.noMut h t<|by simpa [L3.noMut]using z)
 |_,_,.dk _ _,z=>by simp[L3.noMut]at z
 |_,_,.dt _ _,z=>by simp[L3.noMut]at z
 |_,_,.scr _,z=>by simp[L3.noMut,SK]at z
theorem DaAll.noMut(h:∀b xs,F b=O (.tup xs)->F' b=O (.tup xs)):∀{xs:List V}{c:List D},DaAll K F xs c->noMutAll c=Ul->DaAll K F' xs c
 |_,_,.nil,_=>.nil
 |_,_,.cons a t,z=>by simp[noMutAll]at z;exact .cons (Da.noMut h a z.1)<|DaAll.noMut h t z.2
end
end
noncomputable def yZ(a:Ev):List xG->Bool
 |[]=>Um
 | .inr _::xs=>yZ a xs
 | .inl i::xs=>(match a[i]? with|some (O s)=>uZ s|_=>Um)||yZ a xs
def zv(c:Con)(as:List AD):TD:=λe Q=>WZ as e λb a=>rZ a b λi=>c (i.map Sl.fz) λr _=>match yZ a b with
 |false=>Q r a
 |true=>noMut r.d=Ul/\Q r a
def Av(c:Con)(i:Nat)(b:List xG)(a:Ev)(Q:Sl->Ev->Prop):Prop:=match a[i]? with
 |some (O s)=>match uZ s,yZ a b with
  |true,Um=>rZ a b λe=>c (.io s.d::e.map Sl.fz) λr outs=>match outs with
   |some (.io j)::_=>Q r<|a.set i<|O<|s.put j
   |_=>Al
  |_,_=>Al
 |_=>Al
def yG(b:Con)(i:Nat)(as:List AD):TD:=λc Q=>WZ (.inl i::as) c λd a=>Av b i d.tail a Q
def LentA(σ:L2.St)(b:Ev)(c:List xG)(a:Eb):Prop:=∃(i:Nat) (s:Sl),Sum.inl i∈c/\b[i]?=O (O s)/\uZ s=Ul/\σ[i]?=O (O<|V.ref a)
theorem aW{σ:L2.St}{k:Ev}:∀{xs:List xG}{a:Eb},LentA σ k xs a->yZ k xs=Ul
 |[],a,⟨i,s,h,_⟩=>by cases h
 | .inr d::xs,a,⟨i,s,h,b,c,e⟩=>by
  rcases T0.mp h with h|h
  .cases h
  .exact aW (xs:=xs) ⟨i,s,h,b,c,e⟩
 | .inl j::xs,a,⟨i,s,h,b,c,e⟩=>by
  unfold yZ;rcases T0.mp h with h|h
  .cases h;rw[b];simp[c]
  .rw[aW (xs:=xs) ⟨i,s,h,b,c,e⟩];simp
open Classical in
noncomputable def bW(σ:L2.St)(a:Ev)(c:List xG)(F H:Hp):Hp:=λb=>if LentA σ a c b then H b else F b
open Classical in
noncomputable def uJ(σ:L2.St)(a:Ev)(c:List xG)(F:Hp):Hp:=λb=>if LentA σ a c b then U else F b
section
variable {K:Fg}{G:Gh}{F F':Hp}{σ:L2.St}{ρ:Ev}{xs:List xG}
theorem kY(h:¬LentA σ ρ xs b):bW σ ρ xs F H b=F b:=by unfold bW;rw[if_neg h]
theorem zG(h:LentA σ ρ xs b):bW σ ρ xs F H b=H b:=by unfold bW;rw[Ib h]
theorem CK(h:¬LentA σ ρ xs b):uJ σ ρ xs F b=F b:=by unfold uJ;rw[if_neg h]
theorem Px(h:LentA σ ρ xs b):uJ σ ρ xs F b=none:=by unfold uJ;rw[Ib h]
theorem LentA.own(R:Rel K G F σ H ρ){b:Eb}(h:LentA σ ρ xs b):∃(i:Nat) (s:Sl) (o:HO),ρ[i]?=O (O s)/\uZ s=Ul/\σ[i]?=O (O<|V.ref b)/\F b=U/\H b=O o/\Own1 K F o s.d:=by obtain⟨i,s,_,c,e,j⟩:=h;obtain⟨a,o,k,g2,l,m⟩:=R.ow i s c e;rw[j]at k;cases k;exact⟨i,s,o,c,e,j,g2,l,m⟩
theorem rW(R:Rel K G F σ H ρ):Sub F (bW σ ρ xs F H):=λb o e=>by
 have n:¬LentA σ ρ xs b:=λz=>by obtain⟨_,_,_,_,_,_,h,_⟩:=z.own R;rw[h]at e;cases e
 rw[kY n];exact e
theorem wC(R:Rel K G F σ H ρ):Sub (bW σ ρ xs F H) H:=λb o e=>by
 by_cases z:LentA σ ρ xs b
 .rw[zG z]at e;exact e
 .rw[kY z]at e;exact R.sub _ _ e
theorem xC(R:Rel K G F σ H ρ):TabOk K (bW σ ρ xs F H) H:=R.tb.up (λ_ _ _ e=>e) λz a=>by
 obtain⟨b,d,c,_⟩:=R.tb z a;have n:¬LentA σ ρ xs z.1:=λy=>by obtain⟨_,_,o,_,_,_,_,h,w⟩:=y.own R;rw[c]at h;cases h;exact w
 rw[kY n];exact b
theorem kq(R:Rel K G F σ H ρ){ys:List xG}{j:List V}{k:List D->Prop}(m:∀y∈ys,y∈xs)(o:OpdsAt K F σ j ys)(h:rZ ρ ys k):∃c,DaAll K (bW σ ρ xs F H) j c/\k c:=by
 induction o generalizing k with
 |nil=>exact⟨[],.nil,h⟩
 |@cons v x j ys o t B =>
  cases x with
  |inr d=>obtain⟨c,a,q⟩:=B (k:=λc=>k (d::c)) (λy hy=>m y<|i0 _ hy) h;exact⟨d::c,.cons (Da.mono (rW R) o) a,q⟩
  |inl i =>
   unfold rZ at h;split at h
   .rename_i s e;obtain⟨c,a,q⟩:=B (k:=λc=>k (s.d::c)) (λy hy=>m y<|i0 _ hy) h;refine⟨s.d::c,.cons ?_ a,q⟩;have o:σ[i]?=O (O v):=o;have own:uZ s=Ul->Da K (bW σ ρ xs F H) v s.d:=λw=>by
     obtain⟨b,u,C,Y,L,M⟩:=R.ow i s e w;rw[o]at C;cases C;have l:LentA σ ρ xs b:=⟨i,s,m _ u0,e,w,o⟩;exact(M.mono<|rW R).da (by rw[zG l];exact L)
    cases s with
    |fz d=>obtain⟨v,I,P⟩:=R.fz i d e;rw[o]at I;cases I;exact P.mono<|rW R
    |ow d=>exact own Z
    |io d=>exact own Z
   .exact h.elim
theorem Qx{o:HO}(h:Own1 K F o d):noMut d=false:=by
 cases o with
 |ext e=>rcases h.ext with⟨a,b,xs,c,z,rfl,t⟩|⟨a,b,xs,c,z,rfl,t⟩<;>rfl
 |_=>cases d<;>first|rfl|exact h.elim
theorem cK{a:List D}{i:Nat}{s:Sl}(h:((a.map Sl.fz).map O)[i]?=O (O s)):∃d,a[i]?=O d/\s=.fz d:=by
 rw[O0,G1]at h;cases e:a[i]? with
 |none=>rw[e]at h;cases h
 |some d=>rw[e]at h;cases h;exact⟨d,Z,Z⟩
theorem WM{a:List V}{i:Nat}(h:a[i]?=O v):(a.map O)[i]?=O (O v):=by rw[G1,h];rfl
theorem sU(s:Sub F H)(tb:TabOk K F H)(da:DaAll K F vs ds):Rel K ⟨H,F,λ_=>U⟩ F (vs.map O) H ((ds.map Sl.fz).map O) where
 len:=by simp[da.length]
 sub:=s
 sub0:=Sub.refl _
 fn:=λ_ _ e=>.inl e
 keep:=λ_ _ e _ _=>e
 tb:=tb
 fz:=λi d e=>by obtain⟨k,b,c⟩:=cK e;cases c;obtain⟨v,l,m⟩:=da.get b;exact⟨v,WM l,m⟩
 ow:=λi s e w=>by obtain⟨k,b,rfl⟩:=cK e;cases w
 new:=λi d a e _=>by obtain⟨k,b,c⟩:=cK e;cases c
 io:=λi a e=>by cases e
 ioi:=λi d e=>by obtain⟨k,b,c⟩:=cK e;cases c
 ap:=λi j s t a e w _ _ _ _=>by obtain⟨k,b,rfl⟩:=cK e;cases w
theorem Rel.called(R:Rel K G F σ H ρ){l:L2.St}{m:Ev}(c:Rel K ⟨H,bW σ ρ xs F H,λ_=>U⟩ F' l H' m):Sub F (uJ σ ρ xs F')/\Rel K G (uJ σ ρ xs F') σ H' ρ:=by
 have nl:∀{b:Eb}{o:HO},F b=O o->¬LentA σ ρ xs b:=λ{b o} e z=>by obtain⟨_,_,_,_,_,_,h,_⟩:=z.own R;rw[h]at e;cases e
 have j:Sub F (uJ σ ρ xs F'):=λb o e=>by rw[CK<|nl e];exact c.sub0 _ _<|rW R _ _ e
 have k:∀{b:Eb}{o:HO},uJ σ ρ xs F' b=O o->¬LentA σ ρ xs b/\F' b=O o:=λ{b o} e=>by
  by_cases z:LentA σ ρ xs b
  .rw[Px z]at e;cases e
  .rw[CK z]at e;exact⟨z,e⟩
 have kp:∀{b:Eb}{o:HO},(∀z∈TB K,z.1≠b)->H b=O o->H' b=O o:=λ{b o} t e=>c.keep b o e (λi z=>by cases z) t;refine⟨j,R.len,λb o e=>c.sub _ _ (k e).2,R.sub0.trans j,λb o e=>?_,λa o e n t=>kp t<|R.keep a o e n t,c.tb.up (λ_ _ _ e=>e) λz I=>?_,λi d e=>?_,λi s e w=>?_,R.new,R.io,R.ioi,R.ap⟩
 .obtain⟨n,e⟩:=k e;rcases c.fn b o e with q|q
  .have q:bW σ ρ xs F H b=O o:=q;rw[kY n]at q;exact R.fn b o q
  .exact .inr (R.h0 q)
 .cases q:uJ σ ρ xs F' z.1 with
  |none=>rfl
  |some u=>have:=(k q).2;rw[(c.tb z I).1]at this;cases this
 .obtain⟨v,x,y⟩:=R.fz i d e;exact⟨v,x,y.mono j⟩
 .obtain⟨a,o,x,y,B,C⟩:=R.ow i s e w;refine⟨a,o,x,?_,kp (R.tb.ne λu z=>by rw[B]at z;cases z;exact C.stk) B,C.mono j⟩;cases q:uJ σ ρ xs F' a with
  |none=>rfl
  |some u =>
   obtain⟨n,q⟩:=k q;rcases c.fn a u q with z|z
   .have z:bW σ ρ xs F H a=O u:=z;rw[kY n,y]at z;cases z
   .have z:H a=none:=z;rw[B]at z;cases z
theorem Res.called(R:Rel K G F σ H ρ){c:L2.St}{j:Ev}{v:V}{r:Sl}(y:Rel K ⟨H,bW σ ρ xs F H,λ_=>U⟩ F' c H' j)(q:Res K ⟨H,bW σ ρ xs F H,λ_=>U⟩ F' H' c j v r)(hl:yZ ρ xs=Ul->noMut r.d=Ul):Res K G (uJ σ ρ xs F') H' σ ρ v r:=by
 have B:∀b ys,F' b=O (.tup ys)->uJ σ ρ xs F' b=O (.tup ys):=λb ys e=>by
  have n:¬LentA σ ρ xs b:=λz=>by obtain⟨_,_,o,_,_,_,_,h,w⟩:=z.own R;have m:=y.sub0 b o (by show bW σ ρ xs F H b=O o;rw[zG z];exact h);rw[e]at m;cases m;exact w
  rw[CK n];exact e
 by_cases l:yZ ρ xs=Ul
 .cases r with
  |fz d=>exact Da.noMut B q<|hl l
  |ow d=>obtain⟨a,o,_,_,_,w,_⟩:=q;have:=hl l;rw[show (Sl.ow d).d=d from Z,Qx w]at this;cases this
  |io d=>exact q.elim
 .have e:uJ σ ρ xs F'=F':=funext λb=>CK λz=>l<|aW z;rw[e];cases r with
  |fz d=>exact q
  |io d=>exact q.elim
  |ow d=>obtain⟨a,o,C,I,L,M,k,_⟩:=q;refine⟨a,o,C,I,L,M,R.h0 k,λi s P w z=>?_⟩;obtain⟨Y,o',t,_,x,_⟩:=R.ow i s P w;rw[z]at t;cases t;have k:H a=none:=k;rw[k]at x;cases x
theorem XM{E:XK}{Q:VK}(h:lift K (zv qd as) σ H Q):EH (tX K qd) [] E (MX<|as.map<|uX K) σ H Q:=by
 obtain⟨G,F,ρ,l,R,w,k⟩:=h;refine LZ R w λI L M xs a m b o c=>?_;obtain⟨t,da,c⟩:=kq (xs:=xs) b (λy hy=>hy) o c;rw[B3];refine⟨_,_,t.map Sl.fz,_,sU (wC b) (xC b) da,c,λv H' F' r x s' i B q=>?_⟩;obtain⟨C,R2⟩:=b.called i;have j:(yZ a xs=Ul->noMut r.d=Ul)/\l r a:=by
  split at q
  .rename_i e;exact⟨λz=>(by rw[e]at z;cases z),q⟩
  .exact⟨λ_=>q.1,q.2⟩
 exact k v H' _ r a (m.trans C) R2 (Res.called b i B j.1) j.2
end
section
variable {K:Fg}{G:Gh}{F F':Hp}{σ:L2.St}{ρ:Ev}{xs:List xG}
noncomputable def tT(a:Eb):Nat->Yi Eb:=λj=>if j=0 then O a else U
theorem UF(h:tT a j=O b):j=0/\b=a:=by
 unfold tT at h;split at h
 .rename_i z;cases h;exact⟨z,Z⟩
 .cases h
theorem Rx{o:HO}(s:Sub F H)(q:F a=U)(x:H a=O o)(y:Own1 K F o d)(tb:TabOk K F H)(da:DaAll K F vs ds):Rel K ⟨H,F,tT a⟩ F ((V.ref a::vs).map O) H ((Sl.io d::ds.map Sl.fz).map O) where
 len:=by simp[da.length]
 sub:=s
 sub0:=Sub.refl _
 fn:=λ_ _ e=>.inl e
 keep:=λ_ _ e _ _=>e
 tb:=tb
 fz:=λi l e=>by
  cases i with
  |zero=>simp at e
  |succ i =>
   have e:((ds.map Sl.fz).map O)[i]?=O (O<|Sl.fz l):=by simpa using e
   obtain⟨m,c,k⟩:=cK e;cases k;obtain⟨v,B,g2⟩:=da.get c;exact⟨v,by simpa using B,g2⟩
 ow:=λi s e w=>by
  cases i with
  |zero=>simp at e;subst e;exact⟨a,o,by simp,q,x,y⟩
  |succ i =>
   have e:((ds.map Sl.fz).map O)[i]?=O (O s):=by simpa using e
   obtain⟨m,c,rfl⟩:=cK e;cases w
 new:=λi l b e _=>by
  cases i with
  |zero=>simp at e
  |succ i =>
   have e:((ds.map Sl.fz).map O)[i]?=O (O<|Sl.ow l):=by simpa using e
   obtain⟨m,c,k⟩:=cK e;cases k
 io:=λi b e=>by obtain⟨rfl,rfl⟩:=UF e;exact⟨d,by simp,by simp⟩
 ioi:=λi l e=>by
  cases i with
  |zero=>exact⟨a,Z⟩
  |succ i =>
   have e:((ds.map Sl.fz).map O)[i]?=O (O<|Sl.io l):=by simpa using e
   obtain⟨m,c,k⟩:=cK e;cases k
 ap:=λi j s t b c C k I _ _=>by
  have f:∀{i:Nat}{s:Sl},((Sl.io d::ds.map Sl.fz).map O)[i]?=O (O s)->uZ s=Ul->i=0:=λ{i s} e w=>by
   cases i with
   |zero=>rfl
   |succ i =>
    have e:((ds.map Sl.fz).map O)[i]?=O (O s):=by simpa using e
    obtain⟨m,c,rfl⟩:=cK e;cases w
  rw[f c C,f k I]
theorem Rel.calledI(R:Rel K G F σ H ρ){i:Nat}{s:Sl}{a:Eb}{B:D}{L:L2.St}{M:Ev}(e:ρ[i]?=O (O s))(w:uZ s=Ul)(C:σ[i]?=O (O<|V.ref a))(m:Rel K ⟨H,F,tT a⟩ F' (O (V.ref a)::L) H' (O (Sl.io B)::M)):Rel K G F' σ H' (ρ.set i<|O<|s.put B):=by
 obtain⟨a0,o0,g1,g2,g3,g4⟩:=R.ow i s e w;rw[C]at g1;cases g1;have P:Sub F F':=m.sub0;have hl:=RZ e;have kp:∀{b:Eb}{o:HO},b≠a->(∀z∈TB K,z.1≠b)->H b=O o->H' b=O o:=λ{b o} n t q=>m.keep b o q (λj z=>n (UF z).2) t;have Y:∀{j:Nat}{t:Sl},j≠i->ρ[j]?=O (O t)->uZ t=Ul->∃b o,σ[j]?=O (O<|V.ref b)/\F' b=U/\H' b=O o/\Own1 K F' o t.d:=λ{j t} n q x=>by
  obtain⟨b,o,q1,q2,q3,q4⟩:=R.ow j t q x;have nb:b≠a:=λz=>n<|R.ap j i t s a q x e w (by rw[q1,z]) C;refine⟨b,o,q1,?_,kp nb (R.tb.ne λu z=>by rw[q3]at z;cases z;exact q4.stk) q3,q4.mono P⟩;cases z:F' b with
  |none=>rfl
  |some u =>
   rcases m.fn b u z with y|y
   .have y:F b=O u:=y;rw[q2]at y;cases y
   .have y:H b=none:=y;rw[q3]at y;cases y
 refine⟨by rw[j5];exact R.len,m.sub,R.sub0.trans P,λb o q=>?_,λb o q n t=>?_,m.tb,λj d q=>?_,λj t q x=>?_,λj d b q eb=>?_,λj b q=>?_,λj d q=>?_,λj k t u b e1 w1 e2 w2 e3 e4=>?_⟩
 .rcases m.fn b o q with y|y
  .exact R.fn b o y
  .exact .inr (R.h0 y)
 .refine kp (λz=>?_) t (R.keep b o q n t);subst z;cases s with
  |fz d=>cases w
  |ow d=>rw[R.new i d b e C]at q;cases q
  |io d=>obtain⟨a',y⟩:=R.ioi i d e;obtain⟨_,_,c⟩:=R.io i a' y;rw[C]at c;cases c;exact n i y
 .rcases GX q with⟨rfl,z⟩|⟨n,z⟩
  .cases s<;>simp[Sl.put,uZ]at z w
  .obtain⟨v,l,c⟩:=R.fz j d z;exact⟨v,l,c.mono P⟩
 .rcases GX q with⟨rfl,z⟩|⟨n,z⟩
  .cases z;obtain⟨b,o,l,c,y3,y4⟩:=m.ow 0 (.io B) (by simp) Z;simp at l;subst l;exact⟨a,o,C,c,y3,by cases s<;>first|exact y4|cases w⟩
  .exact Y n z x
 .rcases GX q with⟨rfl,z⟩|⟨n,z⟩
  .cases s with
   |fz d=>cases w
   |ow I=>exact R.new j I b e eb
   |io I=>cases z
  .exact R.new j d b z eb
 .obtain⟨d,l,c⟩:=R.io j b q;by_cases z:j=i
  .subst z;rw[e]at l;cases l;exact⟨B,by rw[AK hl];rfl,c⟩
  .exact⟨d,by rw[W1<|U3 z];exact l,c⟩
 .rcases GX q with⟨rfl,z⟩|⟨n,z⟩
  .cases s with
   |fz d=>cases w
   |ow I=>cases z
   |io I=>exact R.ioi j I e
  .exact R.ioi j d z
 .have f:∀(j:Nat) (t:Sl),(ρ.set i<|O<|s.put B)[j]?=O (O t)->uZ t=Ul->∃t',ρ[j]?=O (O t')/\uZ t'=true:=λj t q x=>by
   rcases GX q with⟨rfl,z⟩|⟨n,z⟩
   .exact⟨s,e,w⟩
   .exact⟨t,z,x⟩
  obtain⟨t',e1',w1'⟩:=f j t e1 w1;obtain⟨u',e2',w2'⟩:=f k u e2 w2;exact R.ap j k t' u' b e1' w1' e2' w2' e3 e4
theorem GZ(R:Rel K G F σ H ρ){ys:List xG}{c:List V}{k:List D->Prop}(m:yZ ρ ys=Um)(o:OpdsAt K F σ c ys)(h:rZ ρ ys k):∃b,DaAll K F c b/\k b:=by
 induction o generalizing k with
 |nil=>exact⟨[],.nil,h⟩
 |@cons v x c ys o t l =>
  cases x with
  |inr d=>obtain⟨b,a,q⟩:=l (k:=λb=>k (d::b)) m h;exact⟨d::b,.cons o a,q⟩
  |inl i =>
   unfold rZ at h;unfold yZ at m;simp only[Bool.or_eq_false_iff]at m;split at h
   .rename_i s e;obtain⟨b,a,q⟩:=l (k:=λb=>k (s.d::b)) m.2 h;refine⟨s.d::b,.cons ?_ a,q⟩;have j:=m.1;rw[e]at j;cases s with
    |fz d=>obtain⟨B,w,y⟩:=R.fz i d e;have o:σ[i]?=O (O v):=o;rw[o]at w;cases w;exact y
    |ow d=>cases j
    |io d=>cases j
   .exact h.elim
theorem yC{E:XK}{Q:VK}(h:lift K (yG qd i as) σ H Q):EH (tX K qd) [] E (MX<|(.inl i::as).map<|uX K) σ H Q:=by
 obtain⟨G,F,ρ,Qd,R,w,k⟩:=h;unfold yG WZ at w;split at w
 .rename_i s0 e0;obtain⟨v,B⟩:=R.bound e0;refine⟨v,B,LZ R w λvs L F1 xs m s1 l o c=>?_⟩;show tX K qd (v::vs++[]) L Q E;rw[B3];have c:Av qd i xs m Qd:=c;unfold Av at c;split at c
  .rename_i s e;split at c
   .rename_i C p2;obtain⟨a,o',M,g2,g3,g4⟩:=l.ow i s e C;rw[B]at M;cases M;obtain⟨ds,da,c⟩:=GZ l p2 o c;refine⟨_,F1,.io s.d::ds.map Sl.fz,_,Rx l.sub g2 g3 g4 l.tb da,c,λv H' F' r ρ' s' R' I q=>?_⟩;split at q
    .rename_i d' ρ2;have R2:=l.calledI e C B R';refine k v H' F' r _ (s1.trans s') R2 ?_ q;cases r with
     |fz d=>exact I
     |io d=>exact I.elim
     |ow d =>
      obtain⟨b,u,h1,h2,h3,h4,x,_⟩:=I;have x:L b=none:=x;refine⟨b,u,h1,h2,h3,h4,l.h0 x,λj t es w z=>?_⟩;have own:∃t',m[j]?=O (O t')/\uZ t'=true:=by
       rcases GX es with⟨rfl,y⟩|⟨n,y⟩
       .exact⟨s,e,C⟩
       .exact⟨t,y,w⟩
      obtain⟨t',y1,y2⟩:=own;obtain⟨a',o',P,_,Y,_⟩:=l.ow j t' y1 y2;rw[z]at P;cases P;rw[x]at Y;cases Y
    .exact q.elim
   .exact c.elim
  .exact c.elim
 .exact w.elim
noncomputable def eV(n:Nat)(a:List Sl):Ev:=a.map O++O1 (n-a.length) U
noncomputable def outs:List Sl->Ev->Ev
 |[],_=>[]
 | .io _::as,ρ=>(ρ.headD U)::outs as ρ.tail
 | .fz d::as,ρ=>O (.fz d)::outs as ρ.tail
 | .ow d::as,ρ=>O (.ow d)::outs as ρ.tail
theorem lJ{l:List (Yi α)}{i:Nat}{x:α}(h:(l++O1 n U)[i]?=O (O x)):l[i]?=O (O x):=by
 by_cases z:i<l.length
 .rw[m3 z]at h;exact h
 .rw[Q2<|T1 z,lQ]at h;split at h<;>cases h
theorem sW{l m:List α}{i:Nat}{x:α}(h:l[i]?=O x):(l++m)[i]?=O x:=by rw[m3<|RZ h];exact h
theorem Rel.start(R:Rel K G F (vs.map O) H (args.map O)):Rel K G F (L2.start N vs) H (eV N.length args) where
 len:=by have:=R.len;simp[L2.start,eV]at this ⊢;lia
 sub:=R.sub
 sub0:=R.sub0
 fn:=R.fn
 keep:=R.keep
 tb:=R.tb
 fz:=λi d e=>by obtain⟨v,b,c⟩:=R.fz i d<|lJ e;exact⟨v,sW b,c⟩
 ow:=λi s e w=>by obtain⟨a,o,b,c⟩:=R.ow i s (lJ e) w;exact⟨a,o,sW b,c⟩
 new:=λi d a e k=>R.new i d a (lJ e) (lJ k)
 io:=λi a e=>by obtain⟨d,b,c⟩:=R.io i a e;exact⟨d,sW b,sW c⟩
 ioi:=λi d e=>R.ioi i d (lJ e)
 ap:=λi j s t a l m q x y B=>R.ap i j s t a (lJ l) m (lJ q) x (lJ y)<|lJ B
theorem jK:∀{b:List Sl}{ρ:Ev}{i:Nat}{s:Sl},(outs b ρ)[i]?=O (O s)->(∃d,b[i]?=O (.io d)/\ρ[i]?=O (O s))\/(b[i]?=O s/\∀d,s≠.io d)
 |[],ρ,i,s,h=>by simp[outs]at h
 | .io d::as,ρ,0,s,h=>by
  simp[outs]at h;cases ρ with
  |nil=>simp at h
  |cons x ρ=>simp at h;exact .inl ⟨d,by simp,by simp[h]⟩
 | .fz d::as,ρ,0,s,h=>by simp[outs]at h;subst h;exact .inr ⟨by simp,λd z=>by cases z⟩
 | .ow d::as,ρ,0,s,h=>by simp[outs]at h;subst h;exact .inr ⟨by simp,λd z=>by cases z⟩
 | .io d::as,ρ,i+1,s,h=>by
  simp only[outs,O3]at h;rcases jK h with⟨d,c,a⟩|⟨c,a⟩
  .exact .inl ⟨d,by simpa using c,by cases ρ with|nil=>simp at a|cons x ρ=>simpa using a⟩
  .exact .inr ⟨by simpa using c,a⟩
 | .fz d::as,ρ,i+1,s,h=>by
  simp only[outs,O3]at h;rcases jK h with⟨d,c,a⟩|⟨c,a⟩
  .exact .inl ⟨d,by simpa using c,by cases ρ with|nil=>simp at a|cons x ρ=>simpa using a⟩
  .exact .inr ⟨by simpa using c,a⟩
 | .ow d::as,ρ,i+1,s,h=>by
  simp only[outs,O3]at h;rcases jK h with⟨d,c,a⟩|⟨c,a⟩
  .exact .inl ⟨d,by simpa using c,by cases ρ with|nil=>simp at a|cons x ρ=>simpa using a⟩
  .exact .inr ⟨by simpa using c,a⟩
theorem Sz:∀{args:List Sl}{ρ:Ev}{i:Nat}{d:D}{x:Yi Sl},args[i]?=O (.io d)->ρ[i]?=O x->(outs args ρ)[i]?=O x
 |[],_,_,_,_,h,_=>by simp at h
 |_::_,[],_,_,_,_,h=>by simp at h
 |s::as,y::ρ,0,d,x,h,h'=>by simp at h h';subst h h';simp[outs]
 |s::as,y::ρ,i+1,d,x,h,h'=>by have:=Sz (args:=as) (ρ:=ρ) (i:=i) (by simpa using h) (by simpa using h');cases s<;>simpa [outs]using this
theorem VF:∀(a:List Sl) (ρ:Ev),(outs a ρ).length=a.length
 |[],_=>rfl
 |s::as,ρ=>by cases s<;>simp[outs,VF as]
theorem Bv{a:List Sl}{i:Nat}{s:Sl}(h:(a.map O)[i]?=O (O s)):a[i]?=O s:=by
 rw[G1]at h;cases e:a[i]? with
 |none=>rw[e]at h;cases h
 |some x=>rw[e]at h;cases h;rfl
theorem tW{a:List Sl}{i:Nat}{s:Sl}(h:a[i]?=O s):(a.map O)[i]?=O (O s):=by rw[G1,h];rfl
theorem Rel.ret{C:List V}(hn:∀s∈k,∀d,s≠.ow d)(R:Rel K G F (C.map O) H (k.map O))(sb:Sub F F')(x:Rel K G F' σ' H' ρ'):Rel K G F' (C.map O) H' (outs k ρ'):=by
 have own:∀{i:Nat}{s:Sl},(outs k ρ')[i]?=O (O s)->uZ s=Ul->∃d a,k[i]?=O (.io d)/\ρ'[i]?=O (O s)/\G.io i=O a/\(C.map O)[i]?=O (O<|V.ref a)/\σ'[i]?=O (O<|V.ref a):=λ{i s} e w=>by
  rcases jK e with⟨d,m,c⟩|⟨m,c⟩
  .obtain⟨a,q⟩:=R.ioi i d<|tW m;obtain⟨_,_,l⟩:=R.io i a q;obtain⟨_,_,y⟩:=x.io i a q;exact⟨d,a,m,c,q,l,y⟩
  .cases s with
   |fz d=>cases w
   |ow d=>exact(hn _ (P2 m) d Z).elim
   |io d=>exact(c d Z).elim
 refine⟨by rw[VF];simpa using R.len,x.sub,x.sub0,x.fn,x.keep,x.tb,λi d e=>?_,λi s e w=>?_,λi d a e I=>?_,λi a e=>?_,λi d e=>?_,λi j s t a e1 L e2 M P Y=>?_⟩
 .rcases jK e with⟨B,m,c⟩|⟨m,c⟩
  .obtain⟨a,q⟩:=R.ioi i B<|tW m;obtain⟨d2,l,_⟩:=x.io i a q;rw[c]at l;cases l
  .obtain⟨v,q,l⟩:=R.fz i d<|tW m;exact⟨v,q,l.mono sb⟩
 .obtain⟨d,a,m,c,q,l,y⟩:=own e w;obtain⟨b,o,g1,g2⟩:=x.ow i s c w;rw[y]at g1;cases g1;exact⟨a,o,l,g2⟩
 .obtain⟨B,b,m,c,q,l,y⟩:=own e Z;rw[l]at I;cases I;exact x.new i d _ c y
 .obtain⟨d,m,c⟩:=R.io i a e;obtain⟨B,q,l⟩:=x.io i a e;exact⟨B,Sz (Bv m) q,c⟩
 .obtain⟨B,a,m,c,q,l,y⟩:=own e Z;exact⟨a,q⟩
 .obtain⟨_,a1,_,c,_,l,y⟩:=own e1 L;obtain⟨_,a2,_,g2,_,g4,g5⟩:=own e2 M;rw[l]at P;cases P;rw[g4]at Y;cases Y;exact x.ap i j s t a c L g2 M y g5
theorem Res.ret{k:List V}{r:Sl}(m:∀s∈c,∀d,s≠.ow d)(R:Rel K G F (k.map O) H (c.map O))(t:Rel K G F' σ' H' ρ')(q:Res K G F' H' σ' ρ' v r):Res K G F' H' (k.map O) (outs c ρ') v r:=by
 cases r with
 |fz d=>exact q
 |io d=>exact q.elim
 |ow d =>
  obtain⟨a,o,x,y,B,C,I,L⟩:=q;refine⟨a,o,x,y,B,C,I,λi s e w z=>?_⟩;rcases jK e with⟨M,j,g2⟩|⟨j,g2⟩
  .obtain⟨b,l⟩:=R.ioi i M<|tW j;obtain⟨_,_,P⟩:=R.io i b l;obtain⟨_,_,Y⟩:=t.io i b l;rw[P]at z;cases z;exact L i s g2 w Y
  .cases s with
   |fz d=>cases w
   |ow d=>exact(m _ (P2 j) d Z).elim
   |io d=>exact(g2 d Z).elim
noncomputable def AG(a:List Sl)(b:Sl->Ev->Prop):DE:={nx:=λρ=>b (.fz .none) (outs a ρ),rt:=λr ρ=>b r (outs a ρ),bk:=λ_=>Al,ct:=λ_=>Al}
theorem ZP{ts:gY}{Q:VK}{E:XK}(l:∀a b,qd a b->(∀s∈a,∀d,s≠.ow d)/\ts (AG a b) (eV N.length a))(h:tX K qd vs H Q E):EX K ts {nx:=λ_ H'=>Q .non H',rt:=Q} (L2.start N vs) H:=by
 obtain⟨G,F,a,b,R,w,k⟩:=h;obtain⟨e,w⟩:=l a b w;refine⟨G,F,_,_,R.start,w,λi H' F' j s c q=>?_,λv i H' F' r j s c m q=>?_,λ_ _ _ _ _ _ q=>q.elim,λ_ _ _ _ _ _ q=>q.elim⟩
 .exact k .non H' F' (.fz .none) _ s (R.ret e s c) Da.non q
 .exact k v H' F' r _ s (R.ret e s c) (m.ret e R c) q
end
section
variable {K:Fg}{F:Hp}{v:V}
theorem At.int(h:At K F H v (.int i)):v=.int i:=by
 rcases h with h|⟨a,o,rfl,_,_,h⟩
 .cases h;rfl
 .cases o<;>exact h.elim
theorem At.bool(h:At K F H v (.bool b)):v=.bl b:=by
 rcases h with h|⟨a,o,rfl,_,_,h⟩
 .cases h;rfl
 .cases o<;>exact h.elim
theorem At.str(h:At K F H v (.str x)):v=.str x:=by
 rcases h with h|⟨a,o,rfl,_,_,h⟩
 .cases h;rfl
 .cases o<;>exact h.elim
theorem At.none(h:At K F H v .none):v=.non:=by
 rcases h with h|⟨a,o,rfl,_,_,h⟩
 .cases h;rfl
 .cases o<;>exact h.elim
theorem At.list{b:List D}(s:Sub F H)(h:At K F H v (.list b)):∃a xs,v=.ref a/\H a=O (.lst xs)/\DaAll K F xs b:=by
 rcases h with h|⟨a,o,rfl,_,e,h⟩
 .cases h with
  |lst e t=>exact⟨_,_,Z,s _ _ e,t⟩
 .cases o<;>first|exact h.elim|exact⟨_,_,rfl,e,h⟩
theorem At.tuple{b:List D}(s:Sub F H)(h:At K F H v (.tuple b)):∃a xs,v=.ref a/\F a=O (.tup xs)/\H a=O (.tup xs)/\DaAll K F xs b:=by
 rcases h with h|⟨a,o,rfl,_,e,h⟩
 .cases h with
  |tup e t=>exact⟨_,_,Z,e,s _ _ e,t⟩
 .cases o<;>exact h.elim
theorem Tz(k:wZ):qW k≠.none:=by cases k<;>(intro z;cases z)
theorem Da.scr_inv(h:Da K F v d)(e:d=SK ns):∃a,v=.ref a/\SqL K F a (ns.map V.int):=by
 cases h with
 |non=>cases e
 |bl _=>cases e
 |int _=>cases e
 |str _=>cases e
 |lst _ _=>cases e
 |tup _ _=>cases e
 |dk _ t =>
  cases t with
  |nil=>injection e with e;cases e
  |cons _ _=>injection e with e;injection e with e _;injection e with e _;exact(Tz _ e).elim
 |dt _ t =>
  cases t with
  |nil=>injection e with e;cases e
  |cons _ _=>injection e with e;injection e with e _;injection e with e _;cases e
 |@scr _ i q =>
  injection e with e;injection e with e _;injection e with _ e;injection e with e2;have:∀(l m:Ql),l.map n0=m.map n0->l=m:=by
   intro l;induction l with
   |nil=>intro m e;cases m with|nil=>rfl|cons=>simp at e
   |cons a l c=>intro m e;cases m with|nil=>simp at e|cons b m=>simp at e;rw[e.1,c m e.2]
  rw[<-this _ _ e2];exact⟨_,Z,q⟩
 |_=>cases e
theorem At.scr(s:Sub F H)(h:At K F H v (SK ns)):∃a,v=.ref a/\SqL K H a (ns.map V.int):=by
 rcases h with h|⟨a,o,rfl,_,e,h⟩
 .obtain⟨a,c,d⟩:=h.scr_inv Z;exact⟨a,c,s.sql d⟩
 .exfalso;cases o<;>first|exact h.elim|skip
  .rename_i b;have h:DaKV K F b [(.none,.list<|ns.map n0)]:=h;generalize q:[(PyData.none,X3<|ns.map n0)]=es at h;cases h with
   |nil=>cases q
   |cons _ _=>injection q with q _;injection q with q _;exact Tz _ q.symm
  .rename_i b;have h:DaKT K F b [(.none,.list<|ns.map n0)]:=h;cases h
theorem AtAll.one(h:AtAll K F H vs [d]):∃v,vs=[v]/\At K F H v d:=by cases h with|cons a t=>cases t;exact⟨_,Z,a⟩
theorem AtAll.two(h:AtAll K F H vs [d,e]):∃v u,vs=[v,u]/\At K F H v d/\At K F H u e:=by cases h with|cons a t=>cases t with|cons b t=>cases t;exact⟨_,_,Z,a,b⟩
end
def VY(r:R2):List V->Hp->VK->Prop:=λa H Q=>∃x y,a=[x,y]/\r x y H Q
def q_(r:V->Hp->VK->Prop):List V->Hp->VK->Prop:=λa H Q=>∃x,a=[x]/\r x H Q
theorem uF{K:Fg}{r:R2}{f:D->D->(Sl->Prop)->Prop}(h:∀(G:Gh) (F:Hp) (σ:L2.St) (H:Hp) (b:Ev) (x y:V) (d e:D) (Q:VK) (c:Sl->Prop),Rel K G F σ H b->At K F H x d->At K F H y e->f d e c ->(∀v H' i s,Sub F i->Rel K G i σ H' b->Res K G i H' σ b v s->c s->Q v H')->r x y H Q):ZX K (VY r) (o2 f):=by
 intro G F σ H b q j Q c R a w k;match j,a,w with
 |[d,e],a,w=>obtain⟨v,u,rfl,l,m⟩:=a.two;exact⟨v,u,Z,h G F σ H b v u d e Q c R l m w k⟩
theorem BG{K:Fg}{r:List V->Hp->VK->Prop}{f:D->(Sl->Prop)->Prop}(h:∀(G:Gh) (F:Hp) (σ:L2.St) (H:Hp) (b:Ev) (x:V) (d:D) (Q:VK) (c:Sl->Prop),Rel K G F σ H b->At K F H x d->f d c ->(∀v H' e s,Sub F e->Rel K G e σ H' b->Res K G e H' σ b v s->c s->Q v H')->r [x] H Q):ZX K r (o1 f):=by
 intro G F σ H b l i Q c R a w k;match i,a,w with
 |[d],a,w=>obtain⟨v,rfl,j⟩:=a.one;exact h G F σ H b v d Q c R j w k
noncomputable def fI(C:Int->Int->Prop)(g:Int->Int->D):D->D->(Sl->Prop)->Prop
 | .int i,.int j,Q=>C i j/\Q (.fz<|g i j)
 |_,_,_=>Al
noncomputable def CB(g:Int->Int->D):D->D->(Sl->Prop)->Prop
 | .int i,.int j,Q=>Q<|.fz<|g i j
 |_,_,_=>Al
theorem YM{K:Fg}{g:Int->Int->V}(a:∀F i j,Da K F (g i j)<|b i j):ZX K (VY<|rI C g) (o2<|fI C b):=uF λG F σ H m x y d e Q q R c l w k=>by
 cases d<;>first|exact w.elim|skip
 cases e<;>first|exact w.elim|skip
 case int.int i j=>cases c.int;cases l.int;exact⟨i,j,Z,Z,w.1,k _ H F (.fz _) (Sub.refl _) R (a F i j) w.2⟩
theorem WF{K:Fg}{g:Int->Int->V}(a:∀F i j,Da K F (g i j)<|b i j):ZX K (VY<|EV g) (o2<|CB b):=uF λG F σ H m x y d e Q q R c l w k=>by
 cases d<;>first|exact w.elim|skip
 cases e<;>first|exact w.elim|skip
 case int.int i j=>cases c.int;cases l.int;exact⟨i,j,Z,Z,k _ H F (.fz _) (Sub.refl _) R (a F i j) w⟩
def rAny(r a:R2):R2:=λx y H Q=>r x y H Q\/a x y H Q
def Cv:R2:=λx y H Q=>∃(a b:Eb) (c ys:List V),x=.ref a/\y=.ref b/\H a=O (.tup c)/\H b=O (.tup ys)/\c.length+ys.length<=sizeLine /\
 (c=[]->Q (.ref b) H)/\(c≠[]->ys=[]->Q (.ref a) H)/\(c≠[]->ys≠[]->∀p,H p=U->Q (.ref p) (kZ H p<|.tup<|c++ys))
noncomputable def aR:D->D->(Sl->Prop)->Prop
 | .int i,.int j,Q=>Q<|.fz<|.int<|i+j
 | .tuple a,.tuple ys,Q=>a.length+ys.length<=sizeLine/\Q (.fz<|.tuple<|a++ys)
 | .list a,.list ys,Q=>a.length+ys.length<=sizeLine/\Q (.ow<|.list<|a++ys)
 |_,_,_=>Al
theorem DaAll.nil_of{K:Fg}(h:DaAll K F [] ds):ds=[]:=by cases h;rfl
theorem ZM{K:Fg}:ZX K (VY<|rAny (EV λi j=>.int<|i+j)<|rAny Cv wM) (o2 aR):=uF λG F σ H ρ x y d e Q Qd R q t w k=>by
 cases d<;>first|exact w.elim|(cases e<;>first|exact w.elim|skip)
 case int.int i j=>cases q.int;cases t.int;exact .inl ⟨i,j,Z,Z,k _ H F (.fz _) (Sub.refl _) R (Da.int _) w⟩
 case tuple.tuple L ys =>
  obtain⟨a,us,rfl,M,v,c⟩:=q.tuple R.sub;obtain⟨b,m,rfl,P,B,l⟩:=t.tuple R.sub;refine .inr<|.inl ⟨a,b,us,m,Z,Z,v,B,by rw[c.length,l.length];exact w.1,λz=>?_,λ_ z=>?_,λ_ _ p C=>?_⟩
  .subst z;have:=c.nil_of;subst this;exact k _ H F (.fz _) (Sub.refl _) R (Da.tup P l) w.2
  .subst z;have:=l.nil_of;subst this;refine k _ H F (.fz _) (Sub.refl _) R (Da.tup M c) ?_;have:=w.2;rw[B3]at this;exact this
  .obtain⟨Y,I,dd⟩:=R.newTup C<|c.append l;exact k _ _ _ (.fz _) Y I dd w.2
 case list.list L ys=>obtain⟨a,us,rfl,v,c⟩:=q.list R.sub;obtain⟨b,m,rfl,B,l⟩:=t.list R.sub;refine .inr<|.inr ⟨a,b,us,m,Z,Z,v,B,by rw[c.length,l.length];exact w.1,λp C=>?_⟩;obtain⟨I,r'⟩:=R.newOw (o:=.lst<|us++m) (d:=.list<|L++ys) C<|c.append l;exact k _ _ F _ (Sub.refl _) I r' w.2
noncomputable def bR:D->D->(Sl->Prop)->Prop
 | .int i,.int j,Q=>CMul i j/\Q (.fz<|.int<|i*j)
 | .list a,.int k,Q=>-(2 ^ 63)<=k/\k<2 ^ 63/\a.length*k.toNat<=sizeLine/\Q (.ow<|.list (O1 k.toNat a).flatten)
 |_,_,_=>Al
theorem aN{K:Fg}:ZX K (VY<|rAny (rI CMul λi j=>.int<|i*j) yM) (o2 bR):=uF λG F σ H C x y d e Q I R b c w k=>by
 cases d<;>first|exact w.elim|(cases e<;>first|exact w.elim|skip)
 case int.int i j=>cases b.int;cases c.int;exact .inl ⟨i,j,Z,Z,w.1,k _ H F (.fz _) (Sub.refl _) R (Da.int _) w.2⟩
 case list.int m j=>cases c.int;obtain⟨a,us,rfl,q,l⟩:=b.list R.sub;refine .inr ⟨a,j,us,Z,Z,q,w.1,w.2.1,by rw[l.length];exact w.2.2.1,λp t=>?_⟩;obtain⟨v,B⟩:=R.newOw (o:=.lst (O1 j.toNat us).flatten) (d:=.list (O1 j.toNat m).flatten) t<|l.rep _;exact k _ _ F _ (Sub.refl _) v B w.2.2.2
noncomputable def cR:D->(Sl->Prop)->Prop
 | .list a,Q=>Q<|.fz<|.int a.length
 | .tuple a,Q=>Q<|.fz<|.int a.length
 | .dict [(.none,.list a)],Q=>∃ns:Ql,a=ns.map n0/\Q (.fz<|.int ns.length)
 |_,_=>Al
theorem bN{K:Fg}:ZX K (JP K) (o1 cR):=BG λG F σ H l x d Q m R b w k=>by
 cases d<;>first|exact w.elim|skip
 case list i=>obtain⟨a,us,rfl,e1,d1⟩:=b.list R.sub;exact⟨a,us,Z,.inl<|SqL.of e1,k _ H F (.fz _) (Sub.refl _) R (Da.int _)<|by rw[d1.length];exact w⟩
 case tuple i=>obtain⟨a,us,rfl,_,e1,d1⟩:=b.tuple R.sub;exact⟨a,us,Z,.inr<|SqT.of e1,k _ H F (.fz _) (Sub.refl _) R (Da.int _)<|by rw[d1.length];exact w⟩
 case dict j =>
  rcases j with _|⟨⟨c,e⟩,_|⟨t,v⟩⟩
  .exact w.elim
  .cases c<;>first|exact w.elim|skip
   cases e<;>first|exact w.elim|skip
   obtain⟨ns,rfl,w⟩:=w;obtain⟨a,rfl,q⟩:=b.scr R.sub;exact⟨a,_,Z,.inl q,k _ H F (.fz _) (Sub.refl _) R (Da.int _)<|by rw[j0];exact w⟩
  .cases c<;>first|exact w.elim|(cases e<;>exact w.elim)
noncomputable def EA:D->D->(Sl->Prop)->Prop
 | .list a,.int i,Q=>∃d,kH a i=O d/\Q (.fz d)
 | .tuple a,.int i,Q=>∃d,kH a i=O d/\Q (.fz d)
 | .dict [(.none,.list a)],.int i,Q=>∃(ns:Ql) (n:Int),a=ns.map n0/\kH ns i=O n/\Q (.fz<|.int n)
 |_,_,_=>Al
theorem DaAll.at{K:Fg}(h:DaAll K F xs ds)(e:kH ds i=O d):∃v,kH xs i=O v/\Da K F v d:=by
 unfold kH at e ⊢;rw[h.length];cases q:Jw ds.length i with
 |none=>rw[q]at e;cases e
 |some j=>rw[q]at e;exact h.get e
theorem zC(f:α->β){l:List α}{i:Int}{x:α}(h:kH l i=O x):kH (l.map f) i=O (f x):=by
 unfold kH at h ⊢;rw[j0];cases q:Jw l.length i with
 |none=>rw[q]at h;cases h
 |some j=>rw[q]at h;simp at h ⊢;exact⟨x,h,Z⟩
theorem dR{K:Fg}:ZX K (VY<|rAny (ZB K)<|aC K) (o2 EA):=uF λG F σ H P x y d e Q Y R j l w k=>by
 cases d<;>first|exact w.elim|skip
 case list L =>
  cases e<;>first|exact w.elim|skip
  rename_i i;obtain⟨d,b,c⟩:=w;cases l.int;obtain⟨a,us,rfl,m,t⟩:=j.list R.sub;obtain⟨v,B,g2⟩:=t.at b;exact .inl ⟨a,us,i,v,Z,Z,SqL.of m,B,k _ H F (.fz _) (Sub.refl _) R g2 c⟩
 case tuple L =>
  cases e<;>first|exact w.elim|skip
  rename_i i;obtain⟨d,b,c⟩:=w;cases l.int;obtain⟨a,us,rfl,_,m,t⟩:=j.tuple R.sub;obtain⟨v,B,g2⟩:=t.at b;exact .inr ⟨a,us,i,v,Z,Z,SqT.of m,B,k _ H F (.fz _) (Sub.refl _) R g2 c⟩
 case dict M =>
  rcases M with _|⟨⟨C,I⟩,_|⟨c3,c4⟩⟩
  .exact w.elim
  .cases C<;>first|exact w.elim|skip
   cases I<;>first|exact w.elim|skip
   cases e<;>first|exact w.elim|skip
   rename_i i;obtain⟨ns,n,e,b,c⟩:=w;subst e;cases l.int;obtain⟨a,rfl,q⟩:=j.scr R.sub;exact .inl ⟨a,_,i,_,Z,Z,q,zC V.int b,k _ H F (.fz _) (Sub.refl _) R (Da.int _) c⟩
  .cases C<;>first|exact w.elim|(cases I<;>exact w.elim)
noncomputable def eR:D->(Sl->Prop)->Prop
 | .list a,Q=>Q<|.ow<|.list a
 | .tuple a,Q=>Q<|.ow<|.list a
 |_,_=>Al
theorem FY{K:Fg}:ZX K (Qz K) (o1 eR):=BG λG F σ H m x d Q q R l w k=>by
 cases d<;>first|exact w.elim|skip
 case list b=>obtain⟨a,us,rfl,c,d1⟩:=l.list R.sub;refine⟨a,us,Z,.inl<|SqL.of c,λp e=>?_⟩;obtain⟨i,j⟩:=R.newOw (o:=.lst us) (d:=.list b) e d1;exact k _ _ F _ (Sub.refl _) i j w
 case tuple b=>obtain⟨a,us,rfl,_,c,d1⟩:=l.tuple R.sub;refine⟨a,us,Z,.inr<|SqT.of c,λp e=>?_⟩;obtain⟨i,j⟩:=R.newOw (o:=.lst us) (d:=.list b) e d1;exact k _ _ F _ (Sub.refl _) i j w
noncomputable def Dv:D->(Sl->Prop)->Prop
 | .list a,Q=>Q<|.fz<|.tuple a
 | .tuple a,Q=>Q<|.fz<|.tuple a
 |_,_=>Al
theorem Fv{K:Fg}:ZX K (KF K) (o1 Dv):=BG λG F σ H m x d Q q R b w k=>by
 cases d<;>first|exact w.elim|skip
 case list c=>obtain⟨a,us,rfl,e1,d1⟩:=b.list R.sub;refine⟨a,us,Z,.inl ⟨SqL.of e1,λp e=>?_⟩⟩;obtain⟨i,j,l⟩:=R.newTup e d1;exact k _ _ _ (.fz _) i j l w
 case tuple c=>obtain⟨a,us,rfl,f1,e1,d1⟩:=b.tuple R.sub;exact⟨a,us,Z,.inr ⟨SqT.of e1,k _ H F (.fz _) (Sub.refl _) R (Da.tup f1 d1) w⟩⟩
noncomputable def FA:D->(Sl->Prop)->Prop
 | .list a,Q=>∃bs:List Bool,a=bs.map Y3/\Q (.fz<|.bool<|bs.all id)
 |_,_=>Al
theorem DaAll.bools{K:Fg}{bs:List Bool}(h:DaAll K F xs (bs.map Y3)):xs=bs.map V.bl:=by
 induction bs generalizing xs with
 |nil=>cases h;rfl
 |cons b bs a=>cases h with|cons h t=>cases h;rw[a t];rfl
theorem fV{K:Fg}:ZX K (HM K) (o1 FA):=BG λG F σ H j x d Q l R b w k=>by
 cases d<;>first|exact w.elim|skip
 rename_i m;obtain⟨bs,e,w⟩:=w;subst e;obtain⟨a,us,rfl,c,i⟩:=b.list R.sub;have:=i.bools;subst this;exact⟨a,bs,Z,SqL.of c,k _ H F (.fz _) (Sub.refl _) R (Da.bl _) w⟩
noncomputable def Ha:D->Ki
 | .none=>.non
 | .bool _=>.bl
 | .int _=>.int
 | .str _=>.str
 | .list _=>.lst
 | .tuple _=>.tup
 | .dict ((.none,_)::_)=>.lst
 | .dict _=>.dct
noncomputable def GA:D->(Sl->Prop)->Prop
 | .int i,Q=>Q<|.fz<|.int<|if i<0 then -i else i
 |_,_=>Al
theorem lq{K:Fg}:ZX K (λa H Q=>∃i,a=[V.int i]/\Q (V.int<|if i<0 then -i else i) H) (o1 GA):=BG λG F σ H c x d Q e R b w k=>by
 cases d<;>first|exact w.elim|skip
 rename_i i;cases b.int;exact⟨i,Z,k _ H F (.fz _) (Sub.refl _) R (Da.int _) w⟩
theorem JI{K:Fg}:ZX K (λb H Q=>∃i j,b=[V.int i,V.int j]/\Q (V.int<|g i j) H) (o2<|CB λi j=>.int<|g i j):=by
 intro G F σ H t x c Q l R a w k;match c,a,w with
 |[d,e],a,w =>
  obtain⟨v,u,rfl,m,q⟩:=a.two;have w:CB (λi j=>.int<|g i j) d e l:=w;unfold CB at w;split at w
  rotate_left
  .exact w.elim
  rename_i i j w;cases m.int;cases q.int;exact⟨i,j,Z,k _ H F (.fz _) (Sub.refl _) R (Da.int _) w⟩
noncomputable def fR:D->(Sl->Prop)->Prop
 | .int i,Q=>Q<|.fz<|.int<|-i
 |_,_=>Al
theorem cN{K:Fg}:ZX K (q_<|rU λi=>.int<|-i) (o1 fR):=BG λG F σ H b x d Q c R a w k=>by
 cases d<;>first|exact w.elim|skip
 rename_i i;cases a.int;exact⟨_,Z,i,Z,k _ H F (.fz _) (Sub.refl _) R (Da.int _) w⟩
def Ux(as:List AD)(f:List D->(Sl->Prop)->Prop):TD:=λc Q=>WZ as c λb a=>match yZ a b with
 |false=>rZ a b λd=>f d λr=>Q r a
 |true=>Al
def Gv(a:List D)(Q:Sl->Prop):Prop:=Q<|.fz<|.tuple a
def Hv(a:List D)(Q:Sl->Prop):Prop:=Q<|.ow<|.list a
theorem FX(h:n<=1000):n<=sizeLine:=q0 h (by decide)
theorem gR{K:Fg}(hl:as.length<=1000){σ:L2.St}{H:Hp}{Q:VK}(h:lift K (Ux as Gv) σ H Q):mM (MX<|as.map<|uX K) σ H Q:=by
 obtain⟨G,F,m,t,R,w,k⟩:=h;refine fY R w λv H' x y b c a o d q=>?_;split at q
 .rename_i e;obtain⟨B,da,q⟩:=GZ a e o q;refine⟨FX<|le_of_eq_of_le d hl,λp i=>?_⟩;obtain⟨j,R2,l⟩:=a.newTup i da;exact k _ _ _ (.fz _) _ (c.trans j) R2 l q
 .exact q.elim
theorem iR{K:Fg}(hl:as.length<=1000){σ:L2.St}{H:Hp}{Q:VK}(h:lift K (Ux as Hv) σ H Q):nM (MX<|as.map<|uX K) σ H Q:=by
 obtain⟨G,F,t,v,R,w,k⟩:=h;refine fY R w λb H' x y c i a o B q=>?_;split at q
 .rename_i e;obtain⟨j,da,q⟩:=GZ a e o q;refine⟨FX<|by lia,λp l=>?_⟩;obtain⟨R2,m⟩:=a.newOw (o:=.lst b) (d:=.list j) l da;exact k _ _ _ _ _ i R2 m q
 .exact q.elim
def mq(p q:Int->Int->Bool)(a b c:AD):TD:=λl Q=>WZ [a,b] l λm d=>rZ d m λt=>match t with
 | [.int i,.int j]=>if p i j=Ul then WZ [c] d λys e=>rZ e ys λv=>match v with
   |[.int k]=>Q (.fz<|.bool<|q j k) e
   |_=>Al
  else Q (.fz<|.bool Um) d
 |_=>Al
theorem AC{K:Fg}{p:Int->Int->Bool}{Q:VK}(h:lift K (mq p q a b c) σ H Q):WD (EV λi j=>.bl<|p i j) (EV λi j=>.bl<|q i j) (uX K a) (uX K b) (uX K c) σ H Q:=by
 obtain⟨G,F,ρ,Qd,R,w,k⟩:=h;have l:MX ([a,b].map (uX K)) σ H λm C=>∃x y,m=[x,y]/\(EV λi j=>V.bl<|p i j) x y C λz Y=>∃k,z=.bl k /\
   (if k=Ul then uX K c σ Y λB I=>(EV λi j=>V.bl<|q i j) y B I Q else Q (.bl Um) Y):=by
  refine LZ R w λm H' F' xs L sb M o d=>?_;obtain⟨ds,ha,d⟩:=AJ M o d;split at d
  .rename_i i j;obtain⟨v,u,rfl,h1,h2⟩:=ha.two;cases h1.int;cases h2.int;refine⟨_,_,Z,i,j,Z,Z,p i j,Z,?_⟩;by_cases e:p i j=Ul
   .rw[Ib e]at d ⊢;have:=LZ (as:=[c]) (Qv:=λm I=>∃B,m=[B]/\(EV λi j=>V.bl<|q i j) (V.int j) B I Q) M d λm C F2 ys P s2 R2 o2 t=>by
     obtain⟨es,hb,t⟩:=AJ R2 o2 t;split at t
     .rename_i k';obtain⟨v,rfl,h3⟩:=hb.one;cases h3.int;exact⟨_,Z,j,k',Z,Z,k _ C F2 (.fz _) P (sb.trans s2) R2 (Da.bl _) t⟩
     .exact t.elim
    exact MF this
   .rw[if_neg e]at d ⊢;exact k _ H' F' (.fz _) L sb M (Da.bl _) d
  .exact d.elim
 exact NF l
def PH(i:Nat)(as:List AD)(f:List D->List D->(D->D->Prop)->Prop):TD:=λb Q=>match b[i]? with
 |some (O c)=>match c.d,uZ c with
  | .list _,Ul=>WZ as b λe a=>match a[i]?,yZ a e with
   |some (O s),Um=>match s.d,uZ s with
    | .list j,Ul=>rZ a e λk=>f j k λl r=>Q (.fz r)<|a.set i<|O<|s.put l
    |_,_=>Al
   |_,_=>Al
  |_,_=>Al
 |_=>Al
def KI(K:Fg)(r:V->List V->Hp->VK->Prop)(f:List D->List D->(D->D->Prop)->Prop):Prop :=
 ∀(F H:Hp) (a:Eb) (c:List V) (d:List D) (e:List V) (i:List D) (Q:VK) (k:D->D->Prop),Sub F H->H a=O (.lst c)->DaAll K F c d->DaAll K F e i->f d i k ->
  (∀v j l b,Own1 K F j l->Da K F v b->k l b->Q v (kZ H a j))->r (.ref a) e H Q
theorem Iv{K:Fg}{f:List D->List D->(D->D->Prop)->Prop}(ok:KI K r f){σ:L2.St}{H:Hp}{Q:VK}(h:lift K (PH i as f) σ H Q):∃a d,σ[i]?=O (O<|V.ref a)/\SqL K H a d/\MX (as.map<|uX K) σ H λl M=>r (.ref a) l M Q:=by
 obtain⟨G,F,ρ,Qd,R,w,k⟩:=h;unfold PH at w;split at w
 .rename_i P e0;split at w
  .rename_i Y p1 p2;obtain⟨a,o,m,g2,g3,B⟩:=R.ow i P e0 p2;have q:∃d,H a=O (.lst d):=by
    rw[p1]at B;cases o<;>first|exact B.elim|exact⟨_,g3⟩
   obtain⟨t,q⟩:=q;refine⟨a,t,m,SqL.of q,LZ R w λl H1 x d ρ1 s1 j o1 b=>?_⟩;split at b
   .rename_i s e en;split at b
    .rename_i C q1 I;obtain⟨ds,da,b⟩:=GZ j en o1 b;obtain⟨a',o',L,h2,h3,c⟩:=j.ow i s e I;rw[m]at L;cases L;rw[q1]at c;have hl:∃us,o'=.lst us/\DaAll K x us C:=by cases o'<;>first|exact c.elim|exact⟨_,rfl,c⟩
     obtain⟨us,rfl,c⟩:=hl;refine ok x H1 a us C l ds Q _ j.sub h3 c da b λv o2 d2 y ho hv hk=>?_;have R2:=j.change (o':=o2) (d':=d2) e I m ho;exact k v _ x (.fz y) _ s1 R2 hv hk
    .exact b.elim
   .exact b.elim
  .exact w.elim
 .exact w.elim
noncomputable def BC:List D->List D->(D->D->Prop)->Prop
 |a,[x],k=>a.length<sizeLine/\k (.list<|a++[x]) .none
 |_,_,_=>Al
theorem CZ{K:Fg}:KI K Hz BC:=by
 intro F H a b d j l Q k s e c i w q;cases i with
 |nil=>exact w.elim
 |cons h t =>
  cases t with
  |nil=>exact⟨a,b,_,Z,Z,e,by rw[c.length];exact w.1,q _ (.lst<|b++[_]) (.list<|d++[_]) _ (c.append<|.cons h .nil) .non w.2⟩
  |cons _ _=>exact w.elim
noncomputable def CC:List D->List D->(D->D->Prop)->Prop
 |a,[.list ys],k=>a.length+ys.length<=sizeLine/\k (.list<|a++ys) .none
 |_,_,_=>Al
theorem GY{K:Fg}:KI K Iz CC:=by
 intro F H a b i m v Q k s e c j w q;cases j with
 |nil=>exact w.elim
 |cons h t =>
  rename_i d _;cases t with
  |cons _ _=>cases d<;>exact w.elim
  |nil =>
   cases d<;>first|exact w.elim|skip
   cases h with
   |lst l t=>exact⟨a,_,b,_,Z,Z,e,s _ _ l,by rw[c.length,t.length];exact w.1,q _ (.lst<|b++_) (.list<|i++_) _ (c.append t) .non w.2⟩
noncomputable def HA:List D->List D->(D->D->Prop)->Prop
 |a,[],k=>∃d,a[a.length-1]?=O d/\k (.list a.dropLast) d
 |_,_,_=>Al
theorem Jv{K:Fg}:KI K xP HA:=by
 intro F H a c i B j Q k s e b l w q;match j,l,w with
 |[],.nil,⟨d,m,t⟩=>obtain⟨v,x,y⟩:=b.get m;exact⟨a,c,v,Z,Z,e,by rw[b.length];exact x,q v (.lst c.dropLast) (.list i.dropLast) d b.dropLast y t⟩
noncomputable def uT:List D->List D->(D->D->Prop)->Prop
 |a,[.int i,x],k=>a.length<sizeLine/\0<=i/\i<=a.length/\k (.list (a.take i.toNat++x::a.drop i.toNat)) .none
 |_,_,_=>Al
noncomputable def nq(j:Nat)(e:AD)(i:TD):gY:=λE l=>i l λr b=>match b[j]? with
 |some (O _)=>WZ [e] b λm a=>rZ a m λq=>match q,a[j]? with
  |[.int k],O (O s)=>match s.d,uZ s with
   | .list c,Ul=>∃n,Jw c.length k=O n/\E.nx (a.set j<|O<|s.put<|.list<|c.set n r.d)
   |_,_=>Al
  |_,_=>Al
 |_=>Al
theorem DC{K:Fg}{E:Ends}(h:EX K (nq j ai te) E σ H):RW (lift K te) (bM (XY j) (uX K ai) KH) E σ H:=by
 obtain⟨G,F,ρ,D,R,w,n,r,b,c⟩:=h;refine⟨G,F,ρ,_,R,w,λv H1 F1 x ρ1 s1 R1 r1 t=>?_⟩;obtain⟨F2,s2,R2,d2⟩:=r1.frz R1;split at t
 .rename_i s0 e0;obtain⟨u,y⟩:=R2.bound e0;refine⟨u,y,MF (P:=λi H2=>KH u i v H2 λC=>E.nx σ C)<|LZ R2 t λvs C I xs ρ3 L B o3 l=>?_⟩;obtain⟨ds,ha,l⟩:=AJ B o3 l;split at l
  .rename_i k s e;obtain⟨iv,rfl,hi⟩:=ha.one;cases hi.int;split at l
   .rename_i M p1 Y;obtain⟨m,w4,w5⟩:=l;obtain⟨a,o,g1,g2,g3,q⟩:=B.ow j s e Y;rw[y]at g1;cases g1;rw[p1]at q;have hl:∃us,o=.lst us/\DaAll K I us M:=by cases o<;>first|exact q.elim|exact⟨_,rfl,q⟩
    obtain⟨us,rfl,q⟩:=hl;refine⟨_,Z,a,us,k,m,Z,Z,g3,by rw[q.length];exact w4,?_⟩;have R4:=B.change (o':=.lst<|us.set m v) (d':=.list<|M.set m x.d) e Y y<|q.set (d2.mono L) m;exact n σ _ I _ (s1.trans<|s2.trans L) R4 w5
   .exact l.elim
  .exact l.elim
 .exact t.elim
def jR(K:Fg)(d:TE):TI:=λσ H R=>d σ H λx b=>∃a,x=.ref a/\(((∃c,SqL K b a c)/\R (lA K a) b)\/((∃c,SqT K b a c)/\R (nA K a) b))
noncomputable def Kv(a:TD):RD:=λe Q=>a e λr b=>match r.d with
 | .list c=>Q c b
 | .tuple c=>Q c b
 |_=>Al
theorem oq{K:Fg}(e:F a=O (.lst xs))(h:DaAll K F xs ds):Walks K (lA K a) F ds:=λi H k b c=>by have q:=SqL.of (K:=K)<|c _ _<|b _ _ e;refine⟨λd l=>?_,λhl=>⟨xs,q,by rw[h.length];exact A1 hl⟩⟩;obtain⟨v,j,m⟩:=h.get l;refine⟨⟨xs,v,q,j⟩,λx H' ⟨t,w⟩=>?_⟩;subst t;have:=w xs q;rw[j]at this;cases this;exact⟨k,Sub.refl _,λ_ _ z=>.inl z,c,Sub.refl _,m.mono b⟩
theorem Vx{K:Fg}(e:F a=O (.tup xs))(h:DaAll K F xs ds):Walks K (nA K a) F ds:=λi H k b c=>by have q:=SqT.of (K:=K)<|c _ _<|b _ _ e;refine⟨λd l=>?_,λhl=>⟨xs,q,by rw[h.length];exact A1 hl⟩⟩;obtain⟨v,j,m⟩:=h.get l;refine⟨⟨xs,v,q,j⟩,λx H' ⟨t,w⟩=>?_⟩;subst t;have:=w xs q;rw[j]at this;cases this;exact⟨k,Sub.refl _,λ_ _ z=>.inl z,c,Sub.refl _,m.mono b⟩
theorem dN{K:Fg}(h:NZ K (Kv a) σ H R):jR K (lift K a) σ H R:=by
 obtain⟨G,F,y,L,B,w,k⟩:=h;refine⟨G,F,y,_,B,w,λv j M r b l C I c=>?_⟩;obtain⟨m,x,R2,d⟩:=I.frz C;split at c
 .rename_i i e;rw[e]at d;cases d with
  |lst q t=>exact⟨_,Z,.inl ⟨⟨_,SqL.of<|R2.sub _ _ q⟩,k _ j m i b (l.trans x) R2 (oq q t) c⟩⟩
 .rename_i i e;rw[e]at d;cases d with
  |tup q t=>exact⟨_,Z,.inr ⟨⟨_,SqT.of<|R2.sub _ _ q⟩,k _ j m i b (l.trans x) R2 (Vx q t) c⟩⟩
 .exact c.elim
noncomputable def SX(lo:Int)(n:Nat):List D:=(S2 n).map λ(i:Nat)=>n0<|lo+i
theorem XF{K:Fg}{lo:Int}:Walks K (lT lo n) F (SX lo n):=λi H b l c=>by
 have hl:(SX lo n).length=n:=by simp[SX]
 refine⟨λd a=>?_,λh=>by rw[hl]at h;exact A1 h⟩;have hi:i<n:=by have:=RZ a;rw[hl]at this;exact this
 have e:(SX lo n)[i]?=O (.int<|lo+i):=by simp[SX,hi]
 rw[e]at a;cases a;refine⟨hi,λx H' ⟨j,k⟩=>?_⟩;subst j k;exact⟨b,Sub.refl _,λ_ _ z=>.inl z,c,Sub.refl _,.int _⟩
noncomputable def rq(a:AD):RD:=λc Q=>WZ [a] c λd b=>rZ b d λe=>match e with
 |[.int j]=>-(2 ^ 62)<=j/\j<2 ^ 62/\Q (SX 0 j.toNat) b
 |_=>Al
theorem eN{K:Fg}(h:NZ K (rq a) σ H R):ww (MX<|[a].map (uX K)) σ H R:=by
 obtain⟨G,F,t,x,e,w,k⟩:=h;refine LZ e w λy H' i B c l d o b=>?_;obtain⟨C,m,b⟩:=AJ d o b;split at b
 .rename_i j;obtain⟨v,rfl,q⟩:=m.one;cases q.int;exact⟨j,Z,b.1,b.2.1,k _ H' i _ c l d XF b.2.2⟩
 .exact b.elim
def Ia(K:Fg)(F:Hp)(v:V)(c:List D):Prop:=∃k a b,v=.ref a/\(F a=O (match k with|Kd.l=>HO.lst b|Kd.t=>HO.tup b))/\DaAll K F b c
theorem QH{K:Fg}(e:H a=O (match k with|Kd.l=>HO.lst xs|Kd.t=>HO.tup xs)):Sq k K H a xs:=by
 cases k with
 |l=>exact SqL.of e
 |t=>exact SqT.of e
noncomputable def Lv:D->Yi (List D)
 | .list a=>O a
 | .tuple a=>O a
 |_=>U
theorem CG{K:Fg}(h:Da K F v d)(e:Lv d=O ds):∃k a b,v=.ref a/\(F a=O (match k with|Kd.l=>HO.lst b|Kd.t=>HO.tup b))/\DaAll K F b ds:=by
 cases h with
 |lst q t=>cases e;exact⟨.l,_,_,Z,q,t⟩
 |tup q t=>cases e;exact⟨.t,_,_,Z,q,t⟩
 |non=>cases e
 |bl=>cases e
 |int=>cases e
 |str=>cases e
 |dk _ _=>cases e
 |dt _ _=>cases e
 |scr _=>cases e
 |exc _=>cases e
 |opq _=>cases e
 |pd _ _=>cases e
 |bd _ _=>cases e
noncomputable def DG(ds a:List D):List D:=(ds.zip a).map λp=>J1 [p.1,p.2]
noncomputable def tq(a b:AD):RD:=λe Q=>WZ [a,b] e λd c=>match yZ c d with
 |false=>rZ c d λi=>match i with
  |[x,y]=>match Lv x,Lv y with
   |some us,O j=>Q (DG us j) c
   |_,_=>Al
  |_=>Al
 |true=>Al
theorem uq{K:Fg}(e1:F a=O (match k1 with|Kd.l=>HO.lst xs|Kd.t=>HO.tup xs))(M:DaAll K F xs ds)
  (e2:F b=O (match k2 with|Kd.l=>HO.lst ys|Kd.t=>HO.tup ys)) (P:DaAll K F ys es):Walks K (IM K k1 k2 a b) F (DG ds es):=λi H B j k=>by
 have C:Sq k1 K H a xs:=QH<|k _ _<|j _ _ e1;have G:Sq k2 K H b ys:=QH<|k _ _<|j _ _ e2;refine⟨λd R=>?_,λhl=>⟨xs,ys,C,G,?_⟩⟩
 .simp only[DG,G1,v6]at R;obtain⟨⟨x,y⟩,I,rfl⟩:=R;rw[S7]at I;obtain⟨v,Y,g2⟩:=M.get I.1;obtain⟨u,g3,g4⟩:=P.get I.2;refine⟨⟨xs,v,ys,u,C,G,Y,g3⟩,λz H' ⟨T,x1,x2,m,ex,eH,q,w⟩=>?_⟩;subst ex eH;have q:=q xs C;have w:=w ys G;rw[Y]at q;cases q;rw[g3]at w;cases w;have L:B T=none:=by
   cases z:B T with
   |none=>rfl
   |some o=>rw[k _ _ z]at m;cases m
  refine⟨kZ B T<|.tup [v,u],Sub.new L,λc o e=>?_,λc o e=>?_,Sub.new m,.tup OX<|.cons (g2.mono<|j.trans<|Sub.new L)<|.cons (g4.mono<|j.trans<|Sub.new L) .nil⟩
  .by_cases z:c=T
   .subst z;exact .inr m
   .rw[zX z]at e;exact .inl e
  .by_cases z:c=T
   .subst z;rw[OX]at e ⊢;exact e
   .rw[zX z]at e ⊢;exact k _ _ e
 .simp only[DG,j0,o6]at hl;rw[M.length,P.length]
  lia
theorem fN{K:Fg}(h:NZ K (tq a b) σ H R):Pz K (MX<|[a,b].map (uX K)) σ H R:=by
 obtain⟨G,F,ρ,Qd,m,w,k⟩:=h;refine LZ m w λvs H' q xs i v d o c=>?_;split at c
 .rename_i e;obtain⟨ds,da,c⟩:=GZ d e o c;split at c
  .rename_i x y;split at c
   .rename_i us ws B C;cases da with
    |cons I t =>
     cases t with
     |cons L t=>cases t;obtain⟨M,P,Y,rfl,j,g1⟩:=CG I B;obtain⟨k2,a2,qi,rfl,l,g2⟩:=CG L C;exact⟨M,P,Y,k2,a2,qi,Z,QH<|d.sub _ _ j,QH<|d.sub _ _ l,k _ H' q _ i v d (uq j g1 l g2) c⟩
   .exact c.elim
  .exact c.elim
 .exact c.elim
noncomputable def EG:D->Yi wZ
 | .int i=>O<|.inl i
 | .str x=>O<|.inr x
 |_=>U
theorem uW(k:wZ):EG (qW k)=O k:=by cases k<;>rfl
noncomputable def Uz(a:List (D×D))(k:wZ)(d:D):List (D×D):=if (a.any λe=>decide<|EG e.1=O k)=Ul then a.map (λe=>if EG e.1=O k then (e.1,d) else e) else a++[(qW k,d)]
section
variable {K:Fg}{F:Hp}
theorem DaKV.repl{k:wZ}{v:V}{d:D}(b:Da K F v d):∀{a:List (wZ×V)}{i:List (D×D)},DaKV K F a i->DaKV K F (a.map λc=>if c.1=k then (c.1,v) else c) (i.map λe=>if EG e.1=O k then (e.1,d) else e)
 |_,_,.nil=>.nil
 |_,_,.cons (k:=j) h t=>by
  simp only[E1,uW,Option.some.injEq];by_cases e:j=k
  .rw[Ib e,Ib e];exact .cons b<|DaKV.repl b t
  .rw[if_neg e,if_neg e];exact .cons h<|DaKV.repl b t
theorem DaKV.snoc{k:wZ}{v:V}{d:D}(b:Da K F v d):∀{a:List (wZ×V)}{c:List (D×D)},DaKV K F a c->DaKV K F (a++[(k,v)]) (c++[(qW k,d)])
 |_,_,.nil=>.cons b .nil
 |_,_,.cons h t=>.cons h<|DaKV.snoc b t
theorem DaKV.any(k:wZ):∀{a:List (wZ×V)}{b:List (D×D)},DaKV K F a b->(a.any λc=>decide<|c.1=k)=b.any λe=>decide<|EG e.1=O k
 |_,_,.nil=>rfl
 |_,_,.cons (k:=d) h t=>by simp only[i7,uW,Option.some.injEq];rw[DaKV.any k t]
theorem DaKV.put(h:DaKV K F kvs es)(a:Da K F v d):DaKV K F (UJ kvs k v) (Uz es k d):=by
 unfold UJ Uz;rw[h.any k];split
 .exact h.repl a
 .exact h.snoc a
theorem DaAll.keys:∀{a:List V}{ks:List wZ},DaAll K F a (ks.map qW)->a=ks.map kV
 |[],[],_=>rfl
 |x::a,k::ks,.cons h t=>by
  have e:x=kV k:=by cases k<;>(cases h;rfl)
  rw[e,DaAll.keys t];rfl
end
open L2
noncomputable def NX:Vb->Bool
 | .Starred _ _=>Um
 |_=>Ul
theorem DX(h:NX e=Ul):Pb (e::es) env=(Um,Wc e env)::Pb es env:=by cases e<;>first|rfl|cases h
theorem DZ:∀{a:Bl},a.all NX=Ul->(Sc pos<|Pb a env).any (·.1)=false:=by
 intro a;induction a with
 |nil=>intro _;rfl
 |cons e a b=>intro h;simp only[V9,X1]at h;rw[DX h.1];have:=b h.2;simp[Sc]at this ⊢;exact this
noncomputable def lY:Vb->Bool
 | .Set _ _ _=>Um
 |_=>Ul
theorem iV(h:lY e=Ul)(x:Bb):Ld e env x=pure x:=by cases e<;>first|rfl|cases h
noncomputable def HY:Vb->Bool
 | .ListComp _ _ _ _=>Um
 | .SetComp _ _ _ _=>Um
 | .DictComp _ _ _ _ _=>Um
 |_=>Ul
theorem vW(h:HY e=Ul):Ff e t n env=pure false:=by cases e<;>first|rfl|cases h
section
variable {K:Fg}
theorem OW{t':TE}(h:PE X e t)(m:∀{σ H Q},t' σ H Q->t σ H Q):PE X e t':=λgb s σ H Q I w=>h gb s σ H Q I<|m w
theorem IA{t':TT}(h:PT X e t)(m:∀{σ H Q},t' σ H Q->t σ H Q):PT X e t':=λgb s σ H Q I w=>h gb s σ H Q I<|m w
theorem r_{t':TT}(h:PW X e t)(m:∀{σ H Q},t' σ H Q->t σ H Q):PW X e t':=λa gb s σ H Q I w=>h a gb s σ H Q I<|m w
theorem Wx{t':TS}(h:PS X e t)(m:∀{D σ H},t' D σ H->t D σ H):PS X e t':=λgb s σ H D I w=>h gb s σ H D I<|m w
theorem kR{t':TS}(h:PSs X e t)(m:∀{D σ H},t' D σ H->t D σ H):PSs X e t':=λgb s σ H D I w=>h gb s σ H D I<|m w
theorem s_{t':TG}(h:PG X e t)(m:∀{v σ H Q},t' v σ H Q->t v σ H Q):PG X e t':=by
 unfold PG at h ⊢
 intros
 exact h _ _ _ _ _ _ _ (by assumption) (by assumption) (m<|by assumption)
theorem vT{g:Vb}{t':TI}(h:PI X g e t)(m:∀{σ H R},t' σ H R->t σ H R):PI X g e t':=λgb s σ H R I w=>h gb s σ H R I<|m w
theorem JA{t':TT}(h:Yw X es t)(m:∀{σ H Q},t' σ H Q->t σ H Q):Yw X es t':=λgb s σ H Q I w=>h gb s σ H Q I<|m w
theorem EC{e:Vb}{b:Bl}{a:AD}{as:List AD}(c:PE X e (uX K a))(d:PA X b (MX<|as.map<|uX K))(i:Pb (e::b) X.env=(Um,Wc e X.env)::Pb b X.env:=by exact DX Z):PA X (e::b) (MX<|(a::as).map<|uX K):=wK c d i
variable {e:Vb}{a b c:AD}{as:List AD}{td te:TD}{tc td':ZW}
theorem gN(h:PE X e (XY i)):PE X e (lift K<|oC i):=OW h NP
theorem FC(i:∀F,Da K F v d)(h:PE X e (tC v)):PE X e (lift K<|dC d):=OW h<|Ga i
theorem YO{r:R2}{f:D->D->(Sl->Prop)->Prop}(ok:ZX K (VY r) (o2 f))(h:PE X e (CI r (uX K a)<|uX K b)):PE X e (lift K<|TK [a,b]<|o2 f):=OW h λq=>NF<|bV ok q
theorem Ja{r:V->Hp->VK->Prop}{f:D->(Sl->Prop)->Prop}(ok:ZX K (q_ r) (o1 f))(h:PE X e (n_ r<|uX K a)):PE X e (lift K<|TK [a]<|o1 f):=OW h λq=>MF<|bV ok q
theorem t_{r:List V->Hp->VK->Prop}{f:List D->(Sl->Prop)->Prop}(ok:ZX K r f)(h:PE X e (rP r<|MX<|as.map<|uX K)):PE X e (lift K<|TK as f):=OW h λq=>bV ok q
theorem iN(hl:as.length<=1000)(h:PE X e (mM<|MX<|as.map<|uX K)):PE X e (lift K<|Ux as Gv):=OW h<|gR hl
theorem jN(hl:as.length<=1000)(h:PE X e (nM<|MX<|as.map<|uX K)):PE X e (lift K<|Ux as Hv):=OW h<|iR hl
theorem Mv{p:Int->Int->Bool}(h:PE X e (WD (EV λi j=>.bl<|p i j) (EV λi j=>.bl<|q i j) (uX K a) (uX K b)<|uX K c)):PE X e (lift K<|mq p q a b c):=OW h AC
theorem kN(h:PE X e (bw (lift K td)<|lift K te)):PE X e (lift K<|mv td te):=OW h OM
theorem lN(h:PE X e (cw<|lift K td)):PE X e (lift K<|nv td):=OW h PM
theorem lR{E:XK}(h:PE X e (EH (tX K qd) [] E<|MX<|as.map<|uX K)):PE X e (lift K<|zv qd as):=OW h XM
theorem mN{E:XK}(h:PE X e (EH (tX K qd) [] E<|MX<|(Sum.inl i::as).map<|uX K)):PE X e (lift K<|yG qd i as):=OW h yC
theorem KA{f:List D->List D->(D->D->Prop)->Prop}(ok:KI K r f)(h:PE X e (p_ K "list" r (XY i)<|MX<|as.map<|uX K)):PE X e (lift K<|PH i as f):=OW h λq=>by obtain⟨a,d,j,sq,w⟩:=Iv ok q;exact⟨_,j,.inl ⟨Z,d,sq⟩,w⟩
theorem mR{f:List D->List D->(D->D->Prop)->Prop}(ok:KI K r f)(h:PE X e (vP K "list" r<|XY i)):PE X e (lift K<|PH i [] f):=OW h λq=>by obtain⟨a,d,j,sq,w⟩:=Iv ok q;exact⟨_,j,.inl ⟨Z,d,sq⟩,w⟩
theorem u_{r:R2}{f:D->D->(Sl->Prop)->Prop}(ok:ZX K (VY r) (o2 f))(h:PT X e (Cw<|CI r (uX K a)<|uX K b)):PT X e (LX K<|OF<|TK [a,b]<|o2 f):=IA h λq=>HI (λz=>NF<|bV ok z) q
theorem nN(h:PT X e (tB<|lift K td)):PT X e (LX K<|OF td):=IA h λq=>HI (λz=>z) q
theorem oN(h:PT X e (PL<|LX K tc)):PT X e (LX K<|MM tc):=IA h OP
theorem pN(h:PW X e (OL (LX K tc)<|LX K td')):PW X e (LX K<|NM tc td'):=r_ h PP
theorem nR(h:PW X e (gA (LX K tc)<|LX K td')):PW X e (LX K<|zA tc td'):=r_ h AA
variable {st:Be}{sts:List Be}{t u:gY}
theorem GC(h:PSs X sts dw):PSs X sts (EX K qv):=kR h RM
theorem qN(h:PSs X sts (WL (EX K t)<|EX K u)):PSs X sts (EX K<|pC t u):=kR h RP
theorem rN(h:PS X st (iw<|lift K td)):PS X st (EX K<|qC td):=Wx h UP
theorem HC(h:PS X st (iw<|XY i)):PS X st (EX K<|QF i):=Wx h TM
theorem IC(h:PS X st (RW (XY j)<|YK i)):PS X st (EX K<|Rz i j):=Wx h UM
theorem JC(h:PS X st (gw<|lift K td)):PS X st (EX K<|sv td):=Wx h SM
theorem oR(h:PS X st (YL (LX K tc) (EX K t)<|EX K u)):PS X st (EX K<|QM tc t u):=Wx h VP
theorem sN(h:PS X st (RW (lift K td)<|YK i)):PS X st (EX K<|Kx i td):=Wx h II
theorem pR(h:PS X st (RW (lift K td)<|bM (XY j) (uX K a) KH)):PS X st (EX K<|nq j a td):=Wx h DC
theorem Nv(h:PS X st (SD (LX K tc)<|EX K t)):PS X st (EX K<|gq tc t):=Wx h rC
noncomputable def Pv(g:UK)(a:TD):gY:=λE j=>a j λr i=>g r.d i E.nx
theorem tN{g:UK}{E:Ends}(h:EX K (Pv g td) E σ H):RW (lift K td) (oZ K g) E σ H:=by obtain⟨G,F,m,D,R,w,n,r,b,c⟩:=h;refine⟨G,F,m,_,R,w,λv H' P x i s y B q=>?_⟩;obtain⟨l,C,R2,I⟩:=B.frz y;exact⟨G,l,i,x.d,_,R2,I,q,λj k L M=>n j H' l k (s.trans C) L M⟩
theorem KC{g:UK}(h:PS X st (RW (lift K td)<|oZ K g)):PS X st (EX K<|Pv g td):=Wx h tN
theorem LC(h:PG X e (YK i)):PG X e (oZ K<|Vk i):=s_ h CA
theorem uN{d:List UK}(h:PG X e (QB K n<|rH<|d.map<|oZ K))(i:d.length=n:=by rfl):PG X e (oZ K<|sT d):=s_ h<|DA i
theorem Rv{d:Bl}{g:UK}{i:List UK}(j:PG X e (oZ K g))(k:yI X d (rH<|i.map<|oZ K))(l:(Kc (e::d) X.env).map (·.2)=Wf e X.env::(Kc d X.env).map (·.2):=by rfl):yI X (e::d) (rH<|(g::i).map<|oZ K):=lw j k l
theorem MC:Yw X [] (LX K PF):=JA FM QP
theorem NC(y:X.K=K)(hl:PE X l tl):PI X tg l (jR K tl):=by
 subst y;intro gb s σ H R I h;refine xZ (hl gb s σ H _ I h) λv d ⟨x,w,i,B,j⟩=>?_;obtain⟨a,e,j⟩:=j;subst e;cases B;rcases j with⟨⟨C,k⟩,q⟩|⟨⟨C,k⟩,q⟩
 .obtain⟨its,F,p,G⟩:=i.list k;refine Oe p.isList ?_;refine⟨d.heap.objs.size,[d.heap.objs.size],_,_,w,Z,i.kept (t':=d.toks) λb o e=>g0 _ e,qx a _,⟨_,L0 _ Z,Z,Z⟩,λb m=>?_,q⟩;have e:b=d.heap.objs.size:=by simpa using m
  subst e;exact i.fpOk (A0 _)<|i.hok.fresh<|A0 _
 .obtain⟨its,F,p,G⟩:=i.tuple k;refine Ie (show d.heap.IsTuple a its.toArray from p) ?_;refine⟨d.heap.objs.size,[d.heap.objs.size],_,_,w,Z,i.kept (t':=d.toks) λb o e=>g0 _ e,UD a _,⟨_,L0 _ Z,Z,Z⟩,λb m=>?_,q⟩;have e:b=d.heap.objs.size:=by simpa using m
  subst e;exact i.fpOk (A0 _)<|i.hok.fresh<|A0 _
theorem vN(d:X.K=K)(hl:PE X l (lift K td)):PI X tg l (NZ K<|Kv td):=vT (NC d hl) dN
theorem OC(h:PI X tg l (ww<|MX<|[a].map (uX K))):PI X tg l (NZ K<|rq a):=vT h eN
theorem PC(h:PI X tg l (Pz K<|MX<|[a,b].map (uX K))):PI X tg l (NZ K<|tq a b):=vT h fN
def qR(_ j:Int):Prop:=0<j
theorem op_catB:OpR X (Rc .Add) Cv:=by
 intro gb s σ H x y v u Q I k l h;obtain⟨a,b,j,ys,rfl,rfl,m,q,w,B,C,F⟩:=h;have d:SqT X.K H a j:=SqT.of m;have i:SqT X.K H b ys:=SqT.of q;by_cases hx:j=[]
 .subst hx;cases k;cases l;obtain⟨its,G,L,_⟩:=I.tuple d;obtain⟨R,Y,M,_⟩:=I.tuple i;cases G;exact jv L M ⟨.ref b,H,I,Z,B Z⟩
 .exact YB gb s σ H (.ref a) (.ref b) v u Q I k l ⟨a,b,j,ys,Z,Z,d,i,hx,w,λe=>C hx e,λe p P=>F hx e p P⟩
theorem QC:OpR X (Rc .Add) (rAny (EV λi j=>.int<|i+j)<|rAny Cv wM):=op_add.or<|op_catB.or xM
theorem RC:OpR X (Rc .Mult) (rAny (rI CMul λi j=>.int<|i*j) yM):=op_mul.or zM
theorem wN:ZX K (VY<|EV λi j=>.int<|i-j) (o2<|CB λi j=>.int<|i-j):=WF λ_ _ _=>.int _
theorem DK:ZX K (VY<|rI iM λi j=>.int<|i / j) (o2<|fI iM λi j=>.int<|i / j):=YM λ_ _ _=>.int _
theorem cW:ZX K (VY<|rI (λ_ j=>0<j) λi j=>.int<|i % j) (o2<|fI qR λi j=>.int<|i % j):=YM (C:=qR) λ_ _ _=>.int _
theorem Sv:ZX K (VY<|rI jM λi j=>.int<|i ^ j.toNat) (o2<|fI jM λi j=>.int<|i ^ j.toNat):=YM λ_ _ _=>.int _
theorem tU:ZX K (VY<|EV λi j=>.bl<|decide<|i<j) (o2<|CB λi j=>.bool<|decide<|i<j):=WF λ_ _ _=>.bl _
theorem rR:ZX K (VY<|EV λi j=>.bl<|decide<|i<=j) (o2<|CB λi j=>.bool<|decide<|i<=j):=WF λ_ _ _=>.bl _
theorem YF:ZX K (VY<|EV λi j=>.bl<|decide<|j<i) (o2<|CB λi j=>.bool<|decide<|j<i):=WF λ_ _ _=>.bl _
theorem sR:ZX K (VY<|EV λi j=>.bl<|decide<|j<=i) (o2<|CB λi j=>.bool<|decide<|j<=i):=WF λ_ _ _=>.bl _
theorem SC(d:X.K=K):IxR X (rAny (ZB K)<|aC K):=(fv d).or<|kC d
end
mutual
noncomputable def TX:D->Bool
 | .none=>Ul
 | .bool _=>Ul
 | .int _=>Ul
 | .str _=>Ul
 | .list xs=>plainAll xs
 | .tuple xs=>plainAll xs
 | .dict _=>Um
noncomputable def plainAll:List D->Bool
 |[]=>Ul
 |x::a=>TX x&&plainAll a
end
section
variable {K:Fg}{F:Hp}
theorem Da.is(s:Sub F H){v:V}{d:D}(q:Da K F v d):TX d=Ul->Is K H v d:=by refine Da.rec (motive_1:=λv d _=>TX d=Ul->Is K H v d) (motive_2:=λv d _=>plainAll d=Ul->IsAll K H v d) (motive_3:=λ_ _ _=>True) (motive_4:=λ_ _ _=>True) (motive_5:=λ_ _ _=>True) (motive_6:=λ_ _ _=>True) (λ_=>.non) (λb _=>.bl b) (λi _=>.int i) (λx _=>.str x) (λe _ t z=>.lst (SqL.of<|s _ _ e)<|t z) (λe _ t z=>.tup (SqT.of<|s _ _ e)<|t z) (λ_ _ _ z=>nomatch z) (λ_ _ _ z=>nomatch z) (λ_ z=>nomatch z) (λ_ z=>nomatch z) (λ_ z=>nomatch z) (λ_ _ _ z=>nomatch z) (λ_ _ _ z=>nomatch z) (λ_=>.nil) (λ_ _ a t z=>.cons (a (F7.mp z).1)<|t (F7.mp z).2) ?_ ?_ ?_ ?_ ?_ ?_ ?_ ?_ q<;>intros<;>trivial
theorem DaAll.is(s:Sub F H){c:List V}{b:List D}(q:DaAll K F c b):plainAll b=Ul->IsAll K H c b:=by refine DaAll.rec (motive_1:=λ_ _ _=>True) (motive_2:=λv d _=>plainAll d=Ul->IsAll K H v d) (motive_3:=λ_ _ _=>True) (motive_4:=λ_ _ _=>True) (motive_5:=λ_ _ _=>True) (motive_6:=λ_ _ _=>True) ?_ ?_ ?_ ?_ ?_ ?_ ?_ ?_ ?_ ?_ ?_ ?_ ?_ (λ_=>.nil) (λa _ _ t z=>.cons (a.is s (F7.mp z).1)<|t (F7.mp z).2) ?_ ?_ ?_ ?_ ?_ ?_ ?_ ?_ q<;>intros<;>trivial
theorem At.is(s:Sub F H)(h:At K F H v d)(p:TX d=Ul):Is K H v d:=by
 rcases h with h|⟨a,o,rfl,_,e,h⟩
 .exact h.is s p
 .cases o<;>cases d<;>first|exact h.elim|(simp[TX]at p)|skip
  .rename_i b c;exact .lst (SqL.of e) (DaAll.is s h<|by simpa [TX]using p)
end
def TC(x y:D)(Q:Sl->Prop):Prop:=TX x=Ul/\TX y=Ul/\SeqAt.shaped x=Ul/\SeqAt.shaped y=Ul/\SeqAt.noMix x y=Ul/\Q (.fz<|.bool<|Kg x y)
def UC(x y:D)(Q:Sl->Prop):Prop:=TX x=Ul/\TX y=Ul/\SeqAt.shaped x=Ul/\SeqAt.shaped y=Ul/\SeqAt.noMix x y=Ul/\Q (.fz<|.bool<|!same x y)
noncomputable def LA:D->D->(Sl->Prop)->Prop
 | .int i,.int j,Q=>Q<|.fz<|.bool<|decide<|i=j
 | .list a,y,Q=>TC (.list a) y Q
 | .tuple a,y,Q=>TC (.tuple a) y Q
 | .str x,.str y,Q=>Q<|.fz<|.bool<|decide<|x=y
 |x,y,Q=>TC x y Q
noncomputable def MA:D->D->(Sl->Prop)->Prop
 | .int i,.int j,Q=>Q<|.fz<|.bool<|!Uo (i=j)
 | .list a,y,Q=>UC (.list a) y Q
 | .tuple a,y,Q=>UC (.tuple a) y Q
 | .str x,.str y,Q=>Q<|.fz<|.bool<|!Uo (x=y)
 |x,y,Q=>UC x y Q
theorem uU{K:Fg}:ZX K (VY<|rAny nT<|qH K Um) (o2 LA):=uF λG F σ H C x y d e Q l R b c w k=>by
 have a:TC d e l->rAny nT (qH K Um) x y H Q:=λ⟨m,q,t,v,B,w⟩=>.inr ⟨d,e,b.is R.sub m,c.is R.sub q,t,v,B,k _ H F (.fz _) (Sub.refl _) R (Da.bl _) w⟩;unfold LA at w;split at w
 .rename_i i j;cases b.int;cases c.int;refine .inl ⟨Z,k _ H F (.fz _) (Sub.refl _) R (Da.bl _) ?_⟩;have e:Uo (V.int i=V.int j)=Uo (i=j):=by rw[LV,o7]
  rw[e];exact w
 .exact a w
 .exact a w
 .rename_i i j;cases b.str;cases c.str;refine .inl ⟨Z,k _ H F (.fz _) (Sub.refl _) R (Da.bl _) ?_⟩;have e:Uo (V.str i=V.str j)=Uo (i=j):=by rw[MV,o7]
  rw[e];exact w
 .exact a w
theorem tR{K:Fg}:ZX K (VY<|rAny oT<|qH K Ul) (o2 MA):=uF λG F σ H C x y d e Q l R b c w k=>by
 have a:UC d e l->rAny oT (qH K Ul) x y H Q:=λ⟨m,q,t,v,B,w⟩=>.inr ⟨d,e,b.is R.sub m,c.is R.sub q,t,v,B,k _ H F (.fz _) (Sub.refl _) R (Da.bl _) w⟩;unfold MA at w;split at w
 .rename_i i j;cases b.int;cases c.int;refine .inl ⟨Z,k _ H F (.fz _) (Sub.refl _) R (Da.bl _) ?_⟩;have e:Uo (V.int i=V.int j)=Uo (i=j):=by rw[LV,o7]
  rw[e];exact w
 .exact a w
 .exact a w
 .rename_i i j;cases b.str;cases c.str;refine .inl ⟨Z,k _ H F (.fz _) (Sub.refl _) R (Da.bl _) ?_⟩;have e:Uo (V.str i=V.str j)=Uo (i=j):=by rw[MV,o7]
  rw[e];exact w
 .exact a w
theorem dW{K:Fg}(a:X.K=K)(b:X.A.units+64<Oc):OpR X (Bc .Eq) (rAny nT<|qH K Um):=op_eq.or<|lC a b
theorem xN{K:Fg}(a:X.K=K)(b:X.A.units+64<Oc):OpR X (Bc .NotEq) (rAny oT<|qH K Ul):=op_ne.or<|mC a b
section
variable {P:Cc}{w:Wb}{K:Fg}{mg:Str->Yi Bb}{base:Dc}
theorem Ka{st:Be}{ts:gY}(F:Fun K x qual st f fd)(S:FnScope N ps (sX st))(i:∀(c:Bb) (A:Ae) (outer:List Env) (s:Gb) (H:Hp) (E:XK),Room k (A.deeper<|Gf qual (sX st) s.heap.objs.size f c)->PSs (mG GJ P w K mg base N qual (sX st) f c A outer s H E).nox (jJ st) (EX K ts))(hl:∀a b,qd a b->a.length=ps.length) (j:∀a b,qd a b->(∀s∈a,∀d,s≠.ow d)/\ts (AG a b) (eV N.length a)):FnOk P w K mg base GJ (k+1) f fd ps (tX K qd):=by
 refine F.ok S (λl H Q E h=>?_)<|λc A outer s H l Q E m h=>⟨_,i c A outer s H E m,ZP j h⟩;obtain⟨G,v,a,b,R,q,_⟩:=h;have t:=hl a b q;have e:=R.len;rw[j0,j0]at e;rw[e,t]
end
noncomputable def uR:List Sl->Bool
 |[]=>Ul
 | .ow _::_=>Um
 |_::as=>uR as
theorem wW:∀{as:List Sl},uR as=Ul->∀s∈as,∀d,s≠.ow d
 | .fz _::as,h,s,a,d,z=>by
  rcases T0.mp a with e|e
  .subst e;cases z
  .exact wW (as:=as) h s e d z
 | .io _::as,h,s,a,d,z=>by
  rcases T0.mp a with e|e
  .subst e;cases z
  .exact wW (as:=as) h s e d z
def vR(K:Fg):List V->Hp->VK->Prop:=λb H Q=>∃(a:Eb) (ns:Ql),b=[.ref a]/\(SqL K H a (ns.map V.int)\/SqT K H a (ns.map V.int))/\Q (.int ns.sum) H
theorem Xx{K:Fg}(m:X.K=K)(t:X.calm=Ul):nZ X (.builtin "sum") (vR K):=by
 subst m;intro gb s σ H y us Q I r h;obtain⟨a,ns,rfl,c,q⟩:=h;obtain⟨u,rfl,v⟩:=iJ r;cases v;have l:=I.ok.hd t;rcases c with c|c
 .obtain⟨its,d,p,w⟩:=I.list c;have hi:Tc its ns:=lZ d;obtain⟨b,hx⟩:=hi.allInts.items;have e:s.heap.IsList a (Uc b):=hx ▸ p.isList;refine sum_intListG l e λh' x t' i=>?_;have j:ns=b.toList.map (·.1):=by
   rw[<-Zf,<-hx];exact(show numsOf its.toArray.toList=ns from hi.numsOf).symm
  have k:preSum (Cg b) b.size=ns.sum:=by rw[preSum_eq,Y1<|by simp,j]
  rw[k];exact⟨.int ns.sum,H,I.kept i,⟨t',Z⟩,q⟩
 .obtain⟨its,d,p,w⟩:=I.tuple c;have hi:Tc its ns:=lZ d;obtain⟨b,hx⟩:=hi.allInts.items;have e:s.heap.IsTuple a (Uc b):=hx ▸ p;refine PySem.W.ktm_sumG l e λh' x t' i=>?_;have j:ns=b.toList.map (·.1):=by
   rw[<-Zf,<-hx];exact(show numsOf its.toArray.toList=ns from hi.numsOf).symm
  have k:preSum (Cg b) b.size=ns.sum:=by rw[preSum_eq,Y1<|by simp,j]
  rw[k];exact⟨.int ns.sum,H,I.kept i,⟨t',Z⟩,q⟩
noncomputable def NA:D->(Sl->Prop)->Prop
 | .list a,Q=>∃ns:Ql,a=ns.map n0/\Q (.fz<|.int ns.sum)
 | .tuple a,Q=>∃ns:Ql,a=ns.map n0/\Q (.fz<|.int ns.sum)
 |_,_=>Al
theorem DaAll.intsV{K:Fg}{ns:Ql}(h:DaAll K F xs (ns.map n0)):xs=ns.map V.int:=by
 induction ns generalizing xs with
 |nil=>cases h;rfl
 |cons b bs a=>cases h with|cons h t=>cases h;rw[a t];rfl
theorem yN{K:Fg}:ZX K (vR K) (o1 NA):=BG λG F σ H l x d Q m R i w k=>by
 cases d<;>first|exact w.elim|skip
 case list j=>obtain⟨ns,e,w⟩:=w;subst e;obtain⟨a,us,rfl,b,c⟩:=i.list R.sub;have:=c.intsV;subst this;exact⟨a,ns,Z,.inl<|SqL.of b,k _ H F (.fz _) (Sub.refl _) R (Da.int _) w⟩
 case tuple j=>obtain⟨ns,e,w⟩:=w;subst e;obtain⟨a,us,rfl,_,b,c⟩:=i.tuple R.sub;have:=c.intsV;subst this;exact⟨a,ns,Z,.inr<|SqT.of b,k _ H F (.fz _) (Sub.refl _) R (Da.int _) w⟩
def VC(i j:Int):Prop:=-(2 ^ 62)<=i/\i<2 ^ 62/\-(2 ^ 62)<=j/\j<2 ^ 62
def WC:List V->Hp->VK->Prop:=λa H Q=>∃i j:Int,(a=[.int i,.int j]\/(a=[.int j]/\i=0))/\∀p,H p=U->Q (.ref p) (kZ H p<|.rng i j)
theorem Tv:nZ X (.type "range") WC:=by
 intro gb s σ H l us Q I r h;obtain⟨i,j,hx,q⟩:=h;have a:∀(t u v:Tok) (c:Nat),EP X gb σ Q (.ref s.heap.objs.size) {s with heap:=s.heap.push {cls:=.type "range",data:=.fields #[.int i t,.int j u,.int 1 v]},toks:=c}:=λt u v c=>⟨.ref s.heap.objs.size,_,I.laid (t':=c) (o:=.rng i j) (λb o e=>g0 _ e) (A0 _) ⟨t,u,v,L0 _ Z⟩,Z,q _<|I.hok.fresh<|A0 _⟩;rcases hx with rfl|⟨rfl,rfl⟩
 .obtain⟨u,w,rfl,d,k⟩:=NK r;obtain⟨t,rfl⟩:=d;obtain⟨t',rfl⟩:=k;exact call_range_2<|a _ _ _ _
 .obtain⟨u,rfl,d⟩:=iJ r;obtain⟨t,rfl⟩:=d;exact call_range_1<|a _ _ _ _
def PV:List V->Hp->VK->Prop:=λa H Q=>∃(p:Eb) (i j:Int),a=[.ref p]/\H p=O (.rng i j)/\VC i j/\(j-i).toNat<=2 ^ 24/\∀l,H l=U->Q (.ref l) (kZ H l<|.lst<|(S2 (j-i).toNat).map λ(n:Nat)=>V.int<|i+n)
theorem ZF(w:X.calm=Ul):nZ X (.type "list") PV:=by
 intro gb s σ H xs us Q I r h;obtain⟨p,i,j,rfl,x,⟨B,b2,C,F⟩,c,q⟩:=h;obtain⟨u,rfl,G⟩:=iJ r;cases G;obtain⟨t,u,v,e⟩:=I.hok p _ x;have L:kQ i j 1=((j-i).toNat:Int):=by rw[rangeSize_one];split<;>lia
 refine call_list_range (I.ok.hd w) e (small_one B b2 C F) L c λh' M a P R Y d=>?_;refine⟨.ref s.heap.objs.size,_,I.laid (t':=M) (o:=.lst<|(S2 (j-i).toNat).map λ(n:Nat)=>V.int<|i+n) R (A0 _) ?_,Z,q _<|I.hok.fresh<|A0 _⟩;refine⟨by rw[j0,e6];exact c,a.toList,P,?_,by simpa using Y⟩;have b:∀(n:Nat) (ys:Up),ys.length=n->(∀(k:Nat) (y:Bb),ys[k]?=O y->∃t,y=.int (i+k*1) t)->Vals ((S2 n).map λ(n:Nat)=>V.int<|i+n) ys:=by
  intro n;induction n with
  |zero=>intro ys hl _;cases ys with|nil=>exact .nil|cons=>simp at hl
  |succ n ih =>
   intro ys hl hy;rcases J8 ys with rfl|⟨l,z,rfl⟩
   .simp at hl
   .rw[List.concat_eq_append]at hl hy ⊢;have m:l.length=n:=by simpa using hl
    rw[List.range_succ,Q3];refine Vals.append (ih l m λk y e=>hy k y<|by rw[m3<|RZ e];exact e) ?_;obtain⟨t,rfl⟩:=hy n z (by rw[<-m];simp);exact .cons ⟨t,by simp⟩ .nil
 refine b _ _ (by rw[Z0];exact d.1) λk y e=>?_;exact d.2 k y (by simpa using e)
noncomputable def Za:D->D->(Sl->Prop)->Prop
 | .int i,.int j,Q=>VC i j/\(j-i).toNat<=2 ^ 24/\Q (.ow<|.list<|SX i (j-i).toNat)
 |_,_,_=>Al
section
variable {K:Fg}{e:Vb}{a b:AD}
end
noncomputable def vU(a:Ev):List (wZ×Sum Nat D)->(List (D×D)->Prop)->Prop
 |[],k=>k []
 |(c,.inr d)::r,k=>vU a r λb=>k ((qW c,d)::b)
 |(c,.inl i)::r,k=>match a[i]? with
  |some (O<|.fz d)=>vU a r λb=>k ((qW c,d)::b)
  |_=>Al
def LI(its:List (wZ×Sum Nat D)):TD:=λa Q=>vU a its λb=>Q (.ow<|.dict b) a
noncomputable def OA:Sum Nat D->TE
 | .inl i=>XY i
 | .inr (.int n)=>tC<|.int n
 | .inr _=>λ_ _ _=>Al
theorem FG{K:Fg}{G:Gh}{F t:Hp}{σ:L2.St}{x:Ev}(R:Rel K G F σ H x):∀{its:List (wZ×Sum Nat D)}{kk:List (D×D)->Prop}{b:List (V×V)->Hp->Prop},(∀p∈its,∀d,p.2=.inr d->∃n,d=.int n)->vU x its kk -> (∀a j,DaKV K F a j->a.map (·.1)=its.map (·.1)->kk j->b (a.map λy=>(kV y.1,y.2)) t)->uG (its.map λp=>(tC<|kV p.1,OA p.2)) σ t b
 |[],kk,b,_,w,k=>k [] [] .nil Z w
 |(c,.inr d)::r,kk,b,l,w,k=>by obtain⟨n,rfl⟩:=l (c,.inr d) u0 d Z;refine FG R (its:=r) (λp m=>l p<|i0 _ m) w λa j da e q=>?_;exact k ((c,.int n)::a) _ (.cons (.int n) da) (by simp[e]) q
 |(c,.inl i)::r,kk,b,l,w,k=>by
  unfold vU at w;split at w
  .rename_i d B;obtain⟨v,C,I⟩:=R.fz i d B;refine⟨v,C,FG R (its:=r) (λp m=>l p<|i0 _ m) w λa j da e q=>?_⟩;exact k ((c,v)::a) _ (.cons I da) (by simp[e]) q
  .exact w.elim
theorem xW:∀(b a:List (wZ×V)),((a++b).map (·.1)).Nodup->aY a b=a++b
 |[],a,_=>by simp[aY]
 |(c,v)::r,a,h=>by
  have d:tG a c=none:=by unfold tG;rw[List.find?_eq_none.mpr ?_];rfl;intro x hx;simp only[decide_eq_true_eq];intro z;simp only[Q3,E1,N6]at h;exact h.2.2 x.1 (u6 hx) c u0 z
  have e:UJ a c v=a++[(c,v)]:=Pw v d;show aY (UJ a c v) r=_;rw[e,xW r (a++[(c,v)])<|by simpa using h];simp
theorem XC{K:Fg}(its:List (wZ×Sum Nat D))(c:(its.map (·.1)).Nodup)(hl:its.length<=15)(i:∀p∈its,∀d,p.2=.inr d->∃n,d=.int n)(h:PE X e (Ww<|its.map λp=>(tC<|kV p.1,OA p.2))):PE X e (lift K<|LI its):=OW h λ{σ H Q} q=>by
 obtain⟨G,F,j,x,R,w,k⟩:=q;intro p l;refine FG R i w λa m da b q=>⟨OX,a,Z,?_,?_⟩
 .have:=Rb U4 b;simp at this;exact le_of_eq_of_le this hl
 .rw[xW a [] (by simpa [b]using c),FB];obtain⟨t,v⟩:=R.newOw (o:=.dK<|[]++a) (d:=.dict m) l (by rw[a9];exact da);exact k _ _ F _ j (Sub.refl _) t v q
noncomputable def clean1(a:Ev)(i:Nat):Ev:=match a[i]? with
 |some (O<|.io _)=>a
 |some _=>a.set i U
 |none=>a
noncomputable def clean(ks:Bm)(a:Ev):Ev:=match ks with
 |[]=>a
 |i::r=>clean r<|clean1 a i
section
variable {K:Fg}{G:Gh}{F:Hp}{σ:L2.St}{ρ:Ev}
theorem Rel.drop(R:Rel K G F σ H ρ){i:Nat}(m:∀d,ρ[i]?≠O (O<|Sl.io d)):Rel K G F σ H (ρ.set i U):=by
 refine⟨by rw[j5];exact R.len,R.sub,R.sub0,R.fn,R.keep,R.tb,λj d e=>?_,λj t e q=>?_,λj d b e v=>?_,λj b e=>?_,λj d e=>?_,λj k t u b a w c x y B=>?_⟩
 .rcases GX e with⟨rfl,z⟩|⟨n,z⟩
  .cases z
  .exact R.fz j d z
 .rcases GX e with⟨rfl,z⟩|⟨n,z⟩
  .cases z
  .exact R.ow j t z q
 .rcases GX e with⟨rfl,z⟩|⟨n,z⟩
  .cases z
  .exact R.new j d b z v
 .obtain⟨C,a,c⟩:=R.io j b e;have n:i≠j:=λz=>by subst z;exact m _ a
  exact⟨C,by rw[W1 n];exact a,c⟩
 .rcases GX e with⟨rfl,z⟩|⟨n,z⟩
  .cases z
  .exact R.ioi j d z
 .rcases GX a with⟨rfl,z⟩|⟨n,z⟩
  .cases z
  .rcases GX c with⟨rfl,l⟩|⟨I,l⟩
   .cases l
   .exact R.ap j k t u b z w l x y B
theorem Rel.clean1(R:Rel K G F σ H ρ)(i:Nat):Rel K G F σ H (clean1 ρ i):=by
 unfold L3.clean1;split
 .exact R
 .rename_i a b;exact R.drop λd z=>by rw[b]at z;cases z;exact a _ Z
 .exact R
theorem Rel.clean(ks:Bm):∀{ρ:Ev},Rel K G F σ H ρ->Rel K G F σ H (clean ks ρ):=by
 induction ks with
 |nil=>intro ρ R;exact R
 |cons i r a=>intro ρ R;exact a<|R.clean1 i
end
noncomputable def eW(ks:Bm)(g:UK)(b:gY)(E:DE):List D->Ev->Prop
 |[],c=>E.nx c
 |d::i,c=>g d c λe=>b {nx:=λa=>eW ks g b E i (clean ks a),rt:=E.rt,bk:=λa=>E.nx (clean ks a),ct:=λa=>eW ks g b E i<|clean ks a} e
noncomputable def aD(ks:Bm)(b:RD)(g:UK)(c:gY):gY:=λE d=>b d λe a=>eW ks g c E e<|clean ks a
theorem zN{K:Fg}{g:UK}{E:Ends}(h:EX K (aD ks ti g tb) E σ H):eM (NZ K ti) (oZ K g) (EX K tb) E σ H:=by
 obtain⟨G,F,ρ,D,R,w,n,r,b,c⟩:=h;refine⟨G,F,ρ,_,R,w,λJ H1 F1 t ρ1 s1 R1 wk w1=>?_⟩;refine⟨λi m σ H=>m=t.length-i/\i<=t.length/\∃M a,Sub F1 M/\Rel K G M σ H a/\eW ks g tb D (t.drop i) a,⟨t.length,Z,V2 _,F1,_,Sub.refl _,R1.clean ks,w1⟩,?_⟩;rintro i m σ H ⟨rfl,hi,M,a,s',R',w'⟩;obtain⟨hgo,yf⟩:=wk i H M s' R'.sub;cases e:t[i]? with
 |none=>have hl:t.length<=i:=M4.mp e;refine .inl ⟨yf<|by lia,?_⟩;rw[B4 hl]at w';exact n σ H M a (s1.trans s') R' w'
 |some d =>
  obtain⟨go,yl⟩:=hgo d e;have hl:=RZ e;rw[RF e]at w';refine .inr ⟨go,λP H2=>∃B k,Sub F1 B/\Rel K G B P H2 k/\eW ks g tb D (t.drop<|i+1) k,λP H2 ⟨B,k,z1,z2,z3⟩=>⟨t.length-(i+1),by lia,Z,hl,B,k,z1,z2,z3⟩,λx H2 y=>?_⟩;obtain⟨B,Y,t2,t3,t4,t5⟩:=yl x H2 y;have R2:=R'.turn Y t2 t3 t4;refine⟨G,B,a,d,_,R2,t5,w',λσ3 ρ3 R3 w3=>?_⟩;refine⟨G,B,ρ3,_,R3,w3,λj H4 C l I L q=>?_,λv j H4 C x4 l I L r4 q=>?_,λj H4 C l I L q=>?_,λj H4 C l I L q=>?_⟩
  .exact⟨C,_,s'.trans<|Y.trans I,L.clean ks,q⟩
  .exact r v j H4 C x4 l (s1.trans<|s'.trans<|Y.trans I) L r4 q
  .exact n j H4 C _ (s1.trans<|s'.trans<|Y.trans I) (L.clean ks) q
  .exact⟨C,_,s'.trans<|Y.trans I,L.clean ks,q⟩
theorem YC{K:Fg}{st:Be}(ks:Bm){a:RD}{g:UK}(h:PS X st (eM (NZ K a) (oZ K g)<|EX K t)):PS X st (EX K<|aD ks a g t):=Wx h zN
theorem XZ{ks:Bm}{g:UK}{i:gY}{E:DE}(J:List D->Ev->Prop)(j:∀d c b,J (d::c) b->∀N:Ev->Prop,(∀a,J c a->N a)->g d b λe=>i {nx:=λa=>N (clean ks a),rt:=E.rt,bk:=λa=>E.nx (clean ks a),ct:=λa=>N<|clean ks a} e)(hd:∀b,J [] b->E.nx b):∀{c:List D}{b:Ev},J c b->eW ks g i E c b
 |[],b,h=>hd b h
 |d::c,b,h=>j d c b h _ λa k=>XZ J j hd k
noncomputable def LJ(n:Nat)(g:UK)(e:ZW)(i:TD):List D->List D->Ev->(List D->Ev->Prop)->Prop
 |[],a,j,Q=>Q a j
 |d::m,a,j,Q=>g d j λk=>e k λb c=>if b=Ul then i c λr l=>LJ n g e i m (a++[r.d]) (clean (S2 n) l) Q else LJ n g e i m a (clean (S2 n) c) Q
def mY(c:RD)(own:Us)(fr:Bm)(g:UK)(d:ZW)(e:TD):TD:=λi Q=>c i λb a=>b.length<=sizeLine/\LJ own.length g d e b [] (nU own fr a) λys j=>Q (.ow<|.list ys)<|cV fr (j.drop own.length) 0 a
theorem Vz{K:Fg}{g:UK}(nd:fr.Nodup){σ:L2.St}{H:Hp}{Q:VK}(h:lift K (mY ti own fr g tc te) σ H Q):mU (NZ K ti) own fr (oZ K g) (LX K tc) (lift K te) σ H Q:=by
 obtain⟨G,F,ρ,Qd,R,w,k⟩:=h;refine⟨G,F,ρ,_,R,w,λJ H1 F1 q c s1 R1 wk ⟨hz,w1⟩=>?_⟩;have Ri:=R1.inner (own:=own) nd;refine⟨λi m ys B H=>m=q.length-i/\i<=q.length/\∃C j a,Rel K (BB own fr F1 H1 σ c) C B H j/\DaAll K C ys a/\a.length<=i/\LJ own.length g tc te (q.drop i) a j (λys B=>Qd (.ow<|.list ys)<|cV fr (B.drop own.length) 0 c),
   ⟨q.length,Z,V2 _,F1,_,[],Ri,.nil,V2 _,w1⟩,?_⟩;rintro i m ys B H' ⟨rfl,hi,C,j,a,I,da,hl,P⟩;obtain⟨hgo,yf⟩:=wk i H' C I.sub0 I.sub;cases e:q[i]? with
 |none=>have jg:q.length<=i:=M4.mp e;refine .inl ⟨yf<|by lia,λDd hD=>?_⟩;rw[B4 jg]at P;have Ro:=R1.outer I nd;obtain⟨Rn,rn⟩:=Ro.newOw (o:=.lst ys) (d:=.list a) hD da;exact k _ _ C _ _ (s1.trans I.sub0) Rn rn P
 |some d =>
  obtain⟨go,yl⟩:=hgo d e;have gc:=RZ e;rw[RF e]at P;refine .inr ⟨go,by rw[da.length];lia,λxg L Y=>∃t l M,Rel K (BB own fr F1 H1 σ c) t L Y l/\DaAll K t xg M/\M.length<=i+1/\LJ own.length g tc te (q.drop<|i+1) M l (λys B=>Qd (.ow<|.list ys)<|cV fr (B.drop own.length) 0 c),
    λxg L Y ⟨t,l,M,z1,z2,z3,z4⟩=>⟨q.length-(i+1),by lia,Z,gc,t,l,M,z1,z2,z3,z4⟩,λx Y y=>?_⟩;obtain⟨t,t1,t2,t3,t4,t5⟩:=yl x Y y;have R2:=I.turn t1 t2 t3 t4;refine⟨_,t,j,d,_,R2,t5,P,λτ3 ρ3 R3 w3=>?_⟩;refine⟨_,t,ρ3,_,R3,w3,λb H4 F4 ρ4 s4 R4 w4=>?_⟩;cases b with
  |false=>exact⟨F4,_,a,R4.clean _,da.mono<|t1.trans s4,by lia,w4⟩
  |true=>refine⟨_,F4,ρ4,_,R4,w4,λv H5 F5 r ρ5 s5 R5 r5 w5=>?_⟩;obtain⟨F6,s6,R6,d6⟩:=r5.frz R5;exact⟨F6,_,a++[r.d],R6.clean _,(da.mono<|t1.trans<|s4.trans<|s5.trans s6).append<|.cons d6 .nil,by simp;lia,w5⟩
section
variable {K:Fg}{e:Vb}{st:Be}{ti:RD}{own:Us}{g:UK}{tc:ZW}{te:TD}
theorem Uv(a:fr.Nodup)(h:PE X e (mU (NZ K ti) own fr (oZ K g) (LX K tc)<|lift K te)):PE X e (lift K<|mY ti own fr g tc te):=OW h<|Vz a
theorem Vv(a:fr.Nodup)(h:PS X st (RW (mU (NZ K ti) own fr (oZ K g) (LX K tc)<|lift K te)<|YK i)):PS X st (EX K<|Kx i<|mY ti own fr g tc te):=Wx h λq=>Vz a<|II q
end
theorem Wz{g:UK}{m:ZW}{q:TD}{Q:List D->Ev->Prop}(J:List D->List D->Ev->Prop)(t:∀d i a e,J (d::i) a e->∀N:List D->Ev->Prop,(∀j c,J i j c->N j c)->g d e λk=>m k λb c=>if b=Ul then q c λr l=>N (a++[r.d]) (clean (S2 n) l) else N a (clean (S2 n) c))(hd:∀a e,J [] a e->Q a e):∀{i a:List D}{e:Ev},J i a e->LJ n g m q i a e Q
 |[],a,e,h=>hd a e h
 |d::i,a,e,h=>t d i a e h _ λj c v=>Wz J t hd v
theorem Xz{g:UK}{Q:List D->Ev->Prop}(J:List D->List D->Ev->Prop)(v:∀d l a k,J (d::l) a k->∀N:List D->Ev->Prop,(∀t j,J l t j->N t j)->g d k λc=>m c λr i=>N (a++[r.d])<|clean (S2 n) i)(hd:∀a k,J [] a k->Q a k) {l a:List D}{k:Ev} (h:J l a k):LJ n g PF m l a k Q:=
 Wz J (λd l a k h N hN=>by
   have q:=v d l a k h N hN;have e:(λc=>m c λr i=>N (a++[r.d])<|clean (S2 n) i)=λc=>PF c λb j=>if b=Ul then m j (λr i=>N (a++[r.d])<|clean (S2 n) i) else N a (clean (S2 n) j):=by funext c;show _=(if Ul=Ul then m c (λr i=>N (a++[r.d])<|clean (S2 n) i) else N a (clean (S2 n) c));rw[Ib Z]
   rw[<-e];exact q) hd h
theorem EK{g:UK}{Q:List D->Ev->Prop}(f:D->D){i:Ev}{j:List D}(l:∀d∈j,∀N:D->Ev->Prop,N (f d) i->g d i λk=>te k λr a=>N r.d<|clean (S2 n) a)(hd:Q (j.map f) i):LJ n g PF te j [] i Q:=by
 refine Xz (λrest b c=>c=i/\∃pre,j=pre++rest/\b=pre.map f) ?_ ?_ ⟨Z,[],Z,Z⟩
 .rintro d m b c ⟨rfl,pre,e,rfl⟩ N hN;exact l d (by rw[e];simp) (λx a=>N (pre.map f++[x]) a)<|hN _ _ ⟨Z,pre++[d],by rw[e];simp,by simp⟩
 .rintro b c ⟨rfl,pre,e,rfl⟩;rw[B3]at e;subst e;exact hd
theorem wR{g:UK}{Q:List D->Ev->Prop}(p:D->Bool)(f:D->D){j:Ev}{l:List D}(t:∀d∈l,∀(N:D->Ev->Prop) (M:Ev->Prop),(p d=Ul->N (f d) j)->(p d=Um->M j)->g d j λm=>tc m λb k=>if b=Ul then te k λr a=>N r.d (clean (S2 n) a) else M (clean (S2 n) k))(hd:Q ((l.filter p).map f) j):LJ n g tc te l [] j Q:=by
 refine Wz (λrest c i=>i=j/\∃pre,l=pre++rest/\c=(pre.filter p).map f) ?_ ?_ ⟨Z,[],Z,Z⟩
 .rintro d v c i ⟨rfl,pre,e,rfl⟩ N hN;exact t d (by rw[e];simp) (λx a=>N ((pre.filter p).map f++[x]) a) (λa=>N ((pre.filter p).map f) a) (λq=>hN _ _ ⟨Z,pre++[d],by rw[e];simp,by simp[q]⟩)
   (λq=>hN _ _ ⟨Z,pre++[d],by rw[e];simp,by simp[q]⟩)
 .rintro c i ⟨rfl,pre,e,rfl⟩;rw[B3]at e;subst e;exact hd
def xR(K:Fg):List V->Hp->VK->Prop:=λa H Q=>∃(x:V) (d:Fb),a=[x]/\Is K H x d/\d.showable=Ul/\d.hasDict=Um/\d.depth+1<=64/\d.shown.length<=sizeLine/\Q (.str d.shown) H
theorem vq{K:Fg}(B:X.K=K)(c:Room k X.A):nZ X (.builtin "repr") (xR K):=by
 subst B;intro gb s σ H F us Q I r h;obtain⟨x,d,rfl,hd,j,m,v,hl,q⟩:=h;obtain⟨u,rfl,a⟩:=iJ r;obtain⟨as,w⟩:=hd.reads I a;have y:=c.units;cases hd with
 |non=>cases a;exact PySem.P.repr_of_none ⟨.str _,H,I.tok _,⟨_,Z⟩,q⟩
 |bl b=>cases a;exact PySem.P.repr_of_bool ⟨.str _,H,I.tok _,⟨_,Z⟩,by cases b<;>exact q⟩
 |int i=>obtain⟨t,rfl⟩:=a;exact PySem.P.repr_of_int (by simpa [t6]using j) ⟨.str _,H,I.tok _,⟨_,Z⟩,q⟩
 |str x=>obtain⟨t,rfl⟩:=a;exact PySem.P.repr_of_str ⟨.str _,H,I.tok _,⟨_,Z⟩,q⟩ hl
 |lst _ _=>cases a;exact Kf w j (λz=>by rw[m]at z;cases z) c.gd (R0 (Q0 v _) y) (λ_ _ e=>e) (λh' u C l=>⟨.str _,H,I.kept l,⟨u,Z⟩,q⟩) hl
 |tup _ _=>cases a;exact Kf w j (λz=>by rw[m]at z;cases z) c.gd (R0 (Q0 v _) y) (λ_ _ e=>e) (λh' u C l=>⟨.str _,H,I.kept l,⟨u,Z⟩,q⟩) hl
mutual
theorem yW:∀{d:D},TX d=Ul->d.hasDict=Um
 | .none,_=>rfl
 | .bool _,_=>rfl
 | .int _,_=>rfl
 | .str _,_=>rfl
 | .list xs,h=>by have:=plainAll_noDict (xs:=xs) (by simpa [TX]using h);simpa [PyData.hasDict]using this
 | .tuple xs,h=>by have:=plainAll_noDict (xs:=xs) (by simpa [TX]using h);simpa [PyData.hasDict]using this
 | .dict _,h=>by simp[TX]at h
theorem plainAll_noDict:∀{xs:List D},plainAll xs=Ul->kX xs=Um
 |[],_=>rfl
 |x::xs,h=>by simp[plainAll]at h;simp[kX,yW h.1,plainAll_noDict h.2]
end
structure WE(X:Cx)(e:Vb)(t:TE):Prop where
 h:PE X e t
structure WA(X:Cx)(es:Bl)(t:TA):Prop where
 h:PA X es t
structure WT(X:Cx)(e:Vb)(t:TT):Prop where
 h:PT X e t
structure WW(X:Cx)(e:Vb)(t:TT):Prop where
 h:PW X e t
structure WS(X:Cx)(s:Be)(t:TS):Prop where
 h:PS X s t
structure WSs(X:Cx)(s:List Be)(t:TS):Prop where
 h:PSs X s t
structure WG(X:Cx)(e:Vb)(t:TG):Prop where
 h:PG X e t
structure WGs(X:Cx)(es:Bl)(t:AB):Prop where
 h:yI X es t
structure WI(X:Cx)(g e:Vb)(t:TI):Prop where
 h:PI X g e t
structure WIf(X:Cx)(es:Bl)(t:TT):Prop where
 h:Yw X es t
section
variable {K:Fg}{e e1 e2 e3:Vb}{es:Bl}{a b c:AD}{as:List AD}{td te tf:TD}{tc tc':ZW}{st:Be}{sts:List Be}{t u:gY}{p pos p2 ae lc ve:Pos}{x:Str}
theorem wn(i:Nat)(hN:X.N[i]?=O x:=by rfl)(d:xI X.env.scope x:=by first|exact Or.inl rfl|exact Or.inr (Or.inl rfl)|exact Or.inr<|Or.inr rfl)(hd:(x==("__debug__":Str))=false:=by decide)
  (j:(x==("__classdict__":Str))=false:=by decide):WE X (.Name x pos) (uX K<|.inl i):=⟨aw hN d hd j⟩
theorem wv(i:Nat)(hN:X.N[i]?=O x:=by rfl)(d:xI X.env.scope x:=by first|exact Or.inl rfl|exact Or.inr (Or.inl rfl)|exact Or.inr<|Or.inr rfl)(hd:(x==("__debug__":Str))=false:=by decide)
  (j:(x==("__classdict__":Str))=false:=by decide):WE X (.Name x pos) (lift K<|oC i):=⟨gN<|aw hN d hd j⟩
theorem wx(h:WE X e (lift K td)):WE X e (uX K<|.inr td):=⟨h.h⟩
theorem HZ:WA X [] (MX<|([]:List AD).map<|uX K):=⟨aU⟩
theorem QV(d:WE X e (uX K a))(i:WA X es (MX<|as.map<|uX K))(j:NX e=true:=by rfl):WA X (e::es) (MX<|(a::as).map<|uX K):=⟨EC d.h i.h<|DX j⟩
theorem UX:WE X (.Constant (.int i) k pos) (lift K<|dC<|.int i):=⟨FC (λ_=>.int _) gJ⟩
theorem OY{b:Bool}:WE X (.Constant (.bool b) k pos) (lift K<|dC<|.bool b):=⟨FC (λ_=>.bl _) fP⟩
theorem wU:WE X (.Constant .none k pos) (lift K<|dC .none):=⟨FC (λ_=>.non) LL⟩
theorem MI{z:Str}:WE X (.Constant (.str z) k pos) (lift K<|dC<|.str z):=⟨FC (λ_=>.str _) ML⟩
theorem w_bin{r:R2}{f:D->D->(Sl->Prop)->Prop}(ok:ZX K (VY r) (o2 f))(d:OpR X (Rc op) r)(i:WE X e1 (uX K a))(j:WE X e2 (uX K b)):WE X (.BinOp e1 op e2 pos) (lift K<|TK [a,b]<|o2 f):=⟨YO ok<|lP d i.h j.h⟩
theorem Wv(d:WE X e1 (uX K a)):WE X (.UnaryOp .USub e1 pos) (lift K<|TK [a]<|o1 fR):=⟨Ja cN<|mP lM d.h⟩
theorem zW{d:CmpOp}{r:R2}{f:D->D->(Sl->Prop)->Prop}(ok:ZX K (VY r) (o2 f))(i:OpR X (Bc d) r)(j:WE X e1 (uX K a))(k:WE X e2 (uX K b))(l:d≠.In:=by decide)(m:d≠.NotIn:=by decide):WE X (.Compare e1 [d] [e2] pos) (lift K<|TK [a,b]<|o2 f):=⟨YO ok<|UB i j.h k.h<|Bw _ l m⟩
theorem ZC{d k:CmpOp}{p q:Int->Int->Bool}(l:OpR X (Bc d) (EV λi j=>.bl<|p i j))(m:OpR X (Bc k) (EV λi j=>.bl<|q i j))(v:WE X e1 (uX K a))(w:WE X e2 (uX K b))(y:WE X e3 (uX K c))
  (B:lastMarks [d,k] [e2,e3]=false:=by with_unfolding_all rfl):WE X (.Compare e1 [d,k] [e2,e3] pos) (lift K<|mq p q a b c):=⟨Mv<|Dw l m v.h w.h y.h B⟩
theorem Xv(h:WE X e tr):WE X (.BoolOp op [e] pos) tr:=⟨TL h.h⟩
theorem Yz{rest:Bl}(d:WE X e1 (lift K td))(i:WE X (.BoolOp .And (e2::rest) pos) (lift K te)):WE X (.BoolOp .And (e1::e2::rest) pos) (lift K<|mv td te):=⟨kN<|UL d.h i.h⟩
theorem w_not(d:WE X e1 (lift K td)):WE X (.UnaryOp .Not e1 pos) (lift K<|nv td):=⟨lN<|VL d.h⟩
theorem EZ{k:Nat}{i:Us}{d:Con}(C:Cal X.prog X.w X.K X.mg X.base k x i (tX K d))(j:Room k X.A)(l:WA X (e::es) (MX<|as.map<|uX K))(m:Gl X x:=by rfl)(q:(x==("__debug__":Str))=false:=by decide)
  (v:NX e=true:=by rfl) (y:es.all NX=true:=by rfl):WE X (.Call (.Name x p) (e::es) [] pos) (lift K<|zv d as):=⟨lR<|GI C j l.h m q (DX v)<|DZ y⟩
theorem XJ{k i:Nat}{j:Us}{d:Con}(C:Cal X.prog X.w X.K X.mg X.base k x j (tX K d))(l:Room k X.A)(m:WA X (e::es) (MX<|(Sum.inl i::as).map<|uX K))(q:Gl X x:=by rfl)(v:(x==("__debug__":Str))=false:=by decide)
  (y:NX e=true:=by rfl) (B:es.all NX=true:=by rfl):WE X (.Call (.Name x p) (e::es) [] pos) (lift K<|yG d i as):=⟨mN<|GI C l m.h q v (DX y)<|DZ B⟩
theorem eZ{id:String}{r:List V->Hp->VK->Prop}{f:List D->(Sl->Prop)->Prop}(ok:ZX K r f)(d:nZ X (.builtin id) r)(i:X.mg x=U)(j:Gc x=O (.builtin id))(k:WA X (e::es) (MX<|as.map<|uX K))(l:Gl X x:=by rfl)(m:x ≠ "__name__":=by decide)(q:(x==("__debug__":Str))=false:=by decide)
  (v:NX e=true:=by rfl) (w:es.all NX=true:=by rfl):WE X (.Call (.Name x p) (e::es) [] pos) (lift K<|TK as f):=⟨t_ ok<|bU d l i j k.h m q (DX v)<|DZ w⟩
theorem yJ{T:String}{r:List V->Hp->VK->Prop}{f:List D->(Sl->Prop)->Prop}(ok:ZX K r f)(d:nZ X (.type T) r)(i:X.mg x=U)(j:Gc x=O (.type T))(k:WA X (e::es) (MX<|as.map<|uX K))(l:Gl X x:=by rfl)(m:x ≠ "__name__":=by decide)(q:(x==("__debug__":Str))=false:=by decide)
  (v:NX e=true:=by rfl) (w:es.all NX=true:=by rfl):WE X (.Call (.Name x p) (e::es) [] pos) (lift K<|TK as f):=⟨t_ ok<|TW d l i j k.h m q (DX v)<|DZ w⟩
theorem QA(d:X.K=K)(i:WE X e1 (uX K a))(j:WE X e2 (uX K b))(k:nG e2:=by exact λ_ _=>rfl):WE X (.Subscript e1 e2 pos) (lift K<|TK [a,b]<|o2 EA):=⟨YO dR<|tP (SC d) i.h j.h k⟩
theorem vX{k:Nat}(h:WA X es (MX<|as.map<|uX K))(hl:as.length<=1000:=by decide):WE X (.Tuple es k pos) (lift K<|Ux as Gv):=⟨iN hl<|oM h.h⟩
theorem aZ(h:WA X es (MX<|as.map<|uX K))(hl:as.length<=1000:=by decide):WE X (.List es pos) (lift K<|Ux as Hv):=⟨jN hl<|pM h.h⟩
theorem Yv(its:List (wZ×Sum Nat D))(i:(its.map (·.1)).Nodup)(hl:its.length<=15)(j:∀p∈its,∀d,p.2=.inr d->∃n,d=.int n)(h:PE X e (Ww<|its.map λp=>(tC<|kV p.1,OA p.2))):WE X e (lift K<|LI its):=⟨XC its i hl j h⟩
theorem wq{own:Us}{d:RD}{g:UK}(i:X.calm=Ul)(S:ZY X.env.scope X.N fr sc=Ul)(hi:WI X tg cc (NZ K d))(j:∀C s H ex,WG (IX X own fr sc C s H ex) tg<|oZ K g)
  (k:∀C s H ex,WIf (IX X own fr sc C s H ex) ff<|LX K tc) (l:∀C s H ex,WE (IX X own fr sc C s H ex) we<|lift K te) (m:fr.Nodup:=by decide) (q:lY cc=true:=by rfl):WE X (.ListComp we [⟨tg,cc,ff,0⟩] sc pos) (lift K<|mY d own fr g tc te) :=
 ⟨Uv m<|cv i (OH S) hi.h (λC s H ex=>(j C s H ex).h) (λC s H ex=>(k C s H ex).h) (λC s H ex=>(l C s H ex).h)<|iV q⟩
theorem xq{id:String}{i:Nat}{f:List D->List D->(D->D->Prop)->Prop}(ok:KI K r f)(j:X.K=K)(d:Slot "list" name id)(k:Vh (.builtin id)=pure (.type "method_descriptor"))(l:qT X id r)(m:WE X (.Name x p) (uX K<|.inl i))(q:WA X (e::es) (MX<|as.map<|uX K))
  (v:Ee (.Name x p) name X.env (Wc (.Name x p) X.env)=Wc (.Name x p) X.env:=by rfl)
  (w:((Sc lc<|Pb (e::es) X.env).all (λx=>!x.1)&&(Xi lc<|Zg [] X.env).all (λx=>x.1.isSome)&&Uo ((e::es).length+([]:List Qf).length+(if ([]:List Qf).isEmpty then 0 else 1)<30))=true:=by rfl)
  (y:(ae.endLine==lc.line)=true:=by rfl) (B:NX e=true:=by rfl) (C:es.all NX=true:=by rfl):WE X (.Call (.Attribute (.Name x p) name ae) (e::es) [] lc) (lift K<|PH i as f):=by
 subst j;exact⟨KA ok<|wP PySem.F.plainAttrs_list d k l m.h q.h v w y (DX B)<|DZ C⟩
theorem yR{id:String}{i:Nat}{f:List D->List D->(D->D->Prop)->Prop}(ok:KI K r f)(j:X.K=K)(d:Slot "list" name id)(k:Vh (.builtin id)=pure (.type "method_descriptor"))(l:qT X id r)(m:WE X (.Name x p) (uX K<|.inl i))
  (q:Ee (.Name x p) name X.env (Wc (.Name x p) X.env)=Wc (.Name x p) X.env:=by rfl) (v:(ae.endLine==lc.line)=true:=by rfl):WE X (.Call (.Attribute (.Name x p) name ae) [] [] lc) (lift K<|PH i [] f):=by
 subst j;exact⟨mR ok<|vM PySem.F.plainAttrs_list d k l m.h q v⟩
theorem pJ{d:CmpOp}{r:R2}{f:D->D->(Sl->Prop)->Prop}(ok:ZX K (VY r) (o2 f))(i:OpR X (Bc d) r)(j:WE X e1 (uX K a))(k:WE X e2 (uX K b))(l:d≠.In:=by decide)(m:d≠.NotIn:=by decide):WT X (.Compare e1 [d] [e2] pos) (LX K<|OF<|TK [a,b]<|o2 f):=⟨u_ ok<|Bz i j.h k.h<|Bw _ l m⟩
theorem vV(h:WT X e (LX K tc)):WT X (.UnaryOp .Not e pos) (LX K<|MM tc):=⟨oN<|SL h.h⟩
theorem AN(h:WT X e (LX K tc)):WW X (.BoolOp .And [e] pos) (LX K tc):=⟨JB h.h⟩
theorem SH(h:WT X e (LX K tc)):WW X (.BoolOp .Or [e] pos) (LX K tc):=⟨QL h.h⟩
theorem zR{rest:Bl}(d:WT X e1 (LX K tc))(i:WW X (.BoolOp .And (e2::rest) pos) (LX K tc')):WW X (.BoolOp .And (e1::e2::rest) pos) (LX K<|NM tc tc'):=⟨pN<|RL d.h i.h⟩
theorem Yx{rest:Bl}(d:WT X e1 (LX K tc))(i:WW X (.BoolOp .Or (e2::rest) pos) (LX K tc')):WW X (.BoolOp .Or (e1::e2::rest) pos) (LX K<|zA tc tc'):=⟨nR<|gP d.h i.h⟩
theorem BN(h:WW X e tt):WT X e tt:=⟨h.h.pt⟩
theorem AW(h:WE X e (lift K td))(i:∀d,Ti e X.env d=(do let v<-d;standAt e.pos;Ud [v] (truthy v)):=by intro _;rfl):WT X e (LX K<|OF td):=⟨nN<|NL h.h i⟩
theorem CN{i:Nat}(hN:X.N.Nodup)(hi:X.N[i]?=O x)(hx:IB X.env.scope x)(d:X.fn x=Ul\/X.env.scope.names.lookup x=O .local:=by first|exact .inl rfl|exact .inr rfl|assumption):WG X (.Name x pos) (oZ K<|Vk i):=⟨LC<|OB hN hi hx d⟩
theorem mJ:WGs X [] (rH<|([]:List UK).map<|oZ K):=⟨PB⟩
theorem QX{g:UK}{d:List UK}(i:WG X e (oZ K g))(j:WGs X es (rH<|d.map<|oZ K))(k:(Kc (e::es) X.env).map (·.2)=Wf e X.env::(Kc es X.env).map (·.2):=by rfl):WGs X (e::es) (rH<|(g::d).map<|oZ K):=⟨Rv i.h j.h k⟩
theorem YJ{d:List UK}{k:Nat}(i:X.K=K)(j:X.calm=Ul)(l:WGs X es (rH<|d.map<|oZ K))(m:(Kc es X.env).length=d.length:=by rfl)(q:(Kc es X.env).findIdx? (·.1)=none:=by rfl):WG X (.Tuple es k pos) (oZ K<|sT d):=⟨uN (nC i j l.h m q) Z⟩
theorem wT:WIf X [] (LX K PF):=⟨MC⟩
theorem RA(h:WT X e (LX K tc)):WIf X [e] (LX K tc):=⟨GM h.h⟩
theorem hZ(d:X.K=K)(hl:WE X e (lift K td)):WI X tg e (NZ K<|Kv td):=⟨vN d hl.h⟩
theorem nY(d:X.mg "range"=U)(i:WA X [e1] (MX<|[a].map (uX K)))(j:Gl X "range":=by rfl)(k:NX e1=true:=by rfl):WI X tg (.Call (.Name "range" p) [e1] [] pos) (NZ K<|rq a):=⟨OC<|sx j d i.h<|by rw[DX k];rfl⟩
theorem xU{ts:Bl}(d:X.K=K)(i:X.mg "zip"=U)(j:WA X [e1,e2] (MX<|[a,b].map (uX K)))(k:Gl X "zip":=by rfl)(l:NX e1=true:=by rfl)(m:[e2].all NX=true:=by rfl):WI X (.Tuple ts kk ve) (.Call (.Name "zip" p) [e1,e2] [] pos) (NZ K<|tq a b):=⟨PC<|gv d k i j.h (DX l)<|DZ m⟩
theorem MZ:WSs X [] (EX K qv):=⟨GC LB⟩
theorem iZ(h:WS X st tr):WSs X [st] tr:=⟨MB h.h⟩
theorem qX(h:WS X st (EX K t))(d:WSs X sts (EX K u)):WSs X (st::sts) (EX K<|pC t u):=⟨qN<|fw h.h d.h⟩
theorem AR(h:WE X e (lift K td)):WS X (.Return (O e) pos) (EX K<|qC td):=⟨rN<|jw h.h⟩
theorem DN(h:WE X e (uX K<|.inl i)):WS X (.Return (O e) pos) (EX K<|QF i):=⟨HC<|jw h.h⟩
theorem ZZ(h:WE X e (lift K td))(d:HY e=true:=by rfl):WS X (.Expr e pos) (EX K<|sv td):=⟨JC<|NB h.h<|vW d⟩
theorem BJ(d:WT X e (LX K tc))(i:WSs X sa (EX K t))(j:WSs X sb (EX K u)):WS X (.If e sa sb pos) (EX K<|QM tc t u):=⟨oR<|iP d.h i.h j.h⟩
theorem BR{body:List Be}(ks:Bm){d:RD}{g:UK}(i:Hi (Kb X.prog X.w) X.A X.env X.xe)(j:X.calm=Ul)(hi:WI X tg cc (NZ K d))(k:WG X tg (oZ K g))(l:WSs X body (EX K t))(m:lY cc=true:=by rfl):WS X (.For tg cc body [] pos) (EX K<|aD ks d g t):=⟨YC ks<|fM i j hi.h k.h l.h<|iV m⟩
theorem Zz(d:Hi (Kb X.prog X.w) X.A X.env X.xe)(i:WT X e (LX K tc))(j:WSs X body (EX K t)):WS X (.While e body [] pos) (EX K<|gq tc t):=⟨Nv<|tw d i.h j.h⟩
theorem DR{i:Nat}(hN:X.N.Nodup)(hi:X.N[i]?=O x)(hx:IB X.env.scope x)(d:WE X e (lift K td))(j:HY e=true:=by rfl)(k:X.fn x=Ul\/X.env.scope.names.lookup x=O .local:=by first|exact .inl rfl|exact .inr rfl|assumption):WS X (.Assign [.Name x md] e pos) (EX K<|Kx i td):=⟨sN<|qw hN hi hx d.h (vW j) k⟩
theorem yq{i j:Nat}(hN:X.N.Nodup)(hi:X.N[i]?=O x)(hx:IB X.env.scope x)(d:WE X e (uX K<|.inl j))(k:HY e=true:=by rfl)(l:X.fn x=Ul\/X.env.scope.names.lookup x=O .local:=by first|exact .inl rfl|exact .inr rfl|assumption):WS X (.Assign [.Name x md] e pos) (EX K<|Rz i j):=⟨IC<|qw hN hi hx d.h (vW k) l⟩
theorem Zv{own:Us}{j:RD}{g:UK}{i:Nat}(hN:X.N.Nodup)(hy:X.N[i]?=O x)(hl:X.env.scope.names.lookup x=O .local)(k:X.calm=Ul)(S:ZY X.env.scope X.N fr sc=Ul)(hi:WI X tg cc (NZ K j))(l:∀C s H ex,WG (IX X own fr sc C s H ex) tg<|oZ K g)
  (m:∀C s H ex,WIf (IX X own fr sc C s H ex) ff<|LX K tc) (q:∀C s H ex,WE (IX X own fr sc C s H ex) we<|lift K te) (v:fr.Nodup:=by decide) (w:lY cc=true:=by rfl) (d:Ff (.ListComp we [⟨tg,cc,ff,0⟩] sc p) (O<|.Name x md) pos.line X.env=pure true:=by rfl) :
  WS X (.Assign [.Name x md] (.ListComp we [⟨tg,cc,ff,0⟩] sc p) pos) (EX K<|Kx i<|mY j own fr g tc te) :=
 ⟨Vv v<|IF hN hy hl k (OH S) hi.h (λC s H ex=>(l C s H ex).h) (λC s H ex=>(m C s H ex).h) (λC s H ex=>(q C s H ex).h) d<|iV w⟩
theorem EN{j:Nat}(d:WE X e (lift K td))(i:WE X e1 (uX K<|.inl j))(hi:WE X e2 (uX K a))(k:Qh [.Subscript e1 e2 md] e pos.line X.env=pure false:=by rfl)(hw:Rh [.Subscript e1 e2 md] e X.env=pure none:=by rfl)
  (l:∀v,Wf (.Subscript e1 e2 md) X.env v=(do
    let ov<-Ud [v] (Wc e1 X.env)
    let iv<-Ud [v,ov] (Wc e2 X.env)
    standAt md
    Ud [v,ov,iv] (Bi ov iv v)
    release [v,ov,iv] []):=by intro _;rfl) (m:(Kc [.Subscript e1 e2 md] X.env).map (·.2)=[Wf (.Subscript e1 e2 md) X.env]:=by rfl):WS X (.Assign [.Subscript e1 e2 md] e pos) (EX K<|nq j a td):=⟨pR<|mw d.h (cM i.h hi.h DF l) k hw m⟩
theorem yU{g:UK}(d:WE X e (lift K td))(i:WG X tg (oZ K g))(j:Qh [tg] e pos.line X.env=pure false:=by rfl)(hw:Rh [tg] e X.env=pure none:=by rfl)(k:(Kc [tg] X.env).map (·.2)=[Wf tg X.env]:=by rfl):WS X (.Assign [tg] e pos) (EX K<|Pv g td):=⟨KC<|mw d.h i.h j hw k⟩
end
section
variable {P:Cc}{w:Wb}{K:Fg}{mg:Str->Yi Bb}{base:Dc}
theorem SA{st:Be}{ts:gY}(F:Fun K x qual st f fd)(S:FnScope N ps (sX st))(e:∀(b:Bb) (A:Ae) (outer:List Env) (s:Gb) (H:Hp) (E:XK),Room k (A.deeper<|Gf qual (sX st) s.heap.objs.size f b)->WSs (mG GJ P w K mg base N qual (sX st) f b A outer s H E).nox (jJ st) (EX K ts))(hl:∀a c,qd a c->a.length=ps.length) (i:∀a c,qd a c->(∀s∈a,∀d,s≠.ow d)/\ts (AG a c) (eV N.length a)):FnOk P w K mg base GJ (k+1) f fd ps (tX K qd):=
 Ka F S (λb A outer s H E j=>(e b A outer s H E j).h) hl i
theorem PY{x:Str}{st:Be}{e:Us}{k:Nat}{i:Con}{ts:gY}(F:Fun K x qual st f fd)(S:FnScope N e (sX st))
  (m:∀(j:Bb) (A:Ae) (outer:List Env) (s:Gb) (H:Hp) (E:XK),Room k (A.deeper<|Gf qual (sX st) s.heap.objs.size f j)->WSs (mG GJ P w K mg base N qual (sX st) f j A outer s H E).nox (jJ st) (EX K ts))
  (t:∀b c,i b c->ts (AG b c) (eV N.length b)) (l:∀b c,i b c->b.length=e.length/\∀s∈b,∀d,s≠.ow d:=by intro a q h;repeat first|exact⟨rfl,wW rfl⟩|(obtain⟨rfl,_⟩:=h)|(obtain⟨_,h⟩:=h)):FnOk P w K mg base GJ (k+1) f fd e (tX K i):=SA F S m (λa q h=>(l a q h).1) λa q h=>⟨(l a q h).2,t a q h⟩
end
end L3
variable {ρ:L3.Ev}
namespace L2
theorem zU:Te (.type "list") "keys"=pure none:=by rw[He,Fd];kernel_rfl
theorem PX:plainId "dict.update.loop"=true:=by decide +kernel
theorem FZ:entryFor table "dict.update.loop"=O Builtin.«dict.update.loop»:=entryFor_of_tree (by kernel_rfl)
section
variable {w:Wb}
theorem Zx{Q:Yi Bb->Gb->Prop}(hx:s.heap.get? a=O o)(i:o.cls=.type "list")(j:o.data=.seq xs k)(hd:o.dict=U)(v:A.handled=U)(h:∀h' l,(∀b o,s.heap.get? b=O o->h'.get? b=O o)->Q U {s with heap:=h',toks:=l}):Hb (Kb prog w) A (Wg (.ref a) "keys") Q E s:=by
 obtain⟨c,dct,x,y⟩:=o;simp only at i j hd;subst i j hd;obtain⟨B,g,d,l,os⟩:=s;have m:∀q,(⟨B,g,d,q,os⟩:Gb).TypeIs (.ref a) "list":=λ_=>⟨_,hx,Z⟩;have C:=Nf;have G:=F.slot_list_getattribute.lookup;have I:=F.slot_list_getattribute.bind<|.ref a;have L:=am_list_getattr_none;unfold Wg getAttrBy? getAttrBy;repeat (any_goals (first|assumption|exact m _|((with_reducible show Hb _ _ (call (W9 "list.__getattribute__") _ _) _ _ _);refine Zc F.slot_list_getattribute (m _) am_entry_list_getattribute (F.args_list_getattribute_2 _ _) (meets_getattribute_miss_list a xs k y "keys" _ zU (by decide +kernel)<|by decide +kernel) ⟨hx,v,λh' q e t=>?_⟩)|wp_step))
 obtain⟨t',M,P⟩:=t.there;show Hb _ _ (Ed _ _ _ _ _ _ _) _ _ _;unfold Ed;repeat (any_goals (first|assumption|wp_step))
 exact h _ _ t.keeps
end
section
variable {w:Wb}{R:Ui->Gb->Prop}{I:Eb}{wr:List Eb}{P:Nat->Bb->Prop}{St:Nat->Dc->Prop}
theorem ay(W:Walks prog w A.in1 I fp wr n P St)(d:Eb)(yt:d∉fp)(J:Nat->Dc->Prop)(vd:∀i h h',J i h->(∀b o,b∉wr->h.get? b=O o->h'.get? b=O o)->J i h')(step:∀(i:Nat) (v:Bb) (s:Gb) (Q:Unit->Gb->Prop) (E:Bb->Gb->Prop),i<n->P i v->J i s.heap ->(∀h' c,J (i+1) h'->E3 d s.heap h'->Q () {s with heap:=h',toks:=c}) -> ∃p x y,v=.ref p/\s.heap.IsTuple p #[x,y]/\Hb (Kb prog w) A.in1 (Pf d x y) Q E s):∀(k i:Nat) (s:Gb) (L:Tok),n-i=k->i<=n->St i s.heap->J i s.heap -> (∀h' c,J n h'->(∀b o,b∉wr->b≠d->s.heap.get? b=O o->h'.get? b=O o)->R (.ok<|.ret .none) {s with heap:=h',toks:=c}) -> Ef (Kb prog w) A (.builtin "dict.update.loop" ⟨[.ref d,.ref I,.int i L,.none],[]⟩) R s:=by
 intro k;induction k with
 |zero=>intro i s L F hi M Y hR;have kf:i=n:=iT F hi;subst kf;refine Wd FZ ?_;rw[Around.under_plainId PX _];show Hb _ A.in1 (Md (.ref I) >>= _) _ _ s;refine Ab<|W.done s _ _ M λh' c t=>?_;show Hb _ _ (W7 d [] >>= _) _ _ _;exact Ab<|Db<|Db<|hR h' c (vd _ _ _ Y t) λb o a _ e=>t b o a e
 |succ k ih =>
  intro i s L F hi M Y hR;have gc:i<n:=K8 F;refine Wd FZ ?_;rw[Around.under_plainId PX _];show Hb _ A.in1 (Md (.ref I) >>= _) _ _ s;refine Ab<|W.item i s _ _ gc M λv h' c hP al t=>?_;have hJ':=vd _ _ _ Y t;obtain⟨p,x,y,rfl,⟨ob,ho,hc,m,hd⟩,hw⟩:=step i v {s with heap:=h',toks:=c} (λ_ xf=>∃l B,xf={s with heap:=l,toks:=B}/\J (i+1) l/\E3 d h' l) (λ_ _=>Al) gc hP hJ' λl B j G=>⟨l,B,Z,j,G⟩;show Hb _ A.in1 (Ud [.ref p] _ >>= _) _ _ _;refine Ab<|Xb ?_;refine Ab<|Dh ?_;unfold F8;refine Ab<|Jd (T:="tuple") ⟨_,ho,hc⟩ ?_;rw[Ib<|by decide];refine Ab<|Jc ho hd<|Db ?_;show Hb _ A.in1 (Ud [x,y]<|Pf d x y) _ _ _;refine Xb<|wpAny_mono hw (λ_ xf z=>?_) λ_ _ z=>z.elim;obtain⟨l,B,rfl,j,G⟩:=z;refine Db ⟨De PX _,?_⟩;exact ih (i+1) {s with heap:=l,toks:=B} 0 (aA F) gc (W.frame _ _ _ al λb hb o e=>(G.2 b λq=>yt<|q ▸ hb).trans e) j λh3 tk3 j3 k3=>hR h3 tk3 j3 λb o a C e=>k3 b o a C<|(G.2 b C).trans<|t b o a e
end
section
variable {w:Wb}
theorem OK(J:Nat->Dc->Prop)(hh:A.handled=U)(hx:s.heap.get? a=O o) (I:o.cls=.type "list") (Y:o.data=.seq L k) (hd:o.dict=U)(h0:∀h',(∀b c,s.heap.get? b=O c->h'.get? b=O c)->h'.get? s.heap.objs.size=O {cls:=.type "dict",data:=.dict #[]}->J 0 h')(vd:∀i h h',J i h->(∀b c,b<s.heap.objs.size+1->h.get? b=O c->h'.get? b=O c)->J i h')(step:∀(i:Nat) (v:Bb) (s':Gb) (M:Unit->Gb->Prop) (E':Bb->Gb->Prop),L[i]?=O v->J i s'.heap->(∀b c,s.heap.get? b=O c->s'.heap.get? b=O c) ->(∀h' m,J (i+1) h'->E3 s.heap.objs.size s'.heap h'->M () {s' with heap:=h',toks:=m}) -> ∃p x y,v=.ref p/\s'.heap.IsTuple p #[x,y]/\Hb (Kb prog w) A.in1.in1 (Pf s.heap.objs.size x y) M E' s')(h:∀h' m,J L.size h'->(∀b c,s.heap.get? b=O c->h'.get? b=O c)->Q (.ref s.heap.objs.size) {s with heap:=h',toks:=m}):Hb (Kb prog w) A (call (.type "dict") [.ref a]) Q E s:=by
 refine Fh (Q₁:=λobj d=>obj=.ref s.heap.objs.size/\d={s with heap:=s.heap.push {cls:=.type "dict",data:=.dict #[]}}) F.kt_called_dict (F.kt_typeCall_dict_1 _) F.entry_dict_init (Ig _ ⟨Z,Z⟩) ?_;rintro obj d ⟨rfl,rfl⟩;have P:(s.heap.push {cls:=.type "dict",data:=.dict #[]}).get? s.heap.objs.size=O {cls:=.type "dict",data:=.dict #[]}:=L0 _ Z;have t:∀b c,s.heap.get? b=O c->(s.heap.push {cls:=.type "dict",data:=.dict #[]}).get? b=O c:=λb c e=>g0 _ e;refine⟨⟨_,P,Z⟩,F.args_dict_init_2 _ _,?_⟩;unfold Builtin.«dict.__init__»;refine Ab ?_;unfold X7;refine Ab<|Pe ⟨_,P,Z⟩ ?_;show Hb _ _ (pure (s.heap.objs.size,[K4 a])) _ _ _;refine Db ?_;show Hb _ _ (E5 "dict.__init__" s.heap.objs.size (.ref a) [] .none) _ _ _;unfold E5;refine Ab<|Jd (T:="list") ⟨_,t _ _ hx,I⟩ ?_;rw[Ib<|by decide];refine Ab<|Zx (t _ _ hx) I Y hd hh λC tk1 B=>?_;simp only[B9,if_true];refine Ab<|Qc ?_;refine Ab<|Oe (s:={s with heap:=C,toks:=tk1}) ⟨_,B _ _<|t _ _ hx,I,k,Y⟩ ?_;have R:s.heap.objs.size<C.objs.size:=G0<|B _ _ P;have l:a<s.heap.objs.size:=G0 hx;have hnf:s.heap.objs.size∉[C.objs.size,a]:=λG=>by
  rcases T0.mp G with q|q
  .exact U0 R q
  .exact X2 l (Y0.mp q)
 refine Db ⟨De PX _,ay (Walks.list (A:=A.in1.in1) hh C.objs.size a (U0<|L7 l R) L) s.heap.objs.size hnf (λi h'=>J i h'/\∀b c,s.heap.get? b=O c->h'.get? b=O c) ?_ ?_ L.size 0 _ 0 Z (V2 _) ?_ ?_ ?_⟩
 .rintro i hp eh ⟨j,kk⟩ kp;refine⟨vd _ _ _ j λb c hb e=>kp b c (λG=>U0 (R0 (o4 hb) R)<|Y0.mp G) e,λb c e=>kp b c ?_<|kk b c e⟩;exact λG=>U0 (L7 (G0 e) R)<|Y0.mp G
 .rintro i v s' M E' hi hP ⟨j,kk⟩ hq;refine step i v s' M E' hP j kk λh' m j' sb=>hq h' m ⟨j',λb c e=>(sb.2 b ?_).trans<|kk b c e⟩ sb;exact U0<|G0 e
 .exact⟨⟨_,L0 _ Z,Z,Z⟩,⟨_,g0 _<|B _ _<|t _ _ hx,I,k,Y⟩⟩
 .exact⟨vd _ _ _ (h0 C (λb c e=>B b c<|t b c e)<|B _ _ P) λb c _ e=>g0 _ e,λb c e=>g0 _<|B b c<|t b c e⟩
 .rintro h' m ⟨j,kk⟩ _;exact⟨Z,h h' m j kk⟩
end
noncomputable def OZ{κ:Type}[DecidableEq κ](a:List (κ×V)):List (κ×V):=a.foldl (λm b=>UJ m b.1 b.2) []
theorem bD[DecidableEq κ](a:List (κ×V))(b:κ×V):OZ (a++[b])=UJ (OZ a) b.1 b.2:=by simp[OZ]
theorem wV[DecidableEq κ]{a:List (κ×V)}{b:κ×V}{i:Nat}(h:a[i]?=O b):OZ (a.take<|i+1)=UJ (OZ<|a.take i) b.1 b.2:=by rw[<-bD,O9,h];rfl
theorem FK[DecidableEq κ](a:List (κ×V)):(OZ a).length<=a.length:=by
 have b:∀(l m:List (κ×V)),(l.foldl (λm c=>UJ m c.1 c.2) m).length<=m.length+l.length:=by
  intro l;induction l with
  |nil=>intro m;simp
  |cons x l d =>
   intro m;have e:=d<|UJ m x.1 x.2;have i:=uV m x.1 x.2;simp only[Y7,U1]
   lia
 simpa [OZ]using b a []
theorem Vals.getV:∀{a:List V}{us:Up}{i:Nat}{u:Bb},Vals a us->us[i]?=O u->∃x,a[i]?=O x/\RelV x u
 |_,_,0,_,.cons r _,e=>⟨_,Z,by cases e;exact r⟩
 |_,_,i+1,_,.cons _ t,e=>Vals.getV (i:=i) t e
def NI(H:Hp)(y:V)(a:wZ×V):Prop:=∃q,y=.ref q/\H q=O (.tup [kV a.1,a.2])
def cy(K:B0):List V->Hp->VK->Prop:=λc H Q=>∃(p:Eb) (ys:List V) (a:List (wZ×V)),c=[.ref p]/\SqL K H p ys/\ys.length=a.length/\(∀(i:Nat) y,ys[i]?=O y->∃b,a[i]?=O b/\NI H y b) /\
 ∀l,H l=U->Q (.ref l) (kZ H l<|.dK<|OZ a)
theorem zq(R:X.calm=Ul):nZ X (.type "dict") (cy X.K):=by
 intro gb s σ H xs us Q I r h;obtain⟨p,ys,a,rfl,Y,hl,hp,q⟩:=h;obtain⟨u,rfl,rx⟩:=iJ r;cases rx;obtain⟨its,G,⟨o,n,e1,e2,e3,e4⟩,hz⟩:=I.list Y;have hb:(s.heap.objs.size==Ac)=false:=beq_eq_false_iff_ne.mpr<|U3<|U0 I.big;have hk:=FK a;have ub:=G.length;refine OK (λi h=>∃c,KV (OZ<|a.take i) c/\h.DictOf (jZ X.prog X.w) s.heap.objs.size c) (I.ok.hd R) e1 e2 e4 e3 ?_ ?_ ?_ ?_
 .intro h' _ e;obtain⟨L,j,k,d,rest⟩:=uQ (knd:=jZ X.prog X.w) s.heap;rw[L0 _ Z]at d;cases d;exact⟨[],.nil,_,j,k,e,rest⟩
 .rintro i M P ⟨c,b,L,j,k,d,rest⟩ kp;exact⟨c,b,L,j,k,kp _ _ (Z3 _) d,rest⟩
 .rintro i v s' Q' E' hv ⟨c,b,l⟩ kk fi;obtain⟨y,ey,ry⟩:=G.getV (by simpa using hv);obtain⟨t,x,B,rfl,eq⟩:=hp i y ey;cases ry;obtain⟨_,be,r2,ob,M,P,m,h3,_⟩:=(show ObjOk X.prog X.w H s.heap B (.tup [kV t.1,t.2]) from I.hok B _ eq);obtain⟨u1,u2,rfl,C,F⟩:=NK r2;have zf:c.length<=sizeLine:=by
   have a1:=b.length;have a2:=FK<|a.take i;have a3:(a.take i).length<=a.length:=by simp only[E2];exact O7 _ _
   lia
  refine⟨B,u1,u2,Z,⟨ob,kk _ _ M,P,m,h3⟩,Lh (hsz:=zf) (Kz C) l λh' pi sb=>fi h' _ ⟨_,?_,pi⟩ sb⟩;rw[wV x];exact b.put t.1 F
 .rintro h' tk ⟨c,b,l⟩ kp;have et:a.take its.toArray.size=a:=by rw[Y1];simp only[P0];lia
  rw[et]at b;exact⟨.ref s.heap.objs.size,_,I.laid (t':=tk) kp (A0 _)<|show ObjOk X.prog X.w _ h' _ (.dK<|OZ a) from ⟨by lia,hb,c,b,l⟩,Z,q _<|I.hok.fresh<|A0 _⟩
theorem GG[DecidableEq κ](a:List (κ×V))(h:(a.map (·.1)).Nodup):OZ a=a:=by
 have c:∀(l m:List (κ×V)),((m++l).map (·.1)).Nodup->l.foldl (λm i=>UJ m i.1 i.2) m=m++l:=by
  intro l;induction l with
  |nil=>intro m _;simp
  |cons x l j =>
   intro m d;have e:UJ m x.1 x.2=m++[x]:=by
    unfold UJ;rw[if_neg];intro q;obtain⟨y,hy,b⟩:=List.any_eq_true.mp q;have b:y.1=x.1:=by simpa using b
    rw[Q3,N6]at d;exact d.2.2 y.1 (J0.mpr ⟨y,hy,Z⟩) x.1 (by simp) b
   simp only[Y7];rw[e,j (m++[x])<|by simpa using d];simp
 simpa [OZ]using c a [] (by simpa using h)
end L2
namespace L3
open L2
noncomputable abbrev prT(p:List wZ×D):D:=.tuple [.tuple<|p.1.map qW,p.2]
noncomputable abbrev v_(p:wZ×D):D:=.tuple [qW p.1,p.2]
noncomputable abbrev aj(p:wZ×D):D×D:=(qW p.1,p.2)
section
variable {K:Fg}{F:Hp}
theorem dy(s:Sub F H):∀{b:List (wZ×D)}{c:List V},DaAll K F c (b.map v_)->∃a:List (wZ×V),a.map (·.1)=b.map (·.1)/\c.length=a.length/\(∀(i:Nat) y,c[i]?=O y->∃l,a[i]?=O l/\NI H y l)/\DaKV K F a (b.map aj)
 |[],_,.nil=>⟨[],Z,Z,λ_ _ e=>by simp at e,.nil⟩
 |p::b,_,.cons h t=>by
  obtain⟨a,m,v,w,B⟩:=dy s t;cases h with
  |tup q r =>
   cases r with
   |@cons x _ _ _ C j =>
    cases j with
    |cons j G =>
     cases G;have hx:x=kV p.1:=by obtain⟨k,d⟩:=p;cases k<;>(cases C;rfl)
     subst hx;refine⟨(p.1,_)::a,by simp[m],by simp[v],λi y e=>?_,.cons j B⟩;cases i with
     |zero=>cases e;exact⟨_,Z,_,Z,s _ _ q⟩
     |succ i=>exact w i y e
end
section
variable {K:Fg}{e1 e2:Vb}{a b:AD}{pos:Pos}
end
end L3
namespace L2
abbrev fW(h:Dc)(z TI TO T:Eb)(fl:Bool):Prop:=h.get? z=O {cls:=.type "zip",dict:=U,data:=.fields #[Le T,.bool fl,.bool Um,.ref TI,.ref TO],slots:=#[]}
section
variable {w:Wb}
theorem OI{Q:Yi Obj->Gb->Prop}(b:s.heap.get? a=O o)(h:Q (O o) s):Hb (Kb prog w) A (Ji a) Q E s:=λΓ p _=>by show Sem.wp _ Γ (.loadIfAlive a λx=>.pure x) _ _ p s;rw[Sem.wp_loadIfAlive,b];exact h
theorem bj{TI TO:Eb}{Q:Bool->Gb->Prop}(d:fW s.heap z TI TO T fl)(e:s.heap.get? T=O ot)(h:∀a,fW a z TI TO T Ul->E3 z s.heap a->Q Um {s with heap:=a}):Hb (Kb prog w) A (G2<|.ref z) Q E s:=by
 unfold G2;refine Ab<|Yb d Z (x:=Le T) Z ?_;show Hb _ _ (Ji T >>= _) _ _ _;refine Ab<|OI e ?_;rw[if_neg<|show ¬((O ot).isNone=Ul) from X0];refine Ab<|Yb d Z (x:=.bool fl) Z ?_;cases fl with
 |true=>rw[if_neg<|by decide];exact Db<|h s.heap d ⟨Z,λ_ _=>rfl⟩
 |false=>rw[Ib<|by decide];exact Ab<|Lc d (by simp) λa b c=>Db<|h a b c
theorem Aq{TI TO:Eb}(D:ZAp2 z TI TO i1 i2 l1 l2)(j:fW s.heap z TI TO T fl) (t:BZ s.heap TI (.ref i1) (.ref i2)) (y:s.heap.get? T=O ot)(B:ItAt k1 s.heap i1 l1 k) (C:ItAt k2 s.heap i2 l2 k) (F:SqAt k1 s.heap l1 xs1) (G:SqAt k2 s.heap l2 xs2) (I:xs1[k]?=O x1) (L:xs2[k]?=O x2)(M:∀h',fW h' z TI TO T Ul->ItAt k1 h' i1 l1 (k+1)->ItAt k2 h' i2 l2 (k+1)->BZ h' s.heap.objs.size x1 x2->h'.objs.size=s.heap.objs.size+1 ->(∀c o,c≠z->c≠i1->c≠i2->s.heap.get? c=O o->h'.get? c=O o)->Q (.ref s.heap.objs.size) {s with heap:=h'}):Hb (Kb prog w) A (Builtin.«zip.__next__» ⟨[.ref z],[]⟩) (λfin s'=>∃v,fin=.done (.ret v)/\Q v s') E s:=by
 show Hb _ _ (Of (.ref z) 2 >>= _) _ _ _;refine Ab<|Yb j Z (x:=.bool Um) Z ?_;show Hb _ _ (Of (.ref z) 3 >>= _) _ _ _;refine Ab<|Yb j Z (x:=.ref TI) Z ?_;refine Ab<|Jc t Z ?_;show Hb _ _ (G2 (.ref z) >>= _) _ _ _;refine Ab<|bj j y λq b a=>?_;simp only[U2,if_false];rw[E9];simp only[vQ,GQ];refine Ab<|Ab<|Ab<|Xb ?_;show Hb _ _ (T2 (.ref i1) >>= _) _ _ _;refine Ab<|cJ (B.at λo e=>a.extBut _ o D.i1z e) (F.at λo e=>a.extBut _ o D.l1z e) I λP hi1 d=>Db<|Db ?_;refine Ab<|Ab<|Xb ?_;show Hb _ _ (T2 (.ref i2) >>= _) _ _ _;refine Ab<|cJ ((C.at λo e=>a.extBut _ o D.i2z e).at λo e=>d.extBut _ o D.i2i1 e) ((G.at λo e=>a.extBut _ o D.l2z e).at λo e=>d.extBut _ o D.l2i1 e) L λl hi2 i=>Db<|Db<|Db ?_;refine Ab<|Me (hsz:=by show 2<=sizeLine;decide) ?_;have hsz:l.objs.size=s.heap.objs.size:=by rw[i.1,d.1,a.1]
 have m:fW l z TI TO T true:=i.extBut _ _ D.i2z.symm<|d.extBut _ _ D.i1z.symm b;refine Db ⟨_,Z,?_⟩;show Q (.ref l.objs.size) _;rw[hsz];refine M _ (g0 _ m) ((hi1.at λo e=>i.extBut _ o D.i2i1.symm e).at λo e=>g0 _ e) (hi2.at λo e=>g0 _ e) ?_ ?_ λc o R Y d2 e=>g0 _<|i.extBut _ _ d2<|d.extBut _ _ Y<|a.extBut _ _ R e
 .rw[<-hsz];exact L0 _ Z
 .rw[u3,hsz]
theorem sH{TI TO:Eb}{Q:Fin->Gb->Prop}(y:A.handled=U)(D:ZAp2 z TI TO i1 i2 l1 l2)(d:fW s.heap z TI TO T fl) (L:BZ s.heap TI (.ref i1) (.ref i2)) (M:s.heap.get? T=O ot)(B:ItAt k1 s.heap i1 l1 k) (P:ItAt k2 s.heap i2 l2 k) (C:SqAt k1 s.heap l1 xs1) (R:SqAt k2 s.heap l2 xs2) (Y:xs1[k]?=U\/xs2[k]?=U)(F:∀h' e,(∀c o,c≠z->c≠i1->c≠i2->s.heap.get? c=O o->h'.get? c=O o)->(∃o,h'.get? e=O o/\o.cls=.type "StopIteration")->E (.ref e) {s with heap:=h'}):Hb (Kb prog w) A (Builtin.«zip.__next__» ⟨[.ref z],[]⟩) Q E s:=by
 show Hb _ _ (Of (.ref z) 2 >>= _) _ _ _;refine Ab<|Yb d Z (x:=.bool Um) Z ?_;show Hb _ _ (Of (.ref z) 3 >>= _) _ _ _;refine Ab<|Yb d Z (x:=.ref TI) Z ?_;refine Ab<|Jc L Z ?_;show Hb _ _ (G2 (.ref z) >>= _) _ _ _;refine Ab<|bj d M λG i a=>?_;simp only[U2,if_false];rw[E9];simp only[vQ,GQ];refine Ab<|Ab<|Ab<|Xb ?_;show Hb _ _ (T2 (.ref i1) >>= _) _ _ _;cases j:xs1[k]? with
 |none=>exact Ab<|rJ y (B.at λo e=>a.extBut _ o D.i1z e) (C.at λo e=>a.extBut _ o D.l1z e) j λl e b m=>F l e (λc o q t I x=>b _ _ t<|a.extBut _ _ q x) m
 |some x1 =>
  have xl:xs2[k]?=none:=by
   rcases Y with h|h
   .rw[j]at h;cases h
   .exact h
  refine Ab<|cJ (B.at λo e=>a.extBut _ o D.i1z e) (C.at λo e=>a.extBut _ o D.l1z e) j λha1 hi1 v=>Db<|Db ?_;refine Ab<|Ab<|Xb ?_;show Hb _ _ (T2 (.ref i2) >>= _) _ _ _;exact Ab<|rJ y ((P.at λo e=>a.extBut _ o D.i2z e).at λo e=>v.extBut _ o D.i2i1 e) ((R.at λo e=>a.extBut _ o D.l2z e).at λo e=>v.extBut _ o D.l2i1 e) xl λl e b m=>F l e (λc o q t I x=>b _ _ I<|v.extBut _ _ t<|a.extBut _ _ q x) m
end
section
variable {w:Wb}
def ZSt(h:Dc)(z TI TO S i1 i2 l1 l2:Eb)(a b:Kd)(i:Nat):Prop :=
 BZ h TI (.ref i1) (.ref i2)/\ItAt a h i1 l1 i/\ItAt b h i2 l2 i /\
  ((Af h z TI TO .none/\∃c d,BZ h TO c d)\/∃T fl ot,fW h z TI TO T fl/\h.get? T=O ot/\T≠z/\T≠i1/\T≠i2/\T≠S)
theorem Bq{TI TO:Eb}{Q:Yi Bb->Gb->Prop}(D:ZAp2 z TI TO i1 i2 l1 l2)(hS:S<s.heap.objs.size)(st:ZSt s.heap z TI TO S i1 i2 l1 l2 k1 k2 k) (C:SqAt k1 s.heap l1 xs1) (G:SqAt k2 s.heap l2 xs2) (I:xs1[k]?=O x1) (L:xs2[k]?=O x2)(M:∀h',ZSt h' z TI TO S i1 i2 l1 l2 k1 k2 (k+1)->BZ h' s.heap.objs.size x1 x2->h'.objs.size=s.heap.objs.size+1 ->(∀c o,c≠z->c≠TO->c≠i1->c≠i2->s.heap.get? c=O o->h'.get? c=O o)->Q (O<|.ref s.heap.objs.size) {s with heap:=h'}):Hb (Kb prog w) A (Md<|.ref z) Q E s:=by
 obtain⟨i,l,m,a⟩:=st;have q:∀{b:Eb}{o:Obj},s.heap.get? b=O o->s.heap.objs.size≠b:=λe=>X2<|G0 e;obtain⟨o1,g1,_⟩:=l.obj;obtain⟨o2,g2,_⟩:=m.obj;rcases a with⟨a,a1,a2,gf⟩|⟨T,fl,ot,a,P,R,Y,t3,t4⟩
 .refine lU D a i gf l m C G I L λh' t b2 x y j B d=>M h' ⟨d TI _ D.TIz (U3 D.TOTI) (U3 D.i1TI) (U3 D.i2TI) i,x,y,.inr ⟨s.heap.objs.size,Um,_,t,j,q a,q g1,q g2,X2 hS⟩⟩ j B d
 .have jp:s.TypeIs (.ref z) "zip":=⟨_,a,Z⟩;unfold Md;exact Ab<|Od<|Zb (name:=Str.ofString "__next__") jp F.slot_zip_next
    (wpAny_call_entry F.slot_zip_next jp F.entry_zip_next (wpAny_mono (Aq (Q:=λv s'=>Q (O v) s') D a i P l m C G I L λh' t x y j B d=>M h' ⟨d TI _ D.TIz (U3 D.i1TI) (U3 D.i2TI) i,x,y,.inr ⟨T,Ul,ot,t,d T _ R Y t3 P,R,Y,t3,t4⟩⟩ j B λc o d1 _ d3 d4 e=>d c o d1 d3 d4 e) (λfin s' z=>by obtain⟨v,rfl,z⟩:=z;exact⟨_,Z,Db z⟩) λ_ _ z=>z)<|F.args_zip_next_1 _)
theorem tH{TI TO:Eb}{Q:Yi Bb->Gb->Prop}(d:A.handled=U)(D:ZAp2 z TI TO i1 i2 l1 l2)(st:ZSt s.heap z TI TO S i1 i2 l1 l2 k1 k2 k) (i:SqAt k1 s.heap l1 xs1) (j:SqAt k2 s.heap l2 xs2) (l:xs1[k]?=U\/xs2[k]?=U)(m:∀h',(∀c o,c≠z->c≠TO->c≠i1->c≠i2->s.heap.get? c=O o->h'.get? c=O o)->Q U {s with heap:=h'}):Hb (Kb prog w) A (Md<|.ref z) Q E s:=by
 obtain⟨q,t,v,a⟩:=st;rcases a with⟨a,Y,a2,y⟩|⟨T,fl,ot,a,B,t1,t2,t3,t4⟩
 .exact pH d D a q y t v i j l m
 .have x:s.TypeIs (.ref z) "zip":=⟨_,a,Z⟩;unfold Md;refine Ab<|Od<|Zb (name:=Str.ofString "__next__") x F.slot_zip_next
    (wpAny_call_entry F.slot_zip_next x F.entry_zip_next (sH d D a q B t v i j l λh' e C G=>?_)<|F.args_zip_next_1 _);obtain⟨o,I,L⟩:=G;refine Ab<|Ad (T:="StopIteration") (b:=Ul) ⟨o,I,L⟩ Lf ?_;exact Db<|m _ λc o M _ P R e=>C c o M P R e
theorem ZSt.keep{TI TO:Eb}(x:ZSt h z TI TO S i1 i2 l1 l2 k1 k2 i)(a:∀b o,b≠S->h.get? b=O o->h'.get? b=O o)(n1:z≠S)(j:TI≠S)(k:TO≠S)(l:i1≠S)(m:i2≠S):ZSt h' z TI TO S i1 i2 l1 l2 k1 k2 i:=by
 obtain⟨q,t,v,c⟩:=x;refine⟨a _ _ j q,t.at λo e=>a _ _ l e,v.at λo e=>a _ _ m e,?_⟩;rcases c with⟨c,y,B,C⟩|⟨T,fl,ot,c,F,G,I,L,d⟩
 .exact .inl ⟨a _ _ n1 c,y,B,a _ _ k C⟩
 .exact .inr ⟨T,fl,ot,a _ _ n1 c,a _ _ d F,G,I,L,d⟩
end
structure ZG(xs1 xs2:Zi Bb)(lo:Eb)(h:Dc)(as:List Eb):Prop where
 rise:as.Pairwise (· < ·)
 above:∀a∈as,lo<a
 pairs:∀(j:Nat) (a:Eb),as[j]?=O a->∃x y,xs1[j]?=O x/\xs2[j]?=O y/\BZ h a x y
section
variable {w:Wb}{R:Ui->Gb->Prop}
end
end L2
namespace L3
open L2
theorem Cq(a:Room k A):A.units+2<Oc:=R0 (Q0 (by decide:2<=64) _) a.units
noncomputable def xT:D->Yi (List D)
 | .list a=>O a
 | .tuple a=>O a
 |_=>U
section
variable {K:Fg}{F:Hp}
theorem At.seq(s:Sub F H)(h:At K F H v d)(e:xT d=O ds):∃k a b,v=.ref a/\Sq k K H a b/\DaAll K F b ds:=by
 cases d<;>first|cases e|skip
 .obtain⟨a,b,rfl,c,i⟩:=h.list s;exact⟨.l,a,b,Z,SqL.of c,i⟩
 .obtain⟨a,b,rfl,_,c,i⟩:=h.tuple s;exact⟨.t,a,b,Z,SqT.of c,i⟩
end
section
variable {K:Fg}{e e1 e2:Vb}{a b:AD}{p pos p2:Pos}
end
mutual
theorem Dq:∀d:D,TX d=Ul->SeqAt.noMix d d=Ul
 | .none,_=>by simp[SeqAt.noMix]
 | .bool _,_=>by simp[SeqAt.noMix]
 | .int _,_=>by simp[SeqAt.noMix]
 | .str _,_=>by simp[SeqAt.noMix]
 | .list a,h=>by simp[SeqAt.noMix];exact noMixAll_self a (by simpa [TX]using h)
 | .tuple a,h=>by simp[SeqAt.noMix];exact noMixAll_self a (by simpa [TX]using h)
 | .dict _,h=>by simp[TX]at h
theorem noMixAll_self:∀a:List D,plainAll a=Ul->SeqAt.noMixAll a a=Ul
 |[],_=>by simp[SeqAt.noMixAll]
 |x::a,h=>by simp[plainAll]at h;simp[SeqAt.noMixAll];exact⟨Dq x h.1,noMixAll_self a h.2⟩
end
structure Nice(n:Nat)(d:D):Prop where
 p:TX d=Ul
 c:d.canLay0=Ul
 d:d.depth<=n
theorem Nice.int(n:Nat)(i:Int):Nice n (.int i):=⟨Z,by simp[v9],by simp[P4]⟩
theorem Nice.none(n:Nat):Nice n .none:=⟨Z,by simp[v9],by simp[P4]⟩
theorem AU{n:Nat}:∀{l:List D},(∀d∈l,Nice n d)->plainAll l=Ul/\P9 l=Ul/\e7 l<=n
 |[],_=>⟨Z,by simp[P9],by simp[e7]⟩
 |x::l,h=>by
  have a:=h x u0;have b:=AU (l:=l) λd hd=>h d<|i0 _ hd;refine⟨by simp[plainAll,a.p,b.1],by simp[P9,a.c,b.2.1],?_⟩;have:=a.d;have:=b.2.2;simp[e7]
  lia
theorem Nice.list{l:List D}(h:∀d∈l,Nice n d):Nice (n+1) (.list l):=by obtain⟨a,b,c⟩:=AU h;exact⟨by simp[TX,a],by simp[v9,b],by simp[P4];omega⟩
theorem Nice.tuple{l:List D}(h:∀d∈l,Nice n d):Nice (n+1) (.tuple l):=by obtain⟨a,b,c⟩:=AU h;exact⟨by simp[TX,a],by simp[v9,b],by simp[P4];omega⟩
theorem Nice.tup(l:Ql):Nice 1 (.tuple<|l.map n0):=.tuple λd hd=>by obtain⟨i,_,rfl⟩:=J0.mp hd;exact .int 0 i
theorem Nice.sh{d:D}(h:Nice n d)(k:n<=64):SeqAt.shaped d=true:=by have:=h.d;unfold SeqAt.shaped;rw[h.c];simp;exact q0 this k
end L3
namespace L2
def cD(K:B0):List V->Hp->VK->Prop:=λb H Q=>∃(x:V) (k:Ki) (T:Ki),b=[x,.ty T.nm]/\(KiOf K H x k\/∃a,x=.ref a/\k=.dct/\uA H a)/\Q (.bl<|k.sub T) H
theorem TH:nZ X (.builtin "isinstance") (cD X.K):=by
 intro gb s σ H t us Q I r h;obtain⟨x,k,T,rfl,c,q⟩:=h;rcases c with c|⟨a,rfl,rfl,hd⟩
 .exact av gb s σ H _ us Q I r ⟨x,k,T,Z,c,q⟩
 .obtain⟨u,e,rfl,i,j⟩:=NK r;obtain rfl:e=.type T.nm:=j;cases i;have d:s.TypeIs (.ref a) Ki.dct.nm:=(CM I hd).1;cases b:Ki.dct.sub T with
  |true=>rw[b]at q;exact Ic (Vg (Tx:=Ki.dct.nm) (YZ T)<|by rw[YW,b]) ⟨d,.bl Ul,H,I,Z,q⟩
  |false =>
   rw[b]at q;have l:Kh (.type Ki.dct.nm) (.type T.nm)=pure false:=by rw[YW,b]
   have m:=Zw Ki.dct T b;have fin:EP X gb σ Q (.bool Um) {s with toks:=s.toks+1}:=⟨.bl Um,H,I.tok _,Z,q⟩;exact Ic (Qe m (YZ T) l) ⟨d,fin⟩
inductive PrsT (H:Hp):List (V×V)->List (List wZ×V)->Prop
 |nil:PrsT H [] []
 |cons {b ks v ps kvs}:H b=O (.tup<|ks.map kV)->PrsT H ps kvs->PrsT H ((.ref b,v)::ps) ((ks,v)::kvs)
section
variable {a:Eb}
end
end L2
namespace L3
open L2
noncomputable def eK:List (D×D)->Bool
 |(.none,_)::_=>Um
 |(.bool _,_)::_=>Um
 |_=>Ul
noncomputable def gy(T:Ki):D->(Sl->Prop)->Prop
 | .dict a,Q=>eK a=Ul/\Q (.fz<|.bool<|Ki.dct.sub T)
 |d,Q=>Q<|.fz<|.bool<|(Ha d).sub T
theorem At.isD{K:Fg}{d:List (D×D)}(s:Sub F H)(h:At K F H v (.dict d))(b:eK d=Ul):∃a,v=.ref a/\uA H a:=by
 rcases h with h|⟨a,o,rfl,_,e,h⟩
 .cases h with
  |dk r t=>exact⟨_,Z,.inl ⟨_,s.rd r⟩⟩
  |dt r t=>exact⟨_,Z,.inr ⟨_,s.rd r⟩⟩
  |scr q=>simp[eK]at b
  |exc q=>simp[eK]at b
  |opq q=>simp[eK]at b
  |pd q t=>simp[eK]at b
  |bd q t=>simp[eK]at b
 .cases o with
  |ext m=>rcases h.ext with⟨i,j,k,l,z,c,t⟩|⟨i,j,k,l,z,c,t⟩<;>(injection c with c;rw[c]at b;simp[eK]at b)
  |_=>first|exact h.elim|exact⟨_,rfl,.inl ⟨_,.inl e⟩⟩|exact⟨_,rfl,.inr ⟨_,.inl e⟩⟩
theorem cj{K:Fg}{T:Ki}:ZX K (λm H Q=>∃x,m=[x]/\cD K [x,.ty T.nm] H Q) (o1<|gy T):=BG λG F σ H ρ x d Q q R c w k=>by
 have go:∀(e:Ki),KiOf K H x e->q (.fz<|.bool<|e.sub T)->∃l,[x]=[l]/\cD K [l,.ty T.nm] H Q:=λe h w=>⟨x,Z,x,e,T,Z,.inl h,k _ H F (.fz _) (Sub.refl _) R (Da.bl _) w⟩;match d,c,w with
 | .none,c,w=>cases c.none;exact go .non Z w
 | .bool b,c,w=>cases c.bool;exact go .bl Z w
 | .int i,c,w=>cases c.int;exact go .int Z w
 | .str z,c,w=>cases c.str;exact go .str Z w
 | .list t,c,w=>obtain⟨a,us,rfl,j,v⟩:=c.list R.sub;exact go .lst (.inl ⟨Z,us,SqL.of j⟩) w
 | .tuple t,c,w=>obtain⟨a,us,rfl,_,j,v⟩:=c.tuple R.sub;exact go .tup (.inr<|.inl ⟨Z,us,SqT.of j⟩) w
 | .dict y,c,w=>obtain⟨a,rfl,hd⟩:=c.isD R.sub w.1;exact⟨_,Z,_,.dct,T,Z,.inr ⟨a,Z,Z,hd⟩,k _ H F (.fz _) (Sub.refl _) R (Da.bl _) w.2⟩
def QI:TD:=λρ Q=>Q (.ow<|.dict []) ρ
theorem FN{K:Fg}{Q:VK}(h:lift K QI σ H Q):Uw σ H Q:=by obtain⟨G,F,ρ,e,R,w,k⟩:=h;intro p a;obtain⟨b,c⟩:=R.newOw (o:=.dT []) (d:=.dict []) a DaKT.nil;exact k _ _ F _ ρ (Sub.refl _) b c w
section
variable {K:Fg}{e e1 e2:Vb}{a b:AD}{ta tb:TD}{st:Be}{p pos p2 px py pt:Pos}{x y:Str}
theorem jV(T:Ki)(j:X.K=K)(k:X.mg "isinstance"=U){y:Str}(l:X.mg y=U)(c:Gc y=O (.type T.nm))(m:WE X e1 (uX K a))(t:Gl X "isinstance":=by rfl)(w:Gl X y:=by rfl)(hy:y ≠ "__name__":=by decide)(d:(y==("__debug__":Str))=false:=by decide)(i:NX e1=true:=by rfl) :
  WE X (.Call (.Name "isinstance" p) [e1,.Name y p2] [] pos) (lift K<|TK [a]<|o1<|gy T):=by
 subst j;exact⟨OW (bU TH t k boot_isinstance (wK m.h (wK (zz w l c (v:=.ty T.nm) Z hy d) aU<|DX Z)<|DX i) (by decide) (by decide) (DX i)<|DZ Z) λq=>MF (P:=λx B=>cD X.K [x,.ty T.nm] B _)<|bV cj q⟩
theorem GN:WE X (.Dict [] [] pos) (lift K QI):=⟨OW Vw λq=>FN q⟩
end
end L3
namespace L2
theorem iy:OpR X (Bc .Is) (λx y H Q=>∃c d,x=.bl c/\y=.bl d/\Q (.bl<|c==d) H):=by intro gb s σ H x y v u Q I a b h;obtain⟨c,d,rfl,rfl,q⟩:=h;cases a;cases b;exact is_bool ⟨.bl _,H,I,Z,q⟩
theorem lV:OpR X (Bc .IsNot) (λx y H Q=>∃c d,x=.bl c/\y=.bl d/\Q (.bl<|!(c==d)) H):=by intro gb s σ H x y v u Q I a b h;obtain⟨c,d,rfl,rfl,q⟩:=h;cases a;cases b;exact isnot_bool ⟨.bl _,H,I,Z,q⟩
end L2
namespace L3
open L2
noncomputable def UA:D->D->(Sl->Prop)->Prop
 | .bool c,.bool d,Q=>Q<|.fz<|.bool<|c==d
 |_,_,_=>Al
noncomputable def ER:D->D->(Sl->Prop)->Prop
 | .bool c,.bool d,Q=>Q<|.fz<|.bool<|!(c==d)
 |_,_,_=>Al
theorem jy{K:Fg}:ZX K (VY λx y H Q=>∃c d,x=.bl c/\y=.bl d/\Q (.bl<|c==d) H) (o2 UA):=uF λG F σ H ρ x y d e Q i R a b w k=>by
 cases d<;>first|exact w.elim|skip
 cases e<;>first|exact w.elim|skip
 case bool.bool c d=>cases a.bool;cases b.bool;exact⟨c,d,Z,Z,k _ H F (.fz _) (Sub.refl _) R (Da.bl _) w⟩
theorem HG{K:Fg}:ZX K (VY λx y H Q=>∃c d,x=.bl c/\y=.bl d/\Q (.bl<|!(c==d)) H) (o2 ER):=uF λG F σ H ρ x y d e Q i R a b w k=>by
 cases d<;>first|exact w.elim|skip
 cases e<;>first|exact w.elim|skip
 case bool.bool c d=>cases a.bool;cases b.bool;exact⟨c,d,Z,Z,k _ H F (.fz _) (Sub.refl _) R (Da.bl _) w⟩
section
variable {K:Fg}{x:Str}{pos:Pos}
end
theorem bZ(s:String):(Str.ofString s).length=s.length:=by rw[Str.ofString_eq_toList];simp only[Str.length,P0,j0];first|rfl|exact String.length_toList|exact String.length_toList _|simp
theorem UH(a:0<k)(h:i.natAbs<10 ^ k):(n0 i).shown.length<=k+1:=by
 show (Str.ofString<|toString i).length<=k+1;rw[bZ];cases i with
 |ofNat n=>show (Nat.repr n).length<=k+1;have:=(sQ (n:=n) a).mpr h;exact Z4 this
 |negSucc m =>
  show ("-"++Nat.repr (m+1)).length<=k+1;have b:m+1<10 ^ k:=by simpa using h
  have:=(sQ (n:=m+1) a).mpr b;rw[String.length_append];have e:("-":String).length=1:=by decide
  lia
theorem BU(a:Str)(b:Nat):∀ts:Us,(∀t∈ts,t.length<=b)->(Str.join a ts).length<=ts.length*(b+a.length)
 |[],_=>by simp[Str.join,Str.length,Str.empty]
 |[x],h=>by have:=h x u0;show x.length<=_;simp;exact G8 this
 |x::y::r,h=>by
  have d:=h x u0;have e:=BU a b (y::r) λt c=>h t<|i0 _ c;show (x++a++Str.join a (y::r)).length<=_;rw[Str.length_append,Str.length_append,U1,n8]
  lia
theorem GK:∀l:List D,g7 l=l.map t8
 |[]=>rfl
 |x::l=>by simp[g7,GK l]
theorem dD{l:List D}(h:∀d∈l,d.shown.length<=b):(J1 l).shown.length<=l.length*(b+2)+3:=by
 show (tupleText<|g7 l).length<=_;rw[GK];have a:=BU (Str.ofString ", ") b (l.map t8) λt c=>by obtain⟨d,hd,rfl⟩:=J0.mp c;exact h d hd
 rw[j0,bZ]at a;have e:(", ":String).length=2:=by decide
 rw[e]at a;unfold tupleText;rw[Str.length_append,Str.length_append,bZ,bZ];have i:("(":String).length=1:=by decide
 have j:(if (((l.map t8).length==1)=Ul) then ",)" else ")":String).length<=2:=by split<;>decide
 lia
theorem CU{l:List D}(h:∀d∈l,d.shown.length<=b):(X3 l).shown.length<=l.length*(b+2)+3:=by
 have e:∀(ts:Us) (k:Nat) (a:Str),(∀t∈ts,t.length<=b)->(textFrom k a ts).length<=a.length+ts.length*(b+2):=by
  intro ts;induction ts with
  |nil=>intro k a _;simp[textFrom]
  |cons t ts i =>
   intro k a c;have q:=c t u0;have j:=i (k+1) (a++Str.ofString (if k > 0 then ", " else "")++t) λx hx=>c x<|i0 _ hx;rw[Str.length_append,Str.length_append,bZ]at j;have v:(if k > 0 then ", " else "":String).length<=2:=by split<;>decide
   show (textFrom (k+1) (a++Str.ofString (if k > 0 then ", " else "")++t) ts).length<=_;rw[U1,n8];omega
 show (listText<|g7 l).length<=_;rw[GK];have m:=e (l.map t8) 0 (Str.ofString "[") λt c=>by obtain⟨d,hd,rfl⟩:=J0.mp c;exact h d hd
 unfold listText;rw[Str.length_append,bZ];rw[bZ,j0]at m;have w:("[":String).length=1:=by decide
 have y:("]":String).length=1:=by decide
 lia
theorem showableAll_of:∀{l:List D},(∀d∈l,d.showable=Ul)->cX l=Ul
 |[],_=>rfl
 |x::l,h=>by simp[cX,h x u0];exact showableAll_of λd hd=>h d<|i0 _ hd
theorem IG(h:i.natAbs<2 ^ k)(a:k<=1920):(n0 i).showable=true:=by
 show Uo (i.natAbs.log2<1920)=Ul;refine Sb ?_;by_cases h0:i.natAbs=0
 .rw[h0];decide
 .exact v0 ((Nat.log2_lt h0).mpr h) a
end L3
namespace L2
noncomputable def FR:V->Int
 | .int i=>i
 |_=>0
theorem oY(l:Ql):(l.map V.int).map FR=l:=by rw[O0];exact U6 l
theorem ly{m:Ql}(e:l.map V.int=m.map V.int):l=m:=by rw[<-oY l,<-oY m,e]
noncomputable def cb(H:Hp)(p:Ql)(y:Bb):Bool:=@Uo (∃c,y=.ref c/\H c=O (.tup<|p.map V.int))<|Classical.propDecidable _
theorem xV{ns:Ql}(r:Vals (ns.map V.int) us){k:Nat}(h:k<us.length):∃t,us[k]=.int (ns.getD k 0) t:=by have hl:=r.length;rw[j0]at hl;have b:k<ns.length:=v0 h<|A1 hl.symm;obtain⟨u,a,c⟩:=r.get (i:=k) (x:=.int ns[k]) (by rw[G1,M0 b];rfl);obtain⟨t,e⟩:=c;rw[M0 h]at a;have a:=Z1 a;refine⟨t,?_⟩;rw[a,e,B2,M0 b];rfl
end L2
namespace L3
open L2
theorem DaAll.ints_of{K:Fg}{p:Ql}(h:DaAll K F ys (p.map n0)):ys=p.map V.int:=by
 have e:p.map n0=(p.map λn=>(.inl n:wZ)).map qW:=by rw[O0];rfl
 rw[e]at h;have:=h.keys;rw[this,O0];rfl
def my(K:Fg):R2:=λx y H Q=>∃j,y=.int j/\cC K x U (O j) H Q
def ny(K:Fg):R2:=λx y H Q=>∃j,y=.int j/\cC K x (O j) U H Q
noncomputable def oy:D->D->(Sl->Prop)->Prop
 | .list a,.int j,Q=>Q<|.ow<|.list<|a.take<|if j<0 then (j+a.length).toNat else j.toNat
 |_,_,_=>Al
noncomputable def qy:D->D->(Sl->Prop)->Prop
 | .list a,.int j,Q=>Q<|.ow<|.list<|a.drop<|if j<0 then (j+a.length).toNat else j.toNat
 |_,_,_=>Al
theorem sy(us:List α)(j:Int):us.take (HT.sIx us.length us.length<|O j)=us.take (if j<0 then (j+us.length).toNat else j.toNat):=by
 show us.take (if j<0 then (j+(us.length:Int)).toNat else min j.toNat us.length)=_;split
 .rfl
 .by_cases h:j.toNat<=us.length
  .rw[J4 h]
  .rw[Y1<|M5 (V0<|o5 h)<|A1 Z,Y1<|V0<|o5 h]
theorem uy{K:Fg}:ZX K (VY<|my K) (o2 oy):=uF λG F σ H ρ x y d e Q C R i l w k=>by
 cases d<;>first|exact w.elim|skip
 cases e<;>first|exact w.elim|skip
 rename_i b j;cases l.int;obtain⟨a,us,rfl,m,c⟩:=i.list R.sub;refine⟨j,Z,a,us,Z,SqL.of m,λp q=>?_⟩;have t:QK us U (O j)=us.take (if j<0 then (j+b.length).toNat else j.toNat):=by rw[<-c.length,<-sy];rfl
 rw[t];obtain⟨v,B⟩:=R.newOw (o:=.lst<|us.take<|if j<0 then (j+b.length).toNat else j.toNat) (d:=.list<|b.take<|if j<0 then (j+b.length).toNat else j.toNat) q<|c.take _;exact k _ _ F _ (Sub.refl _) v B w
theorem vy{K:Fg}:ZX K (VY<|ny K) (o2 qy):=uF λG F σ H ρ x y d e Q C R i l w k=>by
 cases d<;>first|exact w.elim|skip
 cases e<;>first|exact w.elim|skip
 rename_i b j;cases l.int;obtain⟨a,us,rfl,m,c⟩:=i.list R.sub;refine⟨j,Z,a,us,Z,SqL.of m,λp q=>?_⟩;have hl:=c.length;have t:QK us (O j) U=us.drop (if j<0 then (j+b.length).toNat else j.toNat):=by
  unfold QK;show (us.drop<|if j<0 then (j+(us.length:Int)).toNat else min j.toNat us.length).take (us.length-(if j<0 then (j+(us.length:Int)).toNat else min j.toNat us.length))=_;rw[Y1 (by rw[K2];exact A1 Z),hl];split
  .rfl
  .by_cases h:j.toNat<=us.length
   .rw[J4<|q0 h<|A1 hl]
   .rw[B4<|M5 (V0<|o5 h)<|A1 hl,B4<|V0<|o5 h]
 rw[t];obtain⟨v,B⟩:=R.newOw (o:=.lst<|us.drop<|if j<0 then (j+b.length).toNat else j.toNat) (d:=.list<|b.drop<|if j<0 then (j+b.length).toNat else j.toNat) q<|c.drop _;exact k _ _ F _ (Sub.refl _) v B w
noncomputable def VA:D->(Sl->Prop)->Prop
 | .int i,Q=>i.natAbs.log2<1920/\Q (.fz<|.str<|toString i)
 |_,_=>Al
theorem aE{K:Fg}:ZX K (λa H Q=>∃i,a=[V.int i]/\i.natAbs.log2<1920/\Q (V.str<|toString i) H) (o1 VA):=BG λG F σ H ρ x d Q c R b w k=>by
 cases d<;>first|exact w.elim|skip
 rename_i i;cases b.int;exact⟨i,Z,w.1,k _ H F (.fz _) (Sub.refl _) R (Da.str _) w.2⟩
section
variable {K:Fg}{e1 e2:Vb}{a b:AD}{pos p2:Pos}
theorem ZJ(c:X.K=K)(d:WE X e1 (uX K a))(e:WE X e2 (uX K b)):WE X (.Subscript e1 (.Slice U (O e2) U p2) pos) (lift K<|TK [a,b]<|o2 oy):=by subst c;exact⟨OW (ZK pG d.h NV<|CY e.h) λq=>NF (P:=λx y H=>my X.K x y H _)<|bV uy q⟩
theorem MJ(c:X.K=K)(d:WE X e1 (uX K a))(e:WE X e2 (uX K b)):WE X (.Subscript e1 (.Slice (O e2) U U p2) pos) (lift K<|TK [a,b]<|o2 qy):=by subst c;exact⟨OW (ZK pG d.h (CY e.h) NV) λq=>NF (P:=λx y H=>ny X.K x y H _)<|bV vy q⟩
end
end L3
namespace L2
section
variable {w:Wb}
theorem wy(q:A.handled=U)(d:s.heap.IsTuple l (Uc a))(t:0<a.size)(h:∀v h' k,(Uc a)[argBest (λi j=>decide<|Cg a i<Cg a j)<|a.size-1]?=O v->(∀b o,s.heap.get? b=O o->h'.get? b=O o)->Q v {s with heap:=h',toks:=k}):Hb (Kb prog w) A (call (.builtin "min") [.ref l]) Q E s:=by
 obtain⟨o,m,B,n,hd⟩:=id d;have x:l≠s.heap.objs.size:=U0<|G0 m;refine call_min_walk<|Ie d ?_;refine⟨s.heap.objs.size,_,_,_,_,_,_,Z,Walks.tuple (A:=A.in1) q _ l x<|Uc a,⟨⟨_,L0 _ Z,Z,Z⟩,d.push _⟩,λb c=>?_,by simpa [Uc]using t,CmpOf.ints_lt (Cg a)<|λ_ _=>Ah,λv h' k hP y=>?_⟩
 .rcases T0.mp c with rfl|c
  .exact G0 (L0 _ Z)
  .obtain rfl:=Y0.mp c;exact G0<|g0 _ m
 .exact h v h' k (by simpa [Uc]using hP) λb o e=>y b o (λc=>absurd (G0 e)<|(Y0.mp c) ▸ j4 _)<|g0 _ e
theorem xy(q:A.handled=U)(d:s.heap.IsTuple l (Uc a))(t:0<a.size)(h:∀v h' k,(Uc a)[argBest (λi j=>decide<|Cg a i > Cg a j)<|a.size-1]?=O v->(∀b o,s.heap.get? b=O o->h'.get? b=O o)->Q v {s with heap:=h',toks:=k}):Hb (Kb prog w) A (call (.builtin "max") [.ref l]) Q E s:=by
 obtain⟨o,m,B,n,hd⟩:=id d;have x:l≠s.heap.objs.size:=U0<|G0 m;refine call_max_walk<|Ie d ?_;refine⟨s.heap.objs.size,_,_,_,_,_,_,Z,Walks.tuple (A:=A.in1) q _ l x<|Uc a,⟨⟨_,L0 _ Z,Z,Z⟩,d.push _⟩,λb c=>?_,by simpa [Uc]using t,CmpOf.ints_gt (Cg a)<|λ_ _=>Ah,λv h' k hP y=>?_⟩
 .rcases T0.mp c with rfl|c
  .exact G0 (L0 _ Z)
  .obtain rfl:=Y0.mp c;exact G0<|g0 _ m
 .exact h v h' k (by simpa [Uc]using hP) λb o e=>y b o (λc=>absurd (G0 e)<|(Y0.mp c) ▸ j4 _)<|g0 _ e
end
def GR(K:B0):List V->Hp->VK->Prop:=λb H Q=>∃(a:Eb) (ns:Ql),b=[.ref a]/\(SqL K H a (ns.map V.int)\/SqT K H a (ns.map V.int))/\0<ns.length/\∀M,M∈ns->(∀y∈ns,M<=y)->Q (.int M) H
def HR(K:B0):List V->Hp->VK->Prop:=λb H Q=>∃(a:Eb) (ns:Ql),b=[.ref a]/\(SqL K H a (ns.map V.int)\/SqT K H a (ns.map V.int))/\0<ns.length/\∀M,M∈ns->(∀y∈ns,y<=M)->Q (.int M) H
theorem yy{K:B0}(G:X.K=K)(L:X.calm=Ul):nZ X (.builtin "min") (GR K):=by
 subst G;intro gb s σ H xs us Q I r h;obtain⟨a,ns,rfl,k,M,q⟩:=h;obtain⟨u,rfl,P⟩:=iJ r;cases P;have x:=I.ok.hd L;have fin:∀{its:Up}{c:Zi (Int×Tok)},Vals (ns.map V.int) its->its.toArray=Uc c->0<c.size/\∀(v:Bb) (h':Dc) (B:Nat),(Uc c)[argBest (λi j=>decide<|Cg c i<Cg c j)<|c.size-1]?=O v->(∀b o,s.heap.get? b=O o->h'.get? b=O o)->EP X gb σ Q v {s with heap:=h',toks:=B}:=by
  intro its c d e;have hi:Tc its ns:=lZ d;have m:ns=c.toList.map (·.1):=by rw[<-Zf,<-e];exact(show numsOf its.toArray.toList=ns from hi.numsOf).symm
  have l:0<c.size:=by have C:=M;rw[m,j0,Z0]at C;exact C
  refine⟨l,λv h' B R Y=>?_⟩;obtain⟨t,rfl⟩:=Ah R;obtain⟨h1,h2⟩:=argBest_lt (Cg c)<|c.size-1;refine⟨.int _,H,I.kept Y,⟨t,Z⟩,q _ ?_ λy hy=>?_⟩
  .rw[m,Vi];exact getD_mem (by rw[j0,Z0];exact W8 l h1)
  .rw[m]at hy;obtain⟨j,F,rfl⟩:=mem_getD hy;rw[j0,Z0]at F;rw[<-Vi];exact h2 j<|V1 F
 rcases k with k|k
 .obtain⟨its,d,p,hz⟩:=I.list k;obtain⟨c,hx⟩:=(lZ d).allInts.items;obtain⟨w,f⟩:=fin d hx;exact min_intList x (hx ▸ p.isList) w f
 .obtain⟨its,d,p,hz⟩:=I.tuple k;obtain⟨c,hx⟩:=(lZ d).allInts.items;obtain⟨w,f⟩:=fin d hx;exact wy x (show s.heap.IsTuple a (Uc c) from hx ▸ p) w f
theorem zy{K:B0}(G:X.K=K)(L:X.calm=Ul):nZ X (.builtin "max") (HR K):=by
 subst G;intro gb s σ H xs us Q I r h;obtain⟨a,ns,rfl,k,M,q⟩:=h;obtain⟨u,rfl,P⟩:=iJ r;cases P;have x:=I.ok.hd L;have fin:∀{its:Up}{c:Zi (Int×Tok)},Vals (ns.map V.int) its->its.toArray=Uc c->0<c.size/\∀(v:Bb) (h':Dc) (B:Nat),(Uc c)[argBest (λi j=>decide<|Cg c i > Cg c j)<|c.size-1]?=O v->(∀b o,s.heap.get? b=O o->h'.get? b=O o)->EP X gb σ Q v {s with heap:=h',toks:=B}:=by
  intro its c d e;have hi:Tc its ns:=lZ d;have m:ns=c.toList.map (·.1):=by rw[<-Zf,<-e];exact(show numsOf its.toArray.toList=ns from hi.numsOf).symm
  have l:0<c.size:=by have C:=M;rw[m,j0,Z0]at C;exact C
  refine⟨l,λv h' B R Y=>?_⟩;obtain⟨t,rfl⟩:=Ah R;obtain⟨h1,h2⟩:=argBest_gt (Cg c)<|c.size-1;refine⟨.int _,H,I.kept Y,⟨t,Z⟩,q _ ?_ λy hy=>?_⟩
  .rw[m,Vi];exact getD_mem (by rw[j0,Z0];exact W8 l h1)
  .rw[m]at hy;obtain⟨j,F,rfl⟩:=mem_getD hy;rw[j0,Z0]at F;rw[<-Vi];exact h2 j<|V1 F
 rcases k with k|k
 .obtain⟨its,d,p,hz⟩:=I.list k;obtain⟨c,hx⟩:=(lZ d).allInts.items;obtain⟨w,f⟩:=fin d hx;exact max_intList x (hx ▸ p.isList) w f
 .obtain⟨its,d,p,hz⟩:=I.tuple k;obtain⟨c,hx⟩:=(lZ d).allInts.items;obtain⟨w,f⟩:=fin d hx;exact xy x (show s.heap.IsTuple a (Uc c) from hx ▸ p) w f
end L2
namespace L3
open L2
section
variable {K:Fg}{σ:L2.St}{v:V}{Q:L2.St->Hp->Prop}
end
noncomputable def XA:D->(Sl->Prop)->Prop
 | .list a,Q=>∃ns:Ql,a=ns.map n0/\0<ns.length/\∀M,M∈ns->(∀y∈ns,M<=y)->Q (.fz<|.int M)
 | .tuple a,Q=>∃ns:Ql,a=ns.map n0/\0<ns.length/\∀M,M∈ns->(∀y∈ns,M<=y)->Q (.fz<|.int M)
 |_,_=>Al
noncomputable def YA:D->(Sl->Prop)->Prop
 | .list a,Q=>∃ns:Ql,a=ns.map n0/\0<ns.length/\∀M,M∈ns->(∀y∈ns,y<=M)->Q (.fz<|.int M)
 | .tuple a,Q=>∃ns:Ql,a=ns.map n0/\0<ns.length/\∀M,M∈ns->(∀y∈ns,y<=M)->Q (.fz<|.int M)
 |_,_=>Al
theorem HN{K:Fg}:ZX K (GR K) (o1 XA):=BG λG F σ H ρ x d Q t R m w k=>by
 cases d<;>first|exact w.elim|skip
 case list q=>obtain⟨ns,e,b,w⟩:=w;subst e;obtain⟨a,us,rfl,c,i⟩:=m.list R.sub;have:=i.intsV;subst this;exact⟨a,ns,Z,.inl<|SqL.of c,b,λM j l=>k _ H F (.fz _) (Sub.refl _) R (Da.int _)<|w M j l⟩
 case tuple q=>obtain⟨ns,e,b,w⟩:=w;subst e;obtain⟨a,us,rfl,_,c,i⟩:=m.tuple R.sub;have:=i.intsV;subst this;exact⟨a,ns,Z,.inr<|SqT.of c,b,λM j l=>k _ H F (.fz _) (Sub.refl _) R (Da.int _)<|w M j l⟩
theorem IN{K:Fg}:ZX K (HR K) (o1 YA):=BG λG F σ H ρ x d Q t R m w k=>by
 cases d<;>first|exact w.elim|skip
 case list q=>obtain⟨ns,e,b,w⟩:=w;subst e;obtain⟨a,us,rfl,c,i⟩:=m.list R.sub;have:=i.intsV;subst this;exact⟨a,ns,Z,.inl<|SqL.of c,b,λM j l=>k _ H F (.fz _) (Sub.refl _) R (Da.int _)<|w M j l⟩
 case tuple q=>obtain⟨ns,e,b,w⟩:=w;subst e;obtain⟨a,us,rfl,_,c,i⟩:=m.tuple R.sub;have:=i.intsV;subst this;exact⟨a,ns,Z,.inr<|SqT.of c,b,λM j l=>k _ H F (.fz _) (Sub.refl _) R (Da.int _)<|w M j l⟩
open L2
section
variable {K:Fg}{G:Gh}{F F':Hp}{σ:L2.St}
theorem Rel.grown(R:Rel K G F σ H ρ)(c:Sub F F')(x:Sub F' H')(fn:∀b o,F' b=O o->F b=O o\/H b=U)(kp:∀b o,(∀z∈TB K,z.1≠b)->H b=O o->H' b=O o)(y:TabOk K F' H'):Rel K G F' σ H' ρ:=by
 refine⟨R.len,x,R.sub0.trans c,λb o e=>?_,λa o e n t=>kp _ _ t<|R.keep a o e n t,y,λi d e=>?_,λi s e w=>?_,R.new,R.io,R.ioi,R.ap⟩
 .rcases fn b o e with q|q
  .exact R.fn b o q
  .exact .inr (R.h0 q)
 .obtain⟨v,j,k⟩:=R.fz i d e;exact⟨v,j,k.mono c⟩
 .obtain⟨a,o,j,k,l,m⟩:=R.ow i s e w;refine⟨a,o,j,?_,kp _ _ (R.tb.ne λu z=>by rw[l]at z;cases z;exact m.stk) l,m.mono c⟩;cases q:F' a with
  |none=>rfl
  |some u =>
   rcases fn a u q with z|z
   .rw[k]at z;cases z
   .rw[l]at z;cases z
end
section
variable {K:Fg}{e:Vb}{es:Bl}{as:List AD}{x:Str}{p pos:Pos}
end
end L3
namespace SG
noncomputable def ck:Bool->Mb->Zi Mb->Nat->Nat->Nat->StateT Nb Sem (Yi Nat):=sortPriv% PySem.Builtin.gallop
noncomputable def yT:Zi Mb->Zi Mb->StateT Nb Sem (Zi Mb):=sortPriv% PySem.Builtin.mergeLo
noncomputable def AT:Zi Mb->Zi Mb->StateT Nb Sem (Zi Mb):=sortPriv% PySem.Builtin.mergeHi
noncomputable abbrev BW(z:Nb)(g:Nat):Nb:=SortSt.mk' (kindOf z) (arrOf z) (Tb z) g<|Pd z
theorem JN(d:Bool)(c:Mb)(e:Zi Mb)(bs n a:Nat):ck d c e bs n a=(do
    let ov (i:Nat):StateT Nb Sem (Yi Bool):=do
      let z<-Nc e (bs+i)
      if d then lt' z c else return (<-lt' c z).map (!·)
    let mut la:=0
    let mut o:=1
    let mut l:=0
    let mut h:=0
    let O rt<-ov a|return U
    if rt then
      let b:=n-a
      for _ in [0:n] do
        if o ≥ b then break
        let O mo<-ov (a+o)|return U
        if !mo then break
        la:=o
        o:=2*o+1
      l:=a+la+1
      h:=a+min o b
    else
      let b:=a+1
      for _ in [0:n] do
        if o ≥ b then break
        let O fo<-ov (a-o)|return U
        if fo then break
        la:=o
        o:=2*o+1
      l:=a+1-min o b
      h:=a-la
    for _ in [0:n] do
      if l ≥ h then break
      let m:=l+(h-l) / 2
      let O mo<-ov m|return U
      if mo then l:=m+1 else h:=m
    return O h):=rfl
section
variable {w:Wb}{κ:Vc}{rk:Mb->Nat}{S:Mb->Prop}
def NJ(prog:Cc)(w:Wb)(A:Ae)(s:Gb)(κ:Vc)(rk:Mb->Nat)(S:Mb->Prop):Prop:=∀x y:Mb,S x->S y->∀Q:Bool->Gb->Prop,Q (decide<|rk x<rk y) s->Hb (Kb prog w) A (keyLt' κ x.1 y.1) Q (λ_ _=>Al) s
theorem w_lt(q:NJ prog w A s κ rk S){x y:Mb}{st:Nb}{Q:Yi Bool->Nb->Prop}(a:kindOf st=κ)(hx:S x)(hy:S y)(h:Q (O<|decide<|rk x<rk y) st):wpS (Kb prog w) A E s (lt' x y) Q st:=by
 rw[lt'_eq];refine Jb<|Bf ?_;rw[a];refine Jb<|Eg<|Od<|wpAny_mono (q x y hx hy (λb s'=>b=Uo (rk x<rk y)/\s'=s) ⟨Z,Z⟩) (λb s' e=>?_) λ_ _ e=>e.elim;obtain⟨rfl,rfl⟩:=e;exact⟨Z,Lb h⟩
theorem sZ{st:Nb}{Q:Mb->Nb->Prop}(hi:i<xs.size)(h:Q xs[i] st):wpS (Kb prog w) A E s (Nc xs i) Q st:=by rw[elem'_eq,getElem?_pos xs i hi];exact Lb h
def Ov(prog:Cc)(w:Wb)(A:Ae)(E:Bb->Gb->Prop)(s:Gb)(n:Nat)(b:Nat->Bool)(st:Nb)(a:Nat->StateT Nb Sem (Yi Bool)):Prop:=∀i,i<n->∀Q:Yi Bool->Nb->Prop,Q (O<|b i) st->wpS (Kb prog w) A E s (a i) Q st
noncomputable def IR(c:Nat->StateT Nb Sem (Yi Bool))(n a b:Nat):StateT Nb Sem (Yi Nat):=do
 let mut l:=a
 let mut h:=b
 for _ in [0:n] do
  if l ≥ h then break
  let m:=l+(h-l) / 2
  let O mo<-c m|return U
  if mo then l:=m+1 else h:=m
 return O h
theorem w_bin{h':Nat}{st:Nb}{Q:Yi Nat->Nb->Prop}(G:Ov prog w A E s n b st ov)(C:∀i j,i<=j->j<n->b j=Ul->b i=Ul) (L:l<=h') (F:h'<=n) (M:∀i,i<l->b i=Ul) (P:∀i,h'<=i->i<n->b i=Um)(h:∀k,k<=n->(∀i,i<k->b i=Ul)->(∀i,k<=i->i<n->b i=Um)->Q (O k) st):wpS (Kb prog w) A E s (IR ov n l h') Q st:=by
 unfold IR;refine Jb<|Pc (Hc (I:=λx c d=>d=st/\∃l h',c=(U,l,h')/\l<=h'/\h'<=n/\h'-l<=n-x/\(∀i,i<l->b i=Ul)/\∀i,h'<=i->i<n->b i=Um)
   (Q:=λc d=>d=st/\∃k,c=(U,k,k)/\k<=n/\(∀i,i<k->b i=Ul)/\∀i,k<=i->i<n->b i=Um) ?step ?fin ⟨Z,l,h',Z,L,F,q0 (A7 _ _) F,M,P⟩) ?post
 case fin=>rintro c d ⟨rfl,l,h',rfl,q,e,m,t,v⟩;have:l=h':=i_ m q;subst this;exact⟨Z,l,Z,e,t,v⟩
 case post=>rintro c d ⟨rfl,k,rfl,q,e,m⟩;exact Lb<|h k q e m
 case step =>
  rintro x c d _ hx ⟨rfl,l,h',rfl,q,e,m,t,v⟩;dsimp only;by_cases a:l ≥ h'
  .rw[Ib a];have:l=h':=S4 q a;subst this;exact Lb ⟨Z,l,Z,e,t,v⟩
  .rw[if_neg a];refine Jb<|G _ (by lia) _ ?_;cases y:b (l+(h'-l) / 2) with
   |true=>refine Lb ⟨Z,_,_,Z,by lia,e,e_ m,λi hi=>C _ _ (o4 hi) (by lia) y,v⟩
   |false =>
    refine Lb ⟨Z,_,_,Z,B1 _ _,by lia,f_ m,t,λi i1 i2=>?_⟩;cases B:b i with
    |false=>rfl
    |true=>rw[C _ _ i1 i2 B]at y;cases y
theorem JR{L:Bool}{st:Nb}{Q:Yi Nat->Nb->Prop}
  (C:Ov prog w A E s n b st (λi=>do
    let z<-Nc xs (bs+i)
    if L then lt' z ky else return (<-lt' ky z).map (!·)))
  (F:∀i j,i<=j->j<n->b j=Ul->b i=Ul) (G:ht<n)
  (h:∀k,k<=n->(∀i,i<k->b i=Ul)->(∀i,k<=i->i<n->b i=Um)->Q (O k) st):wpS (Kb prog w) A E s (ck L ky xs bs n ht) Q st:=by
 rw[JN];generalize M:(λi=>(do
     let z<-Nc xs (bs+i)
     if L then lt' z ky else return (<-lt' ky z).map (!·):StateT Nb Sem (Yi Bool)))=ov at C;dsimp only;clear M;refine Jb<|C ht G _ ?_;cases R:b ht with
 |true =>
  dsimp only;rw[Ib Z];refine Jb<|Pc (Hc (I:=λx c m=>m=st/\∃a o:Nat,c=(U,a,o)/\a<o/\x+1<=o/\ht+a<n/\b (ht+a)=Ul)
    (Q:=λc m=>m=st/\∃a o:Nat,c=(U,a,o)/\a<o/\ht+a<n/\b (ht+a)=Ul/\(n-ht<=o\/b (ht+o)=Um)) ?step ?fin ⟨Z,0,1,Z,Z3 _,A1 Z,by omega,R⟩) ?post
  case fin=>rintro c m ⟨rfl,a,o,rfl,t,P,q,e⟩;exact⟨Z,a,o,Z,t,q,e,.inl<|by lia⟩
  case step =>
   rintro x c m _ hx ⟨rfl,a,o,rfl,t,P,q,e⟩;dsimp only;by_cases d:o ≥ n-ht
   .rw[Ib d];exact Lb ⟨Z,a,o,Z,t,q,e,.inl d⟩
   .rw[if_neg d];refine Jb<|C _ (k7<|o5 d) _ ?_;cases v:b (ht+o) with
    |true=>exact Lb ⟨Z,o,2*o+1,Z,by lia,by lia,by lia,v⟩
    |false=>exact Lb ⟨Z,a,o,Z,t,q,e,.inr v⟩
  case post =>
   rintro c m ⟨rfl,a,o,rfl,t,q,e,y⟩;refine w_bin C F (l:=ht+a+1) (h':=ht+min o (n-ht)) (by lia) (le_of_le_of_eq (Q0 (O7 _ _) _)<|m4<|V0 G) (λi hi=>F _ _ (o4 hi) q e) (λi i1 i2=>?_) h;rcases y with y|y
   .omega
   .cases B:b i with
    |false=>rfl
    |true=>rw[F (ht+o) i (by lia) i2 B]at y;cases y
 |false =>
  dsimp only;rw[if_neg<|by decide];refine Jb<|Pc (Hc (I:=λx c m=>m=st/\∃a o:Nat,c=(U,a,o)/\a<o/\x+1<=o/\a<=ht/\b (ht-a)=Um)
    (Q:=λc m=>m=st/\∃a o:Nat,c=(U,a,o)/\a<o/\a<=ht/\b (ht-a)=Um/\(ht+1<=o\/b (ht-o)=Ul)) ?step2 ?fin2 ⟨Z,0,1,Z,by lia,by lia,V2 _,R⟩) ?post2
  case fin2=>rintro c m ⟨rfl,a,o,rfl,t,P,q,e⟩;exact⟨Z,a,o,Z,t,q,e,.inl<|by lia⟩
  case step2 =>
   rintro x c m _ hx ⟨rfl,a,o,rfl,t,P,q,e⟩;dsimp only;by_cases d:o ≥ ht+1
   .rw[Ib d];exact Lb ⟨Z,a,o,Z,t,q,e,.inl d⟩
   .rw[if_neg d];refine Jb<|C _ (cQ G) _ ?_;cases v:b (ht-o) with
    |false=>exact Lb ⟨Z,o,2*o+1,Z,by lia,by lia,o4<|o5 d,v⟩
    |true=>exact Lb ⟨Z,a,o,Z,t,q,e,.inr v⟩
  case post2 =>
   rintro c m ⟨rfl,a,o,rfl,t,q,e,y⟩;have up:∀i,ht-a<=i->i<n->b i=false:=λi i1 i2=>by
    cases B:b i with
    |false=>rfl
    |true=>rw[F (ht-a) i i1 i2 B]at e;cases e
   refine w_bin C F (l:=ht+1-min o (ht+1)) (h':=ht-a) (by omega) (V0<|cQ G) (λi hi=>?_) up h;rcases y with y|y
   .omega
   .exact F _ (ht-o) (Ea hi) (cQ G) y
theorem kK(q:NJ prog w A s κ rk S){c:Bool}{d:Mb}{a:Zi Mb}{bs n B:Nat}{st:Nb}{Q:Yi Nat->Nb->Prop}(m:kindOf st=κ)(hy:S d)(C:∀i (h:i<a.size),S a[i])(I:bs+n<=a.size) (L:∀i j (h:j<a.size) (v:i<=j),bs<=i->j<bs+n->rk (a[i]'(R0 v h))<=rk a[j]) (M:B<n)(h:∀k,k<=n->(∀i (h:i<a.size),bs<=i->i<bs+k->if c=Ul then rk a[i]<rk d else rk a[i]<=rk d)->(∀i (h:i<a.size),bs+k<=i->i<bs+n->if c=Ul then rk d<=rk a[i] else rk d<rk a[i])->Q (O k) st):wpS (Kb prog w) A E s (ck c d a bs n B) Q st:=by
 refine JR (b:=λi=>if hi:bs+i<a.size then (if c=Ul then Uo (rk a[bs+i]<rk d) else !Uo (rk d<rk a[bs+i])) else Um) ?_ ?_ M ?_
 .intro i hi Q x;have t:bs+i<a.size:=v0 (S3 hi _) I;simp only[dif_pos t]at x;refine Jb<|sZ t ?_;cases c with
  |true=>exact w_lt q m (C _ _) hy x
  |false=>exact Jb<|w_lt q m hy (C _ _)<|Lb x
 .intro i j F P l;have y:bs+j<a.size:=by lia
  have t:bs+i<a.size:=R0 (Q0 F _) y;have G:=L (bs+i) (bs+j) y (Q0 F _) (B1 _ _)<|S3 P _;simp only[dif_pos y]at l;simp only[dif_pos t];cases c with
  |true=>simp at l ⊢;exact R0 G l
  |false=>simp at l ⊢;exact q0 G l
 .intro k m R v;refine h k m (λi hi i1 i2=>?_)<|λi hi i1 i2=>?_
  .have:=R (i-bs)<|P5 i1 i2;have e:bs+(i-bs)=i:=m4 i1;simp only[e,dif_pos hi]at this;cases c with
   |true=>simpa using this
   |false=>simpa using this
  .have:=v (i-bs) (AQ i1)<|P5 (Q1 i1) i2;have e:bs+(i-bs)=i:=m4<|Q1 i1;simp only[e,dif_pos hi]at this;cases c with
   |true=>simpa using this
   |false=>simpa using this
end
section
variable {le:α->α->Prop}{a b nc:List α}{i j:Nat}
structure Mg(le:α->α->Prop)(a b nc:List α)(i j:Nat):Prop where
 perm:nc.Perm (a.take i++b.take j)
 srt:nc.Pairwise le
 la:∀x∈nc,∀y∈a.drop i,le x y
 lb:∀x∈nc,∀y∈b.drop j,le x y
theorem Mg.comm(h:Mg le a b nc i j):Mg le b a nc j i:=⟨h.perm.trans L8,h.srt,h.lb,h.la⟩
theorem Mg.takeA(h:Mg le a b nc i j)(c:a.Pairwise le)(k:Nat)(d:∀x∈(a.drop i).take k,∀y∈b.drop j,le x y):Mg le a b (nc++(a.drop i).take k) (i+k) j where
 perm:=by rw[List.take_add];refine(h.perm.append_right _).trans ?_;rw[Y2,Y2];exact List.Perm.append_left _ L8
 srt:=O6.mpr ⟨h.srt,(c.sublist<|y8 _ _).sublist<|v8 _ _,λx hx y hy=>h.la x hx y<|v4 hy⟩
 la:=λx hx y hy=>by
  rw[<-HQ]at hy;rcases W0.mp hx with hx|hx
  .exact h.la x hx y (u5 hy)
  .have p:=c.sublist<|y8 i _;rw[<-U5 k (a.drop i)]at p;exact(O6.mp p).2.2 x hx y hy
 lb:=λx hx y hy=>by
  rcases W0.mp hx with hx|hx
  .exact h.lb x hx y hy
  .exact d x hx y hy
theorem Mg.oneA(h:Mg le a b nc i j)(c:a.Pairwise le)(hi:i<a.length)(d:∀y∈b.drop j,le a[i] y):Mg le a b (nc++[a[i]]) (i+1) j:=by
 have e:(a.drop i).take 1=[a[i]]:=by rw[W4 hi];rfl
 have:=h.takeA c 1 (by rw[e];simpa using d);rwa [e]at this
theorem Mg.fin(h:Mg le a b nc i j)(c:a.Pairwise le)(d:b.Pairwise le)(hx:∀x∈a.drop i,∀y∈b.drop j,le x y):(nc++a.drop i++b.drop j).Perm (a++b)/\(nc++a.drop i++b.drop j).Pairwise le:=by
 constructor
 .have e:(a.take i++b.take j++a.drop i++b.drop j).Perm (a.take i++a.drop i++(b.take j++b.drop j)):=by
   simp only[Y2];refine List.Perm.append_left _ ?_;rw[<-Y2,<-Y2];exact L8.append_right _
  rw[U5,U5]at e;exact((h.perm.append_right _).append_right _).trans e
 .rw[Y2];refine O6.mpr ⟨h.srt,O6.mpr ⟨c.sublist<|y8 _ _,d.sublist<|y8 _ _,hx⟩,λx hx y hy=>?_⟩;rcases W0.mp hy with hy|hy
  .exact h.la x hx y hy
  .exact h.lb x hx y hy
theorem Mg.finC(h:Mg le a b nc i j)(c:a.Pairwise le)(d:b.Pairwise le)(hx:∀x∈b.drop j,∀y∈a.drop i,le x y):(nc++b.drop j++a.drop i).Perm (a++b)/\(nc++b.drop j++a.drop i).Pairwise le:=by obtain⟨e,k⟩:=h.comm.fin d c hx;exact⟨e.trans L8,k⟩
end
noncomputable abbrev bE:=Yi (Zi Mb)×Zi Mb×Nat×Nat×Nat×Nat×Nat
noncomputable abbrev CT:=Yi (Zi Mb)×Zi Mb×Nat×Nat×Nat×Nat
noncomputable abbrev DT:=Yi (Zi Mb)×Zi Mb×Nat×Nat×Nat
section
variable (x y:Zi Mb)
noncomputable def dn(o:Zi Mb)(i j:Nat):Zi Mb:=o++x.extract i x.size++y.extract j y.size
noncomputable def ls(o:Zi Mb)(i j:Nat):Zi Mb:=o++y.extract j y.size++x.extract i x.size
noncomputable def ET(o:Zi Mb)(i j g ac a:Nat):StateT Nb Sem (ForInStep bE):=do
 let z<-Nc x i
 if (i+1+1==x.size)=Ul then pure (.done (O<|ls x y (o.push z) (i+1) j,o.push z,i+1,j,g,ac,a))
 else if (Uo (ac<7)&&Uo (a<7))=Ul then pure (.done (U,o.push z,i+1,j,g,ac,a))
 else pure (.yield (U,o.push z,i+1,j,g,ac,a))
noncomputable def FT(o:Zi Mb)(i j g ac a:Nat):StateT Nb Sem (ForInStep bE):=do
 let z<-Nc y j
 if (j+1==y.size)=Ul then pure (.done (O<|dn x y (o.push z) i<|j+1,o.push z,i,j+1,g,ac,a))
 else do
  let u<-Nc x i
  let O k<-ck Ul u y (j+1) (y.size-(j+1)) 0|pure (.done (O<|dn x y (o.push z) i<|j+1,o.push z,i,j+1,g,ac,a))
  if k > 0 then
   if (j+1+k==y.size)=Ul then pure (.done (O<|dn x y (o.push z++y.extract (j+1) (j+1+k)) i<|j+1+k,o.push z++y.extract (j+1) (j+1+k),i,j+1+k,g,ac,k))
   else ET x y (o.push z++y.extract (j+1) (j+1+k)) i (j+1+k) g ac k
  else ET x y (o.push z) i (j+1) g ac k
noncomputable def IT(o:Zi Mb)(i j g ac a:Nat):StateT Nb Sem (ForInStep bE):=do
 modify λv=>BW v g
 let z<-Nc y j
 let O k<-ck Um z x i (x.size-i) 0|pure (.done (O<|dn x y o i j,o,i,j,g,ac,a))
 if k > 0 then
   if (i+k+1==x.size)=Ul then pure (.done (O<|ls x y (o++x.extract i (i+k)) (i+k) j,o++x.extract i (i+k),i+k,j,g,k,a))
   else if (i+k==x.size)=Ul then pure (.done (O<|dn x y (o++x.extract i (i+k)) (i+k) j,o++x.extract i (i+k),i+k,j,g,k,a))
   else FT x y (o++x.extract i (i+k)) (i+k) j g k a
 else FT x y o i j g k a
noncomputable def f'(t:bE):StateT Nb Sem (ForInStep bE) :=
 if t.2.2.2.2.1 > 1 then IT x y t.2.1 t.2.2.1 t.2.2.2.1 (t.2.2.2.2.1-1) t.2.2.2.2.2.1 t.2.2.2.2.2.2
 else IT x y t.2.1 t.2.2.1 t.2.2.2.1 t.2.2.2.2.1 t.2.2.2.2.2.1 t.2.2.2.2.2.2
noncomputable def A'(g:Nat)(t:CT):StateT Nb Sem (ForInStep CT):=do
 let z<-Nc y t.2.2.2.1
 let u<-Nc x t.2.2.1
 let O yw<-lt' z u|pure (.done (O<|dn x y t.2.1 t.2.2.1 t.2.2.2.1,t.2.1,t.2.2.1,t.2.2.2.1,t.2.2.2.2.1,t.2.2.2.2.2))
 if yw=Ul then do
   let z<-Nc y t.2.2.2.1
   if (t.2.2.2.1+1==y.size)=Ul then pure (.done (O<|dn x y (t.2.1.push z) t.2.2.1<|t.2.2.2.1+1,t.2.1.push z,t.2.2.1,t.2.2.2.1+1,0,t.2.2.2.2.2+1))
   else if t.2.2.2.2.2+1 ≥ g then pure (.done (U,t.2.1.push z,t.2.2.1,t.2.2.2.1+1,0,t.2.2.2.2.2+1))
   else pure (.yield (U,t.2.1.push z,t.2.2.1,t.2.2.2.1+1,0,t.2.2.2.2.2+1))
 else do
   let z<-Nc x t.2.2.1
   if (t.2.2.1+1+1==x.size)=Ul then pure (.done (O<|ls x y (t.2.1.push z) (t.2.2.1+1) t.2.2.2.1,t.2.1.push z,t.2.2.1+1,t.2.2.2.1,t.2.2.2.2.1+1,0))
   else if t.2.2.2.2.1+1 ≥ g then pure (.done (U,t.2.1.push z,t.2.2.1+1,t.2.2.2.1,t.2.2.2.2.1+1,0))
   else pure (.yield (U,t.2.1.push z,t.2.2.1+1,t.2.2.2.1,t.2.2.2.2.1+1,0))
noncomputable def JT(t:DT):StateT Nb Sem (ForInStep DT):=do
 let v<-forIn [:x.size+y.size] ((U,t.2.1,t.2.2.1,t.2.2.2.1,0,0):CT) λ_ v=>A' x y t.2.2.2.2 v
 match v.1 with
 |some r=>pure<|.done (O r,v.2.1,v.2.2.1,v.2.2.2.1,t.2.2.2.2)
 |none=>do
  liftM (rule "list.sort.gallop")
  let u<-forIn [:x.size+y.size] ((U,v.2.1,v.2.2.1,v.2.2.2.1,t.2.2.2.2+1,v.2.2.2.2.1,v.2.2.2.2.2):bE) λ_ u=>f' x y u
  match u.1 with
  |some r=>pure<|.done (O r,u.2.1,u.2.2.1,u.2.2.2.1,u.2.2.2.2.1)
  |none=>do
   modify λz=>BW z (u.2.2.2.2.1+1)
   pure (.yield (U,u.2.1,u.2.2.1,u.2.2.2.1,u.2.2.2.2.1+1))
end
theorem cE(x y:Zi Mb):yT x y=(do
    rule "list.sort.merge-lo"
    let tt:=x.size+y.size
    let dn (o:Zi Mb) (i j:Nat):=o++x.extract i x.size++y.extract j y.size
    let ls (o:Zi Mb) (i j:Nat):=o++y.extract j y.size++x.extract i x.size
    let mut o:Zi Mb:=#[<-Nc y 0]
    let mut i:=0
    let mut j:=1
    if j==y.size then return dn o i j
    if i+1==x.size then return ls o i j
    let mut g:=Ci (<-get)
    for _ in [0:tt] do
      let mut ac:=0
      let mut bc:=0
      for _ in [0:tt] do
        let O yw<-lt' (<-Nc y j) (<-Nc x i)|return dn o i j
        if yw then
          o:=o.push (<-Nc y j);j:=j+1;bc:=bc+1;ac:=0
          if j==y.size then return dn o i j
          if bc ≥ g then break
        else
          o:=o.push (<-Nc x i);i:=i+1;ac:=ac+1;bc:=0
          if i+1==x.size then return ls o i j
          if ac ≥ g then break
      rule "list.sort.gallop"
      g:=g+1
      for _ in [0:tt] do
        if g > 1 then g:=g-1
        modify (BW · g)
        let O k<-ck Um (<-Nc y j) x i (x.size-i) 0|return dn o i j
        ac:=k
        if k > 0 then
          o:=o++x.extract i (i+k);i:=i+k
          if i+1==x.size then return ls o i j
          if i==x.size then return dn o i j
        o:=o.push (<-Nc y j);j:=j+1
        if j==y.size then return dn o i j
        let O k<-ck Ul (<-Nc x i) y j (y.size-j) 0|return dn o i j
        bc:=k
        if k > 0 then
          o:=o++y.extract j (j+k);j:=j+k
          if j==y.size then return dn o i j
        o:=o.push (<-Nc x i);i:=i+1
        if i+1==x.size then return ls o i j
        if ac<7&&bc<7 then break
      g:=g+1
      modify (BW · g)
    Sf "internal:list.sort.merge-bound"):=rfl
theorem KN(x y:Zi Mb):yT x y=(do
    liftM (rule "list.sort.merge-lo")
    let z<-Nc y 0
    if (1==y.size)=Ul then pure (dn x y #[z] 0 1)
    else if (0+1==x.size)=Ul then pure (ls x y #[z] 0 1)
    else do
      let s<-get
      let v<-forIn [:x.size+y.size] ((U,#[z],0,1,Ci s):DT) λ_ v=>JT x y v
      match v.1 with
      |some r=>pure r
      |none=>Sf "internal:list.sort.merge-bound"):=by
 rw[cE];dsimp only;refine Rb (bind _)<|funext λ_=>?_;refine Rb (bind _)<|funext λz=>?_;refine congr (Rb _ Z) ?_;refine congr (Rb _ Z) ?_;refine Rb (bind _)<|funext λs=>?_;refine congr (Rb bind ?A) (funext λv=>by obtain⟨r,v⟩:=v;cases r<;>rfl);refine Rb _<|funext λ_=>funext λv=>?_;unfold JT;refine congr (Rb bind Z)<|funext λv=>?_;obtain⟨r,v⟩:=v;cases r with
 |some r=>rfl
 |none=>refine Rb (bind _)<|funext λ_=>?_;refine congr (Rb bind ?A2) (funext λv=>by obtain⟨r,v⟩:=v;cases r<;>rfl);rfl
section
variable {x y o:Zi α}{i j k:Nat}
theorem RV:(x.extract i x.size).toList=x.toList.drop i:=by rw[v5,N4,Y1<|by simp]
theorem RI:(x.extract i<|i+k).toList=(x.toList.drop i).take k:=by rw[v5,N4,K3]
theorem dJ(h:v∈x.toList.drop i):∃(n:Nat) (a:n<x.size),i<=n/\v=x[n]:=by obtain⟨n,a,e⟩:=Y4 h;rw[K2,Z0]at a;refine⟨i+n,k7 a,B1 _ _,?_⟩;rw[<-e,List.getElem_drop,A4]
theorem gW(h:v∈(x.toList.drop i).take k):∃(n:Nat) (a:n<x.size),i<=n/\n<i+k/\v=x[n]:=by obtain⟨n,a,e⟩:=Y4 h;rw[E2,K2,Z0]at a;refine⟨i+n,by omega,B1 _ _,by lia,?_⟩;rw[<-e,List.getElem_take,List.getElem_drop,A4]
end
theorem dE(x y o:Zi Mb)(i j:Nat):(dn x y o i j).toList=o.toList++x.toList.drop i++y.toList.drop j:=by unfold dn;rw[T3,T3,RV,RV]
theorem eE(x y o:Zi Mb)(i j:Nat):(ls x y o i j).toList=o.toList++y.toList.drop j++x.toList.drop i:=by unfold ls;rw[T3,T3,RV,RV]
section
variable {w:Wb}{κ:Vc}{rk:Mb->Nat}{S:Mb->Prop}{x y:Zi Mb}
abbrev uH(rk:Mb->Nat):Mb->Mb->Prop:=λa b=>rk a<=rk b
structure Hy(rk:Mb->Nat)(S:Mb->Prop)(x y:Zi Mb):Prop where
 hx:x.toList.Pairwise (uH rk)
 hy:y.toList.Pairwise (uH rk)
 Sx:∀i (h:i<x.size),S x[i]
 Sy:∀i (h:i<y.size),S y[i]
 x0:0<x.size
 y0:0<y.size
 hl:∀i (h:i<y.size),rk y[i]<=rk x[x.size-1]
 hf:∀i (h:i<x.size),rk y[0]<=rk x[i]
theorem HJ(h:x.toList.Pairwise (uH rk)){i j:Nat}(b:j<x.size)(c:i<=j):rk (x[i]'(R0 c b))<=rk x[j]:=by
 rcases m8 i j with a|a
 .have:=O4.mp h i j (by simpa using (by lia:i<x.size)) (by simpa using b) a;simpa using this
 .have:i=j:=S4 c a;subst this;exact A0 _
def Po(rk:Mb->Nat)(x y r:Zi Mb):Prop:=r.toList.Perm (x.toList++y.toList)/\r.toList.Pairwise (uH rk)
theorem eD(H:Hy rk S x y){o:Zi Mb}{i j:Nat}(m:Mg (uH rk) x.toList y.toList o.toList i j)(h:y.size<=j\/x.size<=i):Po rk x y (dn x y o i j):=by
 unfold Po;rw[dE];refine m.fin H.hx H.hy λv a u b=>?_;obtain⟨n,c,n1,_⟩:=dJ a;obtain⟨k,d,e,_⟩:=dJ b
 lia
theorem dj(H:Hy rk S x y){o:Zi Mb}{i j:Nat}(m:Mg (uH rk) x.toList y.toList o.toList i j)(h:i+1=x.size):Po rk x y (ls x y o i j):=by
 unfold Po;rw[eE];refine m.finC H.hx H.hy λv a u b=>?_;obtain⟨n,c,n1,rfl⟩:=dJ a;obtain⟨k,d,e,rfl⟩:=dJ b;have:k=x.size-1:=by lia
 subst this;exact H.hl n c
theorem VH(o:Zi α)(z:α):(o.push z).toList=o.toList++[z]:=Q9
structure J(rk:Mb->Nat)(x y:Zi Mb)(N:Nat)(o:Zi Mb)(i j:Nat):Prop where
 m:Mg (uH rk) x.toList y.toList o.toList i j
 hi:i+1<x.size
 hj:j<y.size
 hN:N<=i+j
theorem J.pushX(H:Hy rk S x y){N:Nat}{o:Zi Mb}{i j:Nat}(m:Mg (uH rk) x.toList y.toList o.toList i j)(hi:i<x.size)(h:∀n (a:n<y.size),j<=n->rk x[i]<=rk y[n]):Mg (uH rk) x.toList y.toList (o.push x[i]).toList (i+1) j:=by
 rw[VH];have:=m.oneA H.hx (by simpa using hi) λv b=>by obtain⟨n,a,n1,rfl⟩:=dJ b;simpa using h n a n1
 simpa using this
theorem J.pushY(H:Hy rk S x y){N:Nat}{o:Zi Mb}{i j:Nat}(m:Mg (uH rk) x.toList y.toList o.toList i j)(b:j<y.size)(h:∀n (a:n<x.size),i<=n->rk y[j]<=rk x[n]):Mg (uH rk) x.toList y.toList (o.push y[j]).toList i (j+1):=by
 rw[VH];have:=m.comm.oneA H.hy (by simpa using b) λv c=>by obtain⟨n,a,n1,rfl⟩:=dJ c;simpa using h n a n1
 have:=this.comm;simpa using this
def RT(rk:Mb->Nat)(x y:Zi Mb)(N:Nat)(c:bE):Prop:=(∃t,c.1=O t/\Po rk x y t)\/(c.1=U/\J rk x y N c.2.1 c.2.2.1 c.2.2.2.1)
def Gs(z a:Nb):Prop:=∃g,a=BW z g
theorem Gs.refl(z:Nb):Gs z z:=⟨Ci z,Z⟩
theorem Gs.set{z:Nb}(h:Gs z z')(g:Nat):Gs z (BW z' g):=by obtain⟨_,rfl⟩:=h;exact⟨g,Z⟩
theorem Gs.kind{z:Nb}(h:Gs z z'):kindOf z'=kindOf z:=by obtain⟨_,rfl⟩:=h;rfl
def MT(rk:Mb->Nat)(x y:Zi Mb)(N:Nat)(st:Nb)(r:ForInStep bE)(a:Nb):Prop :=
 Gs st a/\match r with
  | .done c=>RT rk x y N c
  | .yield c=>c.1=U/\J rk x y N c.2.1 c.2.2.1 c.2.2.2.1
theorem SI(H:Hy rk S x y){N:Nat}{o:Zi Mb}{i j g ac c:Nat}{st d:Nb}(b:Gs st d)(m:Mg (uH rk) x.toList y.toList o.toList i j)(hi:i+1<x.size)(q:j<y.size)(hN:N<=i+j+1)(h:∀n (t:n<y.size),j<=n->rk (x[i]'(K5 hi))<=rk y[n]):wpS (Kb prog w) A E s (ET x y o i j g ac c) (MT rk x y N st) d:=by
 unfold ET;have e:=J.pushX H (N:=N) m (W6 hi) h;refine Jb<|sZ (by lia) ?_;by_cases a:i+1+1=x.size
 .rw[Ib<|by simpa using a];exact Lb ⟨b,.inl ⟨_,Z,dj H e a⟩⟩
 .rw[if_neg<|by simpa using a];have k:J rk x y N (o.push<|x[i]'(K5 hi)) (i+1) j:=⟨e,A3 hi a,q,q0 hN<|A1<|Nat.add_right_comm _ _ _⟩;by_cases l:(Uo (ac<7)&&Uo (c<7))=Ul
  .rw[Ib l];exact Lb ⟨b,.inr ⟨Z,k⟩⟩
  .rw[if_neg l];exact Lb ⟨b,Z,k⟩
theorem UI(q:NJ prog w A s κ rk S)(H:Hy rk S x y){N:Nat}{o:Zi Mb}{i j g ac I:Nat}{st B:Nb}(L:kindOf st=κ)(d:Gs st B)(m:Mg (uH rk) x.toList y.toList o.toList i j)(hi:i+1<x.size)(hj:j<y.size)(hN:N<=i+j+1)
  (h:∀n (c:n<x.size),i<=n->rk (y[j]'(by omega))<=rk x[n]):wpS (Kb prog w) A E s (FT x y o i j g ac I) (MT rk x y N st) B:=by
 unfold FT;have l:=J.pushY H (N:=N) m hj h;refine Jb<|sZ hj ?_;by_cases e:j+1=y.size
 .rw[Ib<|by simpa using e];exact Lb ⟨d,.inl ⟨_,Z,eD H l<|.inl<|A1 e.symm⟩⟩
 .rw[if_neg<|by simpa using e];refine Jb<|sZ (by lia) ?_;refine Jb<|kK q (d.kind.trans L) (H.Sx _ _) H.Sy (A1<|m4 hj) (λa b M P _ _=>HJ H.hy M P) (R9<|A3 hj e) λk kn R C=>?_;dsimp only;by_cases F:k > 0
  .rw[Ib F];have G:Mg (uH rk) x.toList y.toList (o.push (y[j]'hj)++y.extract (j+1) (j+1+k)).toList i (j+1+k):=by
    rw[T3,RI];refine(l.comm.takeA H.hy k λv Y u hu=>?_).comm;obtain⟨n,c,n1,n2,rfl⟩:=gW Y;obtain⟨p,hp,p1,rfl⟩:=dJ hu;have:=R n c n1 n2;rw[Ib Z]at this;have:=HJ H.hx hp p1;show rk _<=rk _;exact q0 (V0 ‹_›) this
   by_cases t:j+1+k=y.size
   .rw[Ib<|by simpa using t];exact Lb ⟨d,.inl ⟨_,Z,eD H G<|.inl<|A1 t.symm⟩⟩
   .rw[if_neg<|by simpa using t];refine SI H d G hi (by omega) (by lia) λn c n1=>?_;have:=C n c (by omega)<|X6.1<|Z5 c _;rw[Ib Z]at this;exact this
  .rw[if_neg F];refine SI H d l hi (A3 hj e) (Z4 hN) λn c n1=>?_;have:=C n c (by lia)<|X6.1<|Z5 c _;rw[Ib Z]at this;exact this
theorem VI(q:NJ prog w A s κ rk S)(H:Hy rk S x y){N:Nat}{o:Zi Mb}{i j g ac L:Nat}{st F:Nb}(e:kindOf st=κ)(M:Gs st F)(m:Mg (uH rk) x.toList y.toList o.toList i j)(hi:i+1<x.size)(l:j<y.size)(hN:N<=i+j+1):wpS (Kb prog w) A E s (IT x y o i j g ac L) (MT rk x y N st) F:=by
 unfold IT;refine Jb<|Nd ?_;have d:=M.set g;refine Jb<|sZ l ?_;refine Jb<|kK q (d.kind.trans e) (H.Sy _ _) H.Sx (by lia) (λa b P R _ _=>HJ H.hx P R) (R9<|K5 hi) λk kn Y G=>?_;dsimp only;by_cases I:k > 0
 .rw[Ib I];have t:Mg (uH rk) x.toList y.toList (o++x.extract i (i+k)).toList (i+k) j:=by
   rw[T3,RI];refine m.takeA H.hx k λv hv u hu=>?_;obtain⟨n,c,n1,n2,rfl⟩:=gW hv;obtain⟨p,hp,p1,rfl⟩:=dJ hu;have:=Y n c n1 n2;rw[if_neg<|by decide]at this;have:=HJ H.hy hp p1;show rk _<=rk _;exact q0 ‹_› this
  by_cases B:i+k+1=x.size
  .rw[Ib<|by simpa using B];exact Lb ⟨d,.inl ⟨_,Z,dj H t B⟩⟩
  .rw[if_neg<|by simpa using B];by_cases C:i+k=x.size
   .rw[Ib<|by simpa using C];exact Lb ⟨d,.inl ⟨_,Z,eD H t<|.inr<|A1 C.symm⟩⟩
   .rw[if_neg<|by simpa using C];refine UI q H e d t (by lia) l (by lia) λn c n1=>?_;have:=G n c (by omega)<|X6.1<|Z5 c _;rw[if_neg<|by decide]at this;exact V0 this
 .rw[if_neg I];refine UI q H e d m hi l (by omega) λn c n1=>?_;have:=G n c (by lia)<|X6.1<|Z5 c _;rw[if_neg<|by decide]at this;exact V0 this
theorem LR(q:NJ prog w A s κ rk S)(H:Hy rk S x y){N:Nat}{c:bE}{st b:Nb}(d:kindOf st=κ)(e:Gs st b)(a:J rk x y N c.2.1 c.2.2.1 c.2.2.2.1):wpS (Kb prog w) A E s (f' x y c) (MT rk x y (N+1) st) b:=by
 unfold f';have:=a.hN;split
 .exact VI q H d e a.m a.hi a.hj (Q7 this)
 .exact VI q H d e a.m a.hi a.hj (Q7 this)
theorem MR(q:NJ prog w A s κ rk S)(H:Hy rk S x y){N g:Nat}{c:CT}{st:Nb}(j:kindOf st=κ)(k:J rk x y N c.2.1 c.2.2.1 c.2.2.2.1) :
  wpS (Kb prog w) A E s (A' x y g c) (λr l=>l=st/\match r with
    | .done c=>(∃t,c.1=O t/\Po rk x y t)\/(c.1=U/\J rk x y (N+1) c.2.1 c.2.2.1 c.2.2.2.1)
    | .yield c=>c.1=U/\J rk x y (N+1) c.2.1 c.2.2.1 c.2.2.2.1) st:=by
 unfold A';obtain⟨m,hi,hj,hN⟩:=k;refine Jb<|sZ hj ?_;refine Jb<|sZ (K5 hi) ?_;refine Jb<|w_lt q j (H.Sy _ _) (H.Sx _ _) ?_;dsimp only;by_cases e:rk (y[c.2.2.2.1]'hj)<rk (x[c.2.2.1]'(W6 hi))
 .rw[Ib<|by simpa using e];have b:=J.pushY H (N:=N) m hj λn i n1=>by have:=HJ H.hx i n1;exact V0<|v0 e this
  refine Jb<|sZ hj ?_;by_cases a:c.2.2.2.1+1=y.size
  .rw[Ib<|by simpa using a];exact Lb ⟨Z,.inl ⟨_,Z,eD H b<|.inl<|A1 a.symm⟩⟩
  .rw[if_neg<|by simpa using a];have d:J rk x y (N+1) (c.2.1.push<|y[c.2.2.2.1]'hj) c.2.2.1 (c.2.2.2.1+1):=⟨b,hi,A3 hj a,q0 (A5 hN _)<|A1<|T4 _ _ _⟩;split
   .exact Lb ⟨Z,.inr ⟨Z,d⟩⟩
   .exact Lb ⟨Z,Z,d⟩
 .rw[if_neg<|by simpa using e];have b:=J.pushX H (N:=N) m (by lia) λn i n1=>by have:=HJ H.hy i n1;exact q0 (T1 e) this
  refine Jb<|sZ (by lia) ?_;by_cases a:c.2.2.1+1+1=x.size
  .rw[Ib<|by simpa using a];exact Lb ⟨Z,.inl ⟨_,Z,dj H b a⟩⟩
  .rw[if_neg<|by simpa using a];have d:J rk x y (N+1) (c.2.1.push<|x[c.2.2.1]'(K5 hi)) (c.2.2.1+1) c.2.2.2.1:=⟨b,A3 hi a,hj,q0 (A5 hN _)<|A1<|Nat.add_right_comm _ _ _⟩;split
   .exact Lb ⟨Z,.inr ⟨Z,d⟩⟩
   .exact Lb ⟨Z,Z,d⟩
theorem NR(q:NJ prog w A s κ rk S)(H:Hy rk S x y){N:Nat}{c:DT}{st b:Nb}(j:kindOf st=κ)(i:Gs st b)(l:J rk x y N c.2.1 c.2.2.1 c.2.2.2.1) :
  wpS (Kb prog w) A E s (JT x y c) (λr b=>Gs st b/\match r with
    | .done c=>∃t,c.1=O t/\Po rk x y t
    | .yield c=>c.1=U/\J rk x y (N+1) c.2.1 c.2.2.1 c.2.2.2.1) b:=by
 unfold JT;refine Jb<|Pc (Hc (I:=λn c a=>a=b/\c.1=U/\J rk x y (N+n) c.2.1 c.2.2.1 c.2.2.2.1)
   (Q:=λc a=>a=b/\((∃t,c.1=O t/\Po rk x y t)\/(c.1=U/\J rk x y N c.2.1 c.2.2.1 c.2.2.2.1))) ?step ?fin ⟨Z,Z,l⟩) ?post
 case fin =>
  rintro c a ⟨rfl,_,h⟩;have v:=h.hi;have B:=h.hj;have C:=h.hN
  lia
 case step =>
  rintro n c a _ _ ⟨rfl,_,h⟩;refine Pc (MR q H (i.kind.trans j) h) ?_;rintro r F ⟨rfl,h⟩;cases r with
  |done c=>refine⟨Z,h.imp id λh=>⟨h.1,h.2.m,h.2.hi,h.2.hj,?_⟩⟩;have:=h.2.hN;exact V0<|R0 (B1 _ _) this
  |yield c=>exact⟨Z,h.1,h.2⟩
 case post =>
  rintro c a ⟨rfl,h⟩;obtain⟨r,c⟩:=c;rcases h with⟨t,e,h⟩|⟨e,h⟩
  .cases e;exact Lb ⟨i,_,Z,h⟩
  .cases e;dsimp only;refine Jb<|Eg<|Qc ⟨Z,?_⟩;refine Jb<|Pc (Hc (I:=λn c a=>Gs st a/\c.1=U/\J rk x y (N+n) c.2.1 c.2.2.1 c.2.2.2.1)
     (Q:=λc a=>Gs st a/\RT rk x y (N+1) c) ?step2 ?fin2 ⟨i,Z,h⟩) ?post2
   case fin2 =>
    rintro c a ⟨_,_,h⟩;have v:=h.hi;have B:=h.hj;have C:=h.hN
    lia
   case step2 =>
    rintro n c a _ _ ⟨d,_,h⟩;refine Pc (LR q H j d h) ?_;rintro r F ⟨k,h⟩;cases r with
    |done c=>refine⟨k,Or.imp id (λh=>⟨h.1,h.2.m,h.2.hi,h.2.hj,?_⟩) h⟩;have:=h.2.hN;exact R0 (B1 _ _) this
    |yield c=>exact⟨k,h.1,h.2⟩
   case post2 =>
    rintro c a ⟨d,h⟩;obtain⟨r,c⟩:=c;rcases h with⟨t,e,h⟩|⟨e,h⟩
    .cases e;exact Lb ⟨d,_,Z,h⟩
    .cases e;exact Jb<|Nd<|Lb ⟨d.set _,Z,h⟩
theorem OR(q:NJ prog w A s κ rk S)(H:Hy rk S x y){st:Nb}{Q:Zi Mb->Nb->Prop}(B:kindOf st=κ)(h:∀r m,Gs st m->Po rk x y r->Q r m):wpS (Kb prog w) A E s (yT x y) Q st:=by
 rw[KN];refine Jb<|Eg<|Qc ⟨Z,?_⟩;refine Jb<|sZ H.y0 ?_;have C:Mg (uH rk) x.toList y.toList (#[]:Zi Mb).toList 0 0:=⟨by simp,by simp,by simp,by simp⟩;have i:=J.pushY H (N:=0) C H.y0 λn F _=>H.hf n F;have G:(#[]:Zi Mb).push (y[0]'H.y0)=#[y[0]'H.y0]:=rfl;rw[G]at i;have j:=H.y0;have k:=H.x0;by_cases b:1=y.size
 .rw[Ib<|by simpa using b];exact Lb<|h _ _ (Gs.refl _)<|eD H i<|.inl<|A1 b.symm
 .rw[if_neg<|by simpa using b];by_cases d:0+1=x.size
  .rw[Ib<|by simpa using d];exact Lb<|h _ _ (Gs.refl _)<|dj H i d
  .rw[if_neg<|by simpa using d];refine Jb<|Bf ?_;refine Jb<|Pc (Hc (I:=λn c a=>Gs st a/\c.1=U/\J rk x y n c.2.1 c.2.2.1 c.2.2.2.1)
     (Q:=λc a=>Gs st a/\∃t,c.1=O t/\Po rk x y t) ?step ?fin ⟨Gs.refl _,Z,i,by show 0+1<x.size;exact A3 k d,by show 1<y.size;exact A3 j b,V2 _⟩) ?post
   case fin =>
    rintro c a ⟨_,_,h⟩;have b:=h.hi;have d:=h.hj;have L:=h.hN
    lia
   case step =>
    rintro n c a _ _ ⟨l,_,h⟩;refine Pc (NR q H B l h) ?_;rintro r M ⟨v,h⟩;cases r with
    |done c=>exact⟨v,h⟩
    |yield c=>exact⟨v,h⟩
   case post=>rintro c a ⟨l,t,e,hP⟩;obtain⟨r,c⟩:=c;cases e;exact Lb<|h _ _ l hP
end
noncomputable abbrev fE:=Yi (Zi Mb)×Nat×Nat×Zi Mb×Nat×Nat×Nat
noncomputable abbrev NT:=Yi (Zi Mb)×Nat×Nat×Zi Mb×Nat×Nat
noncomputable abbrev OT:=Yi (Zi Mb)×Nat×Nat×Zi Mb×Nat
section
variable (x y:Zi Mb)
noncomputable def DB(o:Zi Mb)(i j:Nat):Zi Mb:=x.extract 0 i++y.extract 0 j++o.reverse
noncomputable def ZO(o:Zi Mb)(i j:Nat):Zi Mb:=y.extract 0 j++x.extract 0 i++o.reverse
noncomputable def hi2(i j:Nat)(o:Zi Mb)(g ac a:Nat):StateT Nb Sem (ForInStep fE):=do
 let z<-Nc x (i-1)
 if (i-1==0)=Ul then pure (.done (O<|DB x y (o.push z) (i-1) j,i-1,j,o.push z,g,ac,a))
 else if (Uo (ac<7)&&Uo (a<7))=Ul then pure (.done (U,i-1,j,o.push z,g,ac,a))
 else pure (.yield (U,i-1,j,o.push z,g,ac,a))
noncomputable def hi1(i j:Nat)(o:Zi Mb)(g ac a:Nat):StateT Nb Sem (ForInStep fE):=do
 let z<-Nc y (j-1)
 if (j-1==1)=Ul then pure (.done (O<|ZO x y (o.push z) i<|j-1,i,j-1,o.push z,g,ac,a))
 else do
  let u<-Nc x (i-1)
  let O p<-ck Ul u y 0 (j-1) (j-1-1)|pure (.done (O<|DB x y (o.push z) i<|j-1,i,j-1,o.push z,g,ac,a))
  if j-1-p > 0 then
   if (p==1)=Ul then pure (.done (O<|ZO x y (o.push z++(y.extract p<|j-1).reverse) i p,i,p,o.push z++(y.extract p<|j-1).reverse,g,ac,j-1-p))
   else if (p==0)=Ul then pure (.done (O<|DB x y (o.push z++(y.extract p<|j-1).reverse) i p,i,p,o.push z++(y.extract p<|j-1).reverse,g,ac,j-1-p))
   else hi2 x y i p (o.push z++(y.extract p<|j-1).reverse) g ac (j-1-p)
  else hi2 x y i (j-1) (o.push z) g ac (j-1-p)
noncomputable def QT(i j:Nat)(o:Zi Mb)(g ac a:Nat):StateT Nb Sem (ForInStep fE):=do
 modify λv=>BW v g
 let z<-Nc y (j-1)
 let O p<-ck Um z x 0 i (i-1)|pure (.done (O<|DB x y o i j,i,j,o,g,ac,a))
 if i-p > 0 then
   if (p==0)=Ul then pure (.done (O<|DB x y (o++(x.extract p i).reverse) p j,p,j,o++(x.extract p i).reverse,g,i-p,a))
   else hi1 x y p j (o++(x.extract p i).reverse) g (i-p) a
 else hi1 x y i j o g (i-p) a
noncomputable def B'(t:fE):StateT Nb Sem (ForInStep fE) :=
 if t.2.2.2.2.1 > 1 then QT x y t.2.1 t.2.2.1 t.2.2.2.1 (t.2.2.2.2.1-1) t.2.2.2.2.2.1 t.2.2.2.2.2.2
 else QT x y t.2.1 t.2.2.1 t.2.2.2.1 t.2.2.2.2.1 t.2.2.2.2.2.1 t.2.2.2.2.2.2
noncomputable def G'(g:Nat)(t:NT):StateT Nb Sem (ForInStep NT):=do
 let z<-Nc y (t.2.2.1-1)
 let u<-Nc x (t.2.1-1)
 let O xw<-lt' z u|pure (.done (O<|DB x y t.2.2.2.1 t.2.1 t.2.2.1,t.2.1,t.2.2.1,t.2.2.2.1,t.2.2.2.2.1,t.2.2.2.2.2))
 if xw=Ul then do
   let z<-Nc x (t.2.1-1)
   if (t.2.1-1==0)=Ul then pure (.done (O<|DB x y (t.2.2.2.1.push z) (t.2.1-1) t.2.2.1,t.2.1-1,t.2.2.1,t.2.2.2.1.push z,t.2.2.2.2.1+1,0))
   else if t.2.2.2.2.1+1 ≥ g then pure (.done (U,t.2.1-1,t.2.2.1,t.2.2.2.1.push z,t.2.2.2.2.1+1,0))
   else pure (.yield (U,t.2.1-1,t.2.2.1,t.2.2.2.1.push z,t.2.2.2.2.1+1,0))
 else do
   let z<-Nc y (t.2.2.1-1)
   if (t.2.2.1-1==1)=Ul then pure (.done (O<|ZO x y (t.2.2.2.1.push z) t.2.1<|t.2.2.1-1,t.2.1,t.2.2.1-1,t.2.2.2.1.push z,0,t.2.2.2.2.2+1))
   else if t.2.2.2.2.2+1 ≥ g then pure (.done (U,t.2.1,t.2.2.1-1,t.2.2.2.1.push z,0,t.2.2.2.2.2+1))
   else pure (.yield (U,t.2.1,t.2.2.1-1,t.2.2.2.1.push z,0,t.2.2.2.2.2+1))
noncomputable def UT(t:OT):StateT Nb Sem (ForInStep OT):=do
 let v<-forIn [:x.size+y.size] ((U,t.2.1,t.2.2.1,t.2.2.2.1,0,0):NT) λ_ v=>G' x y t.2.2.2.2 v
 match v.1 with
 |some r=>pure<|.done (O r,v.2.1,v.2.2.1,v.2.2.2.1,t.2.2.2.2)
 |none=>do
  liftM (rule "list.sort.gallop")
  let u<-forIn [:x.size+y.size] ((U,v.2.1,v.2.2.1,v.2.2.2.1,t.2.2.2.2+1,v.2.2.2.2.1,v.2.2.2.2.2):fE) λ_ u=>B' x y u
  match u.1 with
  |some r=>pure<|.done (O r,u.2.1,u.2.2.1,u.2.2.2.1,u.2.2.2.2.1)
  |none=>do
   modify λz=>BW z (u.2.2.2.2.1+1)
   pure (.yield (U,u.2.1,u.2.2.1,u.2.2.2.1,u.2.2.2.2.1+1))
end
theorem iE(x y:Zi Mb):AT x y=(do
    rule "list.sort.merge-hi"
    let tt:=x.size+y.size
    let dn (o:Zi Mb) (i j:Nat):=x.extract 0 i++y.extract 0 j++o.reverse
    let fs (o:Zi Mb) (i j:Nat):=y.extract 0 j++x.extract 0 i++o.reverse
    let mut i:=x.size-1
    let mut j:=y.size
    let mut o:Zi Mb:=#[<-Nc x i]
    if i==0 then return dn o i j
    if j==1 then return fs o i j
    let mut g:=Ci (<-get)
    for _ in [0:tt] do
      let mut ac:=0
      let mut bc:=0
      for _ in [0:tt] do
        let O xw<-lt' (<-Nc y (j-1)) (<-Nc x (i-1))|return dn o i j
        if xw then
          i:=i-1;o:=o.push (<-Nc x i);ac:=ac+1;bc:=0
          if i==0 then return dn o i j
          if ac ≥ g then break
        else
          j:=j-1;o:=o.push (<-Nc y j);bc:=bc+1;ac:=0
          if j==1 then return fs o i j
          if bc ≥ g then break
      rule "list.sort.gallop"
      g:=g+1
      for _ in [0:tt] do
        if g > 1 then g:=g-1
        modify (BW · g)
        let O p<-ck Um (<-Nc y (j-1)) x 0 i (i-1)|return dn o i j
        let k:=i-p
        ac:=k
        if k > 0 then
          o:=o++(x.extract p i).reverse;i:=p
          if i==0 then return dn o i j
        j:=j-1;o:=o.push (<-Nc y j)
        if j==1 then return fs o i j
        let O p<-ck Ul (<-Nc x (i-1)) y 0 j (j-1)|return dn o i j
        let k:=j-p
        bc:=k
        if k > 0 then
          o:=o++(y.extract p j).reverse;j:=p
          if j==1 then return fs o i j
          if j==0 then return dn o i j
        i:=i-1;o:=o.push (<-Nc x i)
        if i==0 then return dn o i j
        if ac<7&&bc<7 then break
      g:=g+1
      modify (BW · g)
    Sf "internal:list.sort.merge-bound"):=rfl
theorem LN(x y:Zi Mb):AT x y=(do
    liftM (rule "list.sort.merge-hi")
    let z<-Nc x (x.size-1)
    if (x.size-1==0)=Ul then pure (DB x y #[z] (x.size-1) y.size)
    else if (y.size==1)=Ul then pure (ZO x y #[z] (x.size-1) y.size)
    else do
      let s<-get
      let v<-forIn [:x.size+y.size] ((U,x.size-1,y.size,#[z],Ci s):OT) λ_ v=>UT x y v
      match v.1 with
      |some r=>pure r
      |none=>Sf "internal:list.sort.merge-bound"):=by
 rw[iE];dsimp only;refine Rb (bind _)<|funext λ_=>?_;refine Rb (bind _)<|funext λz=>?_;refine congr (Rb _ Z) ?_;refine congr (Rb _ Z) ?_;refine Rb (bind _)<|funext λs=>?_;refine congr (Rb bind ?A) (funext λv=>by obtain⟨r,v⟩:=v;cases r<;>rfl);refine Rb _<|funext λ_=>funext λv=>?_;unfold UT;refine congr (Rb bind Z)<|funext λv=>?_;obtain⟨r,v⟩:=v;cases r with
 |some r=>rfl
 |none=>refine Rb (bind _)<|funext λ_=>?_;refine congr (Rb bind ?A2) (funext λv=>by obtain⟨r,v⟩:=v;cases r<;>rfl);rfl
section
variable {x:Zi α}{i j k:Nat}
theorem lK(hi:i<=x.size):x.toList.reverse.drop (x.size-i)=(x.toList.take i).reverse:=by rw[List.drop_reverse,Z0,bQ hi]
theorem pY(hi:i<=x.size)(h:v∈x.toList.reverse.drop (x.size-i)):∃(n:Nat) (a:n<x.size),n<i/\v=x[n]:=by rw[lK hi,dQ]at h;obtain⟨n,a,e⟩:=Y4 h;rw[E2,Z0]at a;refine⟨n,v0 a<|O7 _ _,v0 a<|b9 _ _,?_⟩;rw[<-e,List.getElem_take,A4]
theorem KG(a:k<=i)(hi:i<=x.size):(x.extract k i).reverse.toList=(x.toList.reverse.drop<|x.size-i).take (i-k):=by rw[G7,v5,N4,lK hi,List.take_reverse,E2,Z0,J4 hi,bQ a,List.drop_take]
theorem fj:(x.extract 0 i).toList=x.toList.take i:=by rw[v5,N4,List.drop_zero,Nat.sub_zero]
end
section
variable {w:Wb}{κ:Vc}{rk:Mb->Nat}{S:Mb->Prop}{x y:Zi Mb}
abbrev w_(rk:Mb->Nat):Mb->Mb->Prop:=λa b=>rk b<=rk a
structure MH(rk:Mb->Nat)(x y:Zi Mb)(o:Zi Mb)(i j:Nat):Prop where
 m:Mg (w_ rk) x.toList.reverse y.toList.reverse o.toList (x.size-i) (y.size-j)
 hi:i<=x.size
 hj:j<=y.size
theorem MH.comm{o:Zi Mb}(h:MH rk x y o i j):MH rk y x o j i:=⟨h.m.comm,h.hj,h.hi⟩
theorem MH.chunk(hx:x.toList.Pairwise (uH rk)){o:Zi Mb}{i j p:Nat}(h:MH rk x y o i j)(a:p<=i)(b:∀n (c:n<x.size) k (b:k<y.size),p<=n->n<i->k<j->rk y[k]<=rk x[n]):MH rk x y (o++(x.extract p i).reverse) p j:=by
 have hi:=h.hi;refine⟨?_,q0 a hi,h.hj⟩;rw[T3,KG a hi];have e:x.size-p=x.size-i+(i-p):=Eq.symm<|Nat.sub_add_sub_cancel hi a;rw[e];refine h.m.takeA (V5.mpr hx) (i-p) λv d u l=>?_;obtain⟨k,q,t,rfl⟩:=pY h.hj l;rw[<-KG a hi,G7,dQ,v5,N4]at d;obtain⟨n,c,n1,B,rfl⟩:=gW d;exact b n c k q n1 (v0 B<|A1<|m4 a) t
theorem MH.push(hx:x.toList.Pairwise (uH rk)){o:Zi Mb}{i j:Nat}(h:MH rk x y o i j)(h0:0<i)(a:∀k (a:k<y.size),k<j->rk y[k]<=rk (x[i-1]'(by have:=h.hi;exact Z2 h0<|u4 this))) :
  MH rk x y (o.push<|x[i-1]'(by have:=h.hi;exact v0 (j6 h0<|by decide) this)) (i-1) j:=by
 have hi:=h.hi;have e:o.push (x[i-1]'(Z2 h0<|u4 hi))=o++(x.extract (i-1) i).reverse:=by apply Array.toList_inj.mp;rw[Q9,T3,KG (A7 _ _) hi,show i-(i-1)=1 by lia,W4<|by simp;exact j6 (v0 h0 hi) h0];simp only[List.take_succ_cons,List.take_zero,List.getElem_reverse,A4,Z0];congr 3;exact xa hi
 rw[e];refine h.chunk hx (A7 _ _) λn l k b n1 c d=>?_;have:n=i-1:=S4 (V1 c) n1;subst this;exact a k b d
theorem gj{o r:List Mb}(h:(o++a++b).Perm (x.toList.reverse++y.toList.reverse)/\(o++a++b).Pairwise (w_ rk))(e:r=(o++a++b).reverse):r.Perm (x.toList++y.toList)/\r.Pairwise (uH rk):=by subst e;exact⟨((S9 _).trans h.1).trans<|(S9 _).append<|S9 _,V5.mpr h.2⟩
theorem DU(H:Hy rk S x y){o:Zi Mb}{i j:Nat}(m:MH rk x y o i j)(h:i=0\/j=0):Po rk x y (DB x y o i j):=by
 refine gj (m.m.finC (V5.mpr H.hx) (V5.mpr H.hy) λv a u b=>?_) ?_
 .obtain⟨n,c,n1,_⟩:=pY m.hj a;obtain⟨k,d,e,_⟩:=pY m.hi b
  lia
 .unfold DB;rw[T3,T3,fj,fj,lK m.hi,lK m.hj,G7];simp
theorem LG(H:Hy rk S x y){o:Zi Mb}{i j:Nat}(m:MH rk x y o i j)(h:j=1):Po rk x y (ZO x y o i j):=by
 refine gj (m.m.fin (V5.mpr H.hx) (V5.mpr H.hy) λv a u b=>?_) ?_
 .obtain⟨n,c,n1,rfl⟩:=pY m.hi a;obtain⟨k,e,d,rfl⟩:=pY m.hj b;have:k=0:=mQ (o4<|Nat.succ_pos _)<|v0 d<|A1 h;subst this;exact H.hf n c
 .unfold ZO;rw[T3,T3,fj,fj,lK m.hi,lK m.hj,G7];simp
structure JH(rk:Mb->Nat)(x y:Zi Mb)(N:Nat)(i j:Nat)(o:Zi Mb):Prop where
 m:MH rk x y o i j
 hi:1<=i
 hj:2<=j
 hN:N+i+j<=x.size+y.size
def RH(rk:Mb->Nat)(x y:Zi Mb)(N:Nat)(c:fE):Prop:=(∃t,c.1=O t/\Po rk x y t)\/(c.1=U/\JH rk x y N c.2.1 c.2.2.1 c.2.2.2.1)
def VT(rk:Mb->Nat)(x y:Zi Mb)(N:Nat)(st:Nb)(r:ForInStep fE)(a:Nb):Prop :=
 Gs st a/\match r with
  | .done c=>RH rk x y N c
  | .yield c=>c.1=U/\JH rk x y N c.2.1 c.2.2.1 c.2.2.2.1
theorem XI(H:Hy rk S x y){N:Nat}{o:Zi Mb}{i j g ac c:Nat}{st d:Nb}(b:Gs st d)(m:MH rk x y o i j)(hi:1<=i)(t:2<=j)(hN:N+i+j<=x.size+y.size+1)
  (h:∀n (v:n<y.size),n<j->rk y[n]<=rk (x[i-1]'(by have:=m.hi;exact Z2 hi<|u4 this))):wpS (Kb prog w) A E s (hi2 x y i j o g ac c) (VT rk x y N st) d:=by
 unfold hi2;have e:=m.hi;have k:=m.push H.hx hi h;refine Jb<|sZ (Z2 hi<|u4 e) ?_;by_cases a:i-1=0
 .rw[Ib<|by simpa using a];exact Lb ⟨b,.inl ⟨_,Z,DU H k<|.inl a⟩⟩
 .rw[if_neg<|by simpa using a];have l:JH rk x y N (i-1) j (o.push<|x[i-1]'(v0 (j6 hi<|by decide) e)):=⟨k,Y6.2 a,t,by lia⟩;by_cases q:(Uo (ac<7)&&Uo (c<7))=Ul
  .rw[Ib q];exact Lb ⟨b,.inr ⟨Z,l⟩⟩
  .rw[if_neg q];exact Lb ⟨b,Z,l⟩
theorem YI(q:NJ prog w A s κ rk S)(H:Hy rk S x y){N:Nat}{o:Zi Mb}{i j g ac L:Nat}{st G:Nb}(M:kindOf st=κ)(d:Gs st G)(m:MH rk x y o i j)(hi:1<=i)(e:2<=j)(hN:N+i+j<=x.size+y.size+1)
  (h:∀n (c:n<x.size),n<i->rk x[n]<=rk (y[j-1]'(by have:=m.hj;exact Z2 (V0 e)<|u4 this))):wpS (Kb prog w) A E s (hi1 x y i j o g ac L) (VT rk x y N st) G:=by
 unfold hi1;have de:=m.hi;have P:=m.hj;have t:=(m.comm.push H.hy (K5 e) h).comm;refine Jb<|sZ (Z2 (V0 e)<|u4 P) ?_;by_cases l:j-1=1
 .rw[Ib<|by simpa using l];exact Lb ⟨d,.inl ⟨_,Z,LG H t l⟩⟩
 .rw[if_neg<|by simpa using l];refine Jb<|sZ (by lia) ?_;refine Jb<|kK q (d.kind.trans M) (H.Sx _ _) H.Sy (by lia) (λa b R Y _ _=>HJ H.hy R Y) (j6 (NQ e)<|Z3 _) λp pn k1 k2=>?_;dsimp only;have I:∀n (c:n<y.size),n<p->rk y[n]<rk (x[i-1]'(by lia)):=λn c hp=>by
   have:=k1 n c (V2 _)<|h7 _ hp;rw[Ib Z]at this;exact this
  by_cases v:j-1-p > 0
  .rw[Ib v];have B:=(t.comm.chunk H.hy (p:=p) pn λn c k re n1 n2 n3=>by
     have:=k2 n c (OQ n1<|V2 _)<|h7 _ n2;rw[Ib Z]at this;have:=HJ H.hx (i:=k) (j:=i-1) (by lia)<|V1 n3;exact q0 this ‹_›).comm;by_cases C:p=1
   .rw[Ib<|by simpa using C];exact Lb ⟨d,.inl ⟨_,Z,LG H B C⟩⟩
   .rw[if_neg<|by simpa using C];by_cases F:p=0
    .rw[Ib<|by simpa using F];exact Lb ⟨d,.inl ⟨_,Z,DU H B<|.inr F⟩⟩
    .rw[if_neg<|by simpa using F];exact XI H d B hi (by lia) (Fa hN v) λn c n1=>V0<|I n c n1
  .rw[if_neg v];exact XI H d t hi (h_ e l) (q0 (Q0 (A7 _ _) _) hN) λn c n1=>V0 (I n c<|by omega)
theorem ZI(q:NJ prog w A s κ rk S)(H:Hy rk S x y){N:Nat}{o:Zi Mb}{i j g ac G:Nat}{st v:Nb}(l:kindOf st=κ)(I:Gs st v)(m:MH rk x y o i j)(hi:1<=i)(t:2<=j)(hN:N+i+j<=x.size+y.size+1):wpS (Kb prog w) A E s (QT x y i j o g ac G) (VT rk x y N st) v:=by
 unfold QT;have L:=m.hi;have M:=m.hj;refine Jb<|Nd ?_;have d:=I.set g;refine Jb<|sZ (Z2 (V0 t)<|u4 M) ?_;refine Jb<|kK q (d.kind.trans l) (H.Sy _ _) H.Sx (OQ L<|V2 _) (λa b P R _ _=>HJ H.hx P R) (j6 hi<|Z3 _) λp Y k1 k2=>?_;dsimp only;have B:∀n (c:n<x.size),n<p->rk x[n]<=rk (y[j-1]'(by lia)):=λn c hp=>by have:=k1 n c (V2 _)<|h7 _ hp;rw[if_neg<|by decide]at this;exact this
 by_cases C:i-p > 0
 .rw[Ib C];have F:=m.chunk H.hx (p:=p) Y λn c k re n1 n2 n3=>by
   have:=k2 n c (by lia) (by lia);rw[if_neg<|by decide]at this;have:=HJ H.hy (i:=k) (j:=j-1) (by lia)<|V1 n3;exact q0 this<|V0 ‹_›
  by_cases e:p=0
  .rw[Ib<|by simpa using e];exact Lb ⟨d,.inl ⟨_,Z,DU H F<|.inl e⟩⟩
  .rw[if_neg<|by simpa using e];exact YI q H l d F (Y6.2 e) t (by lia) B
 .rw[if_neg C];exact YI q H l d m hi t (by omega) λn c n1=>B n c (by lia)
theorem PR(q:NJ prog w A s κ rk S)(H:Hy rk S x y){N:Nat}{c:fE}{st b:Nb}(d:kindOf st=κ)(e:Gs st b)(a:JH rk x y N c.2.1 c.2.2.1 c.2.2.2.1):wpS (Kb prog w) A E s (B' x y c) (VT rk x y (N+1) st) b:=by
 unfold B';have:=a.hN;split
 .exact ZI q H d e a.m a.hi a.hj (by lia)
 .exact ZI q H d e a.m a.hi a.hj (by lia)
theorem QR(q:NJ prog w A s κ rk S)(H:Hy rk S x y){N g:Nat}{c:NT}{st:Nb}(B:kindOf st=κ)(C:JH rk x y N c.2.1 c.2.2.1 c.2.2.2.1) :
  wpS (Kb prog w) A E s (G' x y g c) (λr F=>F=st/\match r with
    | .done c=>(∃t,c.1=O t/\Po rk x y t)\/(c.1=U/\JH rk x y (N+1) c.2.1 c.2.2.1 c.2.2.2.1)
    | .yield c=>c.1=U/\JH rk x y (N+1) c.2.1 c.2.2.1 c.2.2.2.1) st:=by
 unfold G';obtain⟨m,hi,b,hN⟩:=C;have l:=m.hi;have v:=m.hj;refine Jb<|sZ (Z2 (V0 b)<|u4 v) ?_;refine Jb<|sZ (Z2 hi<|u4 l) ?_;refine Jb<|w_lt q B (H.Sy _ _) (H.Sx _ _) ?_;dsimp only;by_cases k:rk (y[c.2.2.1-1]'(Z2 (V0 b)<|u4 v))<rk (x[c.2.1-1]'(v0 (j6 hi<|by decide) l))
 .rw[Ib<|by simpa using k];have d:=m.push H.hx hi λn G n1=>by have:=HJ H.hy (i:=n) (j:=c.2.2.1-1) (by lia)<|V1 n1;exact V0<|R0 this k
  refine Jb<|sZ (by lia) ?_;by_cases a:c.2.1-1=0
  .rw[Ib<|by simpa using a];exact Lb ⟨Z,.inl ⟨_,Z,DU H d<|.inl a⟩⟩
  .rw[if_neg<|by simpa using a];have e:JH rk x y (N+1) (c.2.1-1) c.2.2.1 (c.2.2.2.1.push<|x[c.2.1-1]'(by lia)):=⟨d,Y6.2 a,b,by lia⟩;split
   .exact Lb ⟨Z,.inr ⟨Z,e⟩⟩
   .exact Lb ⟨Z,Z,e⟩
 .rw[if_neg<|by simpa using k];have d:=(m.comm.push H.hy (K5 b) λn G n1=>by have:=HJ H.hx (i:=n) (j:=c.2.1-1) (by lia)<|V1 n1;exact q0 this<|T1 k).comm;refine Jb<|sZ (by lia) ?_;by_cases a:c.2.2.1-1=1
  .rw[Ib<|by simpa using a];exact Lb ⟨Z,.inl ⟨_,Z,LG H d a⟩⟩
  .rw[if_neg<|by simpa using a];have e:JH rk x y (N+1) c.2.1 (c.2.2.1-1) (c.2.2.2.1.push<|y[c.2.2.1-1]'(by lia)):=⟨d,by omega,h_ b a,by lia⟩;split
   .exact Lb ⟨Z,.inr ⟨Z,e⟩⟩
   .exact Lb ⟨Z,Z,e⟩
theorem JH.false{N:Nat}{o:Zi Mb}(h:JH rk x y N i j o)(hN:x.size+y.size<=N):Al:=by
 have a:=h.hi;have b:=h.hj;have c:=h.hN
 lia
theorem SR(q:NJ prog w A s κ rk S)(H:Hy rk S x y){N:Nat}{c:OT}{st b:Nb}(j:kindOf st=κ)(i:Gs st b)(l:JH rk x y N c.2.1 c.2.2.1 c.2.2.2.1) :
  wpS (Kb prog w) A E s (UT x y c) (λr b=>Gs st b/\match r with
    | .done c=>∃t,c.1=O t/\Po rk x y t
    | .yield c=>c.1=U/\JH rk x y (N+1) c.2.1 c.2.2.1 c.2.2.2.1) b:=by
 unfold UT;refine Jb<|Pc (Hc (I:=λn c a=>a=b/\c.1=U/\JH rk x y (N+n) c.2.1 c.2.2.1 c.2.2.2.1)
   (Q:=λc a=>a=b/\((∃t,c.1=O t/\Po rk x y t)\/(c.1=U/\JH rk x y N c.2.1 c.2.2.1 c.2.2.2.1))) ?step ?fin ⟨Z,Z,l⟩) ?post
 case fin=>rintro c a ⟨rfl,_,h⟩;exact(h.false<|q0 (O8 _ _)<|i5 _ _).elim
 case step =>
  rintro n c a _ _ ⟨rfl,_,h⟩;refine Pc (QR q H (i.kind.trans j) h) ?_;rintro r v ⟨rfl,h⟩;cases r with
  |done c =>
   refine⟨Z,h.imp id λh=>⟨h.1,h.2.m,h.2.hi,h.2.hj,?_⟩⟩;have:=h.2.hN
   lia
  |yield c=>exact⟨Z,h.1,h.2⟩
 case post =>
  rintro c a ⟨rfl,h⟩;obtain⟨r,c⟩:=c;rcases h with⟨t,e,h⟩|⟨e,h⟩
  .cases e;exact Lb ⟨i,_,Z,h⟩
  .cases e;dsimp only;refine Jb<|Eg<|Qc ⟨Z,?_⟩;refine Jb<|Pc (Hc (I:=λn c a=>Gs st a/\c.1=U/\JH rk x y (N+n) c.2.1 c.2.2.1 c.2.2.2.1)
     (Q:=λc a=>Gs st a/\RH rk x y (N+1) c) ?step2 ?fin2 ⟨i,Z,h⟩) ?post2
   case fin2=>rintro c a ⟨_,_,h⟩;exact(h.false<|q0 (O8 _ _)<|i5 _ _).elim
   case step2 =>
    rintro n c a _ _ ⟨d,_,h⟩;refine Pc (PR q H j d h) ?_;rintro r v ⟨k,h⟩;cases r with
    |done c =>
     refine⟨k,Or.imp id (λh=>⟨h.1,h.2.m,h.2.hi,h.2.hj,?_⟩) h⟩;have:=h.2.hN
     lia
    |yield c=>exact⟨k,h.1,h.2⟩
   case post2 =>
    rintro c a ⟨d,h⟩;obtain⟨r,c⟩:=c;rcases h with⟨t,e,h⟩|⟨e,h⟩
    .cases e;exact Lb ⟨d,_,Z,h⟩
    .cases e;exact Jb<|Nd<|Lb ⟨d.set _,Z,h⟩
theorem TR(q:NJ prog w A s κ rk S)(H:Hy rk S x y){st:Nb}{Q:Zi Mb->Nb->Prop}(v:kindOf st=κ)(h:∀r l,Gs st l->Po rk x y r->Q r l):wpS (Kb prog w) A E s (AT x y) Q st:=by
 rw[LN];have B:=H.y0;have a:=H.x0;refine Jb<|Eg<|Qc ⟨Z,?_⟩;refine Jb<|sZ (j6 a<|Z3 _) ?_;have C:MH rk x y #[] x.size y.size:=⟨⟨by simp,by simp,by simp,by simp⟩,A0 _,A0 _⟩;have d:=C.push H.hx a λn F _=>H.hl n F;have G:(#[]:Zi Mb).push (x[x.size-1]'(PQ _ _ a))=#[x[x.size-1]'(by lia)]:=rfl;rw[G]at d;by_cases i:x.size-1=0
 .rw[Ib<|by simpa using i];exact Lb<|h _ _ (Gs.refl _)<|DU H d<|.inl i
 .rw[if_neg<|by simpa using i];by_cases j:y.size=1
  .rw[Ib<|by simpa using j];exact Lb<|h _ _ (Gs.refl _)<|LG H d j
  .rw[if_neg<|by simpa using j];refine Jb<|Bf ?_;refine Jb<|Pc (Hc (I:=λn c b=>Gs st b/\c.1=U/\JH rk x y n c.2.1 c.2.2.1 c.2.2.2.1)
     (Q:=λc b=>Gs st b/\∃t,c.1=O t/\Po rk x y t) ?step ?fin ⟨Gs.refl _,Z,d,by show 1<=x.size-1;exact Y6.2 i,by show 2<=y.size;lia,by show 0+(x.size-1)+y.size<=_;lia⟩) ?post
   case fin=>rintro c b ⟨_,_,h⟩;exact(h.false<|O8 _ _).elim
   case step =>
    rintro n c b _ _ ⟨k,_,h⟩;refine Pc (SR q H v k h) ?_;rintro r L ⟨m,h⟩;cases r with
    |done c=>exact⟨m,h⟩
    |yield c=>exact⟨m,h⟩
   case post=>rintro c b ⟨k,t,e,hP⟩;obtain⟨r,c⟩:=c;cases e;exact Lb<|h _ _ k hP
end
noncomputable def KR(a:Mb->Nat)(b:Zi Mb)(i:Nat):Nat:=match b[i]? with
 |some p=>a p
 |none=>0
theorem KR_at(h:i<xs.size):KR rk xs i=rk xs[i]:=by unfold KR;rw[getElem?_pos xs i h]
theorem PZ{ys:Zi Mb}(h:xs[i]?=ys[j]?):KR rk xs i=KR rk ys j:=by unfold KR;rw[h]
theorem mV(b:j<=xs.size)(k:Nat):KR rk (Vf xs i j<|(j-i) / 2) k=if i<=k/\k<j then KR rk xs (i+j-1-k) else KR rk xs k:=by
 have e:=Mh (i:=i) b k;split
 .rename_i a;rw[Ib a]at e;exact PZ e
 .rename_i a;rw[if_neg a]at e;exact PZ e
theorem WH(i:c<xs.size)(hd:d<=c)(k:Nat):KR rk (bubble xs c d) k=if k=c-d then KR rk xs c else if c-d<k/\k<=c then KR rk xs (k-1) else KR rk xs k:=by
 have e:=getElem?_bubble i d hd k;split
 .rename_i a;rw[Ib a]at e;exact PZ e
 .rename_i a;rw[if_neg a]at e;split
  .rename_i b;rw[Ib b]at e;exact PZ e
  .rename_i b;rw[if_neg b]at e;exact PZ e
def Sg(a:Mb->Nat)(b:Zi Mb)(lo n:Nat):Prop:=∀i j,lo<=i->i<=j->j<lo+n->KR a b i<=KR a b j
def Dg(a:Mb->Nat)(b:Zi Mb)(lo n:Nat):Prop:=∀i j,lo<=i->i<=j->j<lo+n->KR a b j<=KR a b i
structure Bs(κ:Vc)(st:Nb)(lo n:Nat)(qb:Nb):Prop where
 perm:(arrOf qb).Perm (arrOf st)
 kind:kindOf qb=κ
 failed:Pd qb=U
 pend:Tb qb=Tb st
 keep:∀i,i<lo\/lo+n<=i->(arrOf qb)[i]?=(arrOf st)[i]?
theorem Bs.size{κ:Vc}{st:Nb}(h:Bs κ st lo n qb):(arrOf qb).size=(arrOf st).size:=h.perm.size_eq
theorem Bs.mir{κ:Vc}{st:Nb}(h:Bs κ st lo n qb)(a:j<=(arrOf st).size)(c:lo<=i)(d:j<=lo+n):Bs κ st lo n (Si qb<|Vf (arrOf qb) i j<|(j-i) / 2) :=
 ⟨(mirror_perm _ _ _ _).trans h.perm,h.kind,h.failed,h.pend,λk b=>by show (Vf (arrOf qb) i j<|(j-i) / 2)[k]?=_;rw[Mh (by rw[h.size];exact a),if_neg<|by lia];exact h.keep k b⟩
section
variable {w:Wb}{κ:Vc}{rk:Mb->Nat}{S:Mb->Prop}{st:Nb}
abbrev AllS(S:Mb->Prop)(a:Zi Mb):Prop:=∀p,p∈a.toList->S p
theorem Bs.inS(a:AllS S (arrOf st))(h:Bs κ st lo n qb){i:Nat}(hi:i<(arrOf qb).size):S (arrOf qb)[i]:=a _ ((N5.mp h.perm).mem_iff.mp<|by simp)
theorem EU(q:NJ prog w A s κ rk S){a:Nb}{lo n i j:Nat}{Q:Yi Bool->Nb->Prop}(b:AllS S (arrOf st))(hB:Bs κ st lo n a)(hi:i<(arrOf st).size)(e:j<(arrOf st).size)(h:Q (O<|decide<|KR rk (arrOf a) i<KR rk (arrOf a) j) a):wpS (Kb prog w) A E s (ltAt' i j) Q a:=by
 have c:i<(arrOf a).size:=by rw[hB.size];exact hi
 have d:j<(arrOf a).size:=by rw[hB.size];exact e
 rw[ltAt'_eq];refine Jb<|Bf ?_;refine Jb<|sZ c<|Jb<|sZ d ?_;refine w_lt q hB.kind (hB.inS b _) (hB.inS b _) ?_;rw[KR_at c,KR_at d]at h;exact h
noncomputable def fk(lo a b:Nat):StateT Nb Sem AscSt :=
 forIn [a:b] ((U,a):AscSt) λ_ z=>do
  let O sm<-ltAt' (lo+z.2) (lo+z.2-1)|pure (.done (O U,z.2))
  if sm=Ul then pure (.done (U,z.2)) else pure (.yield (U,z.2+1))
noncomputable def aP(lo n a:Nat):StateT Nb Sem (Yi Nat):=do
 Ce lo (lo+n)
 let z<-fk lo n a
 match z.1 with
 |some r=>pure r
 |none=>pure<|O z.2
noncomputable def ij(lo n a:Nat):StateT Nb Sem DescSt :=
 forIn [n:a] ((U,n,0):DescSt) λ_ z=>do
  let O sm<-ltAt' (lo+z.2.1) (lo+z.2.1-1)|pure (.done (O U,z.2.1,z.2.2))
  if sm=Ul then
   if z.2.2 > 0 then do
    Ce (lo+z.2.1-(z.2.2+1)) (lo+z.2.1)
    pure (.yield (U,z.2.1+1,0))
   else pure (.yield (U,z.2.1+1,0))
  else do
   let O la<-ltAt' (lo+z.2.1-1) (lo+z.2.1)|pure (.done (O U,z.2.1,z.2.2))
   if la=Ul then pure (.done (U,z.2.1,z.2.2)) else pure (.yield (U,z.2.1+1,z.2.2+1))
noncomputable def UR(lo n a:Nat):StateT Nb Sem (Yi Nat):=do
 liftM (rule "list.sort.descending-run")
 let z<-ij lo (n+1) a
 match z.1 with
 |some r=>pure r
 |none =>
  if z.2.2 > 0 then do
   Ce (lo+z.2.1-(z.2.2+1)) (lo+z.2.1)
   aP lo z.2.1 a
  else aP lo z.2.1 a
theorem MN(lo a:Nat):countRun' lo a=(do
    let z<-fk lo 1 a
    match z.1 with
    |some r=>pure r
    | none =>
      if (z.2==a)=Ul then pure (O z.2)
      else if z.2 > 1 then do
        let O b<-ltAt' lo (lo+z.2-1)|pure U
        if b=Ul then pure (O z.2) else do
          Ce lo (lo+z.2)
          UR lo z.2 a
      else UR lo z.2 a):=by
 have c:∀m,(do
     Ce lo (lo+m)
     let z<-fk lo m a
     match z.1 with
     |some r=>pure r
     |none=>pure<|O z.2)=aP lo m a:=λm=>rfl;rw[countRun'_eq];unfold UR aP ij fk;refine congr (Rb bind Z)<|funext λz=>?_;obtain⟨r,n⟩:=z;cases r with
 |some r=>rfl
 |none =>
  dsimp only;have d:∀z:AscSt,(match z.1 with|some r=>pure r|none=>pure (O z.2):StateT Nb Sem (Yi Nat))=match z.1 with|some r=>pure r|none=>pure (O z.2):=λz=>rfl
  split
  .rfl
  .split
   .congr 1;funext x;cases x with
    |none=>rfl
    |some b =>
     dsimp only;split
     .rfl
     .congr 1;funext _;congr 1;funext _;congr 1;funext z;obtain⟨r,m,q⟩:=z;cases r with
      |some r=>rfl
      |none =>
       dsimp only;split
       .congr 1;funext _;congr 1;funext _;congr 1;funext z;obtain⟨r,k⟩:=z;cases r<;>rfl
       .congr 1;funext _;congr 1;funext z;obtain⟨r,k⟩:=z;cases r<;>rfl
   .congr 1;funext _;congr 1;funext z;obtain⟨r,m,q⟩:=z;cases r with
    |some r=>rfl
    |none =>
     dsimp only;split
     .congr 1;funext _;congr 1;funext _;congr 1;funext z;obtain⟨r,k⟩:=z;cases r<;>rfl
     .congr 1;funext _;congr 1;funext z;obtain⟨r,k⟩:=z;cases r<;>rfl
theorem lj{Q:Unit->Nb->Prop}(h:Q () (Si qb<|Vf (arrOf qb) i j<|(j-i) / 2)):wpS (Kb prog w) A E s (Ce i j) Q qb:=by rw[reverseSlice'_eq];exact Nd h
theorem aL(q:NJ prog w A s κ rk S){b:Nb}{lo N a d:Nat}{Q:AscSt->Nb->Prop}(B:AllS S (arrOf st))(C:lo+d<=(arrOf st).size)(F:1<=a)(k:a<=d)(hB:Bs κ st lo N b)(G:Sg rk (arrOf b) lo a)(h:∀n,a<=n->n<=d->Sg rk (arrOf b) lo n->(n=d\/KR rk (arrOf b) (lo+n)<KR rk (arrOf b) (lo+n-1))->Q (U,n) b):wpS (Kb prog w) A E s (fk lo a d) Q b:=by
 unfold fk;refine Hc (I:=λx c z=>z=b/\c=(U,x)/\Sg rk (arrOf b) lo x) ?step ?fin ⟨Z,Z,G⟩
 case fin=>rintro c z ⟨rfl,rfl,e⟩;rw[show max a d=d by exact Nat.max_eq_right k]at e ⊢;exact h d k (A0 _) e<|.inl rfl
 case step =>
  rintro x c z l m ⟨rfl,rfl,e⟩;dsimp only;refine Jb<|EU q B hB (v0 (S3 m _) C) (by lia) ?_;dsimp only;by_cases hl:KR rk (arrOf z) (lo+x)<KR rk (arrOf z) (lo+x-1)
  .rw[Ib<|by simpa using hl];exact Lb<|h x l (V0 m) e<|.inr hl
  .rw[if_neg<|by simpa using hl];refine Lb ⟨Z,Z,λi j hi v L=>?_⟩;by_cases t:j<lo+x
   .exact e i j hi v t
   .have:j=lo+x:=mQ (T1 t) L;subst this;by_cases y:i=lo+x
    .subst y;exact A0 _
    .have:=e i (lo+x-1) hi (V1<|A3 v y)<|bA F l;exact q0 this<|T1 hl
theorem VR(q:NJ prog w A s κ rk S){c:Nb}{lo n a:Nat}{Q:Yi Nat->Nb->Prop}(x:AllS S (arrOf st))(e:lo+a<=(arrOf st).size)(l:1<=n)(d:n<=a)(hB:Bs κ st lo a c)(y:Dg rk (arrOf c) lo n)(h:∀m z,Bs κ st lo a z->1<=m->m<=a->Sg rk (arrOf z) lo m->Q (O m) z):wpS (Kb prog w) A E s (aP lo n a) Q c:=by
 unfold aP;refine Jb<|lj ?_;have t:lo+n<=(arrOf c).size:=by rw[hB.size];exact q0 (Q0 d _) e
 have b:=hB.mir (i:=lo) (j:=lo+n) (q0 (Q0 d _) e) (A0 _)<|Q0 d _;refine Jb<|aL q x e l d b (λi j hi k v=>?_) λm B C F _=>Lb<|h m _ b (q0 l B) C F;show KR rk (Vf _ _ _ _) i<=KR rk (Vf _ _ _ _) j;rw[mV t,mV t,Ib<|⟨hi,R0 k v⟩,Ib<|⟨q0 hi k,v⟩];exact y _ _ (by omega) (TQ k _) (by omega)
theorem qY(b:j<=xs.size)(a:∀k,i<=k->k<j->KR rk xs k=KR rk xs (j-1))(k:Nat):KR rk (Vf xs i j<|(j-i) / 2) k=KR rk xs k:=by
 rw[mV b];split
 .rw[a _ (by omega)<|by omega,a k (by lia)<|by lia]
 .rfl
theorem NN(q:NJ prog w A s κ rk S){L:Nb}{lo n a:Nat}{Q:DescSt->Nb->Prop}(R:AllS S (arrOf st))(hn:lo+a<=(arrOf st).size)(h1:1<=n)(Y:n<=a)(hB:Bs κ st lo a L)(hs:Dg rk (arrOf L) lo n)(h:∀m e z,Bs κ st lo a z->n<=m->m<=a->Dg rk (arrOf z) lo m->e+1<=m->(∀i,lo+m-(e+1)<=i->i<lo+m->KR rk (arrOf z) i=KR rk (arrOf z) (lo+m-1))->Q (U,m,e) z):wpS (Kb prog w) A E s (ij lo n a) Q L:=by
 unfold ij;refine Hc (I:=λx c z=>∃e,c=(U,x,e)/\Bs κ st lo a z/\Dg rk (arrOf z) lo x/\e+1<=x/\∀i,lo+x-(e+1)<=i->i<lo+x->KR rk (arrOf z) i=KR rk (arrOf z) (lo+x-1)) ?step ?fin
  ⟨0,Z,hB,hs,by omega,λi i1 i2=>by congr 1;exact S4 (V1 i2) i1⟩
 case fin=>rintro c z ⟨e,rfl,b,d,t,v⟩;rw[show max n a=a by exact Nat.max_eq_right Y]at d t v ⊢;exact h a e z b Y (A0 _) d t v
 case step =>
  rintro x c z y B ⟨e,rfl,b,d,t,v⟩;dsimp only;have hz:lo+x<=(arrOf z).size:=by rw[b.size];lia
  refine Jb<|EU q R b (by lia) (by lia) ?_;dsimp only;by_cases hl:KR rk (arrOf z) (lo+x)<KR rk (arrOf z) (lo+x-1)
  .rw[Ib<|by simpa using hl];have lh:∀M:Zi Mb,(∀k,KR rk M k=KR rk (arrOf z) k)->Dg rk M lo (x+1):=λM hk i j hi F hj=>by
    rw[hk,hk];by_cases l:j<lo+x
    .exact d i j hi F l
    .have:j=lo+x:=by lia
     subst this;by_cases G:i=lo+x
     .subst G;exact A0 _
     .have:=d i (lo+x-1) hi (V1<|A3 F G)<|bA h1 y;exact V0<|v0 hl this
   by_cases he:e > 0
   .rw[Ib he];exact Jb<|lj<|Lb ⟨0,Z,b.mir (by lia) (V1<|Q0 t _)<|V0<|S3 B _,lh _<|qY hz v,i5 _ _,λi i1 i2=>by congr 1;exact S4 (V1 i2) i1⟩
   .rw[if_neg he];exact Lb ⟨0,Z,b,lh _<|λ_=>rfl,i5 _ _,λi i1 i2=>by congr 1;exact iT (j7 i1)<|V1 i2⟩
  .rw[if_neg<|by simpa using hl];refine Jb<|EU q R b (by lia) (by lia) ?_;dsimp only;by_cases P:KR rk (arrOf z) (lo+x-1)<KR rk (arrOf z) (lo+x)
   .rw[Ib<|by simpa using P];exact Lb<|h x e z b y (V0 B) d t v
   .rw[if_neg<|by simpa using P];refine Lb ⟨e+1,Z,b,λi j hi F hj=>?_,Q7 t,λi i1 i2=>?_⟩
    .by_cases l:j<lo+x
     .exact d i j hi F l
     .have:j=lo+x:=by lia
      subst this;by_cases G:i=lo+x
      .subst G;exact A0 _
      .have:=d i (lo+x-1) hi (by lia) (by lia);exact q0 (T1 P) this
    .rw[show lo+(x+1)-1=lo+x by rfl];by_cases C:i=lo+x
     .subst C;rfl
     .have:=v i (by lia)<|A3 (o4 i2) C
      lia
theorem WR(q:NJ prog w A s κ rk S){l:Nb}{lo n a:Nat}{Q:Yi Nat->Nb->Prop}(t:AllS S (arrOf st))(c:lo+a<=(arrOf st).size)(C:n+1<=a)(hB:Bs κ st lo a l)(F:Dg rk (arrOf l) lo (n+1))(h:∀m z,Bs κ st lo a z->1<=m->m<=a->Sg rk (arrOf z) lo m->Q (O m) z):wpS (Kb prog w) A E s (UR lo n a) Q l:=by
 unfold UR;refine Jb<|Eg<|Qc ⟨Z,?_⟩;refine Jb<|NN q t c (i5 _ _) C hB F λm e z b L k d v x=>?_;dsimp only;have y:lo+m<=(arrOf z).size:=by rw[b.size];exact q0 (Q0 k _) c
 by_cases B:e > 0
 .rw[Ib B];refine Jb<|lj<|VR q t c (E6 v) k (b.mir (q0 (Q0 k _) c) (V1<|Q0 v _)<|Q0 k _) (λi j hi G I=>?_) h;show KR rk (Vf _ _ _ _) j<=KR rk (Vf _ _ _ _) i;rw[qY y x,qY y x];exact d i j hi G I
 .rw[if_neg B];exact VR q t c (E6 v) k b d h
theorem K'(q:NJ prog w A s κ rk S){lo a:Nat}{Q:Yi Nat->Nb->Prop}(v:AllS S (arrOf st))(d:lo+a<=(arrOf st).size)(F:1<=a)(hB:Bs κ st lo a st)(h:∀m z,Bs κ st lo a z->1<=m->m<=a->Sg rk (arrOf z) lo m->Q (O m) z):wpS (Kb prog w) A E s (countRun' lo a) Q st:=by
 rw[MN];refine Jb<|aL q v d (A0 1) F hB (λi j hi e G=>by have:i=j:=(by lia);subst this;exact A0 _) λn n1 b x B=>?_;dsimp only;by_cases l:n=a
 .rw[Ib<|by simpa using l];exact Lb<|h n st hB n1 b x
 .rw[if_neg<|by simpa using l];have I:=B.resolve_left l;by_cases c:n > 1
  .rw[Ib c];refine Jb<|EU q v hB (q0 (Q0 F _) d) (v0 (j6 (h7 _ n1)<|Z3 _)<|q0 (Q0 b _) d) ?_;dsimp only;by_cases C:KR rk (arrOf st) lo<KR rk (arrOf st) (lo+n-1)
   .rw[Ib<|by simpa using C];exact Lb<|h n st hB n1 b x
   .rw[if_neg<|by simpa using C];have L:lo+n<=(arrOf st).size:=q0 (Q0 b _) d;have all:∀k,lo<=k->k<lo+n->KR rk (arrOf st) k=KR rk (arrOf st) (lo+n-1):=λk M P=>by
     have R:=x lo k (A1 Z) M P;have Y:=x k (lo+n-1) M (V1 P)<|j6 (h7 _ n1)<|Z3 _;exact S4 Y<|q0 (T1 C) R
    refine Jb<|lj<|WR q v d (A3 b l) (hB.mir (by omega) (A1 Z)<|Q0 b _) (λi j hi e G=>?_) h;show KR rk (Vf _ _ _ _) j<=KR rk (Vf _ _ _ _) i;rw[qY L all,qY L all];by_cases t:j<lo+n
    .have:=all i hi<|R0 e t;have:=all j (q0 hi e) t
     lia
    .have:j=lo+n:=by lia
     subst this;by_cases y:i=lo+n
     .subst y;exact A0 _
     .have:=all i hi<|A3 e y;exact le_of_le_of_eq (V0 I) this.symm
  .rw[if_neg c];have:n=1:=S4 (T1 c) n1;subst this;refine WR q v d (A3 b l) hB (λi j hi e G=>?_) h;by_cases y:i=j
   .subst y;exact A0 _
   .have e1:i=lo:=by lia
    have e2:j=lo+1:=by lia
    subst e1;subst e2;exact V0 I
theorem ON(q:NJ prog w A s κ rk S){M:Nb}{lo N n ok:Nat}{Q:Bool->Nb->Prop}(hS:AllS S (arrOf st))(hn:lo+n<=(arrOf st).size)(hnN:n<=N)(hok:ok<=n)(hB:Bs κ st lo N M)(hs:Sg rk (arrOf M) lo ok)(h:∀z,Bs κ st lo N z->Sg rk (arrOf z) lo n->Q Ul z):wpS (Kb prog w) A E s (binarySort' lo n ok) Q M:=by
 rw[binarySort'_eq];refine Jb<|Pc (Hc (I:=λk c z=>c=(U,())/\Bs κ st lo N z/\Sg rk (arrOf z) lo (min k n)) (Q:=λc z=>c=(U,())/\Bs κ st lo N z/\Sg rk (arrOf z) lo n) ?step ?fin ?init) ?post
 case post=>rintro c z ⟨rfl,b,m⟩;exact Lb<|h z b m
 case init =>
  refine⟨Z,hB,λi j hi Y hj=>?_⟩;by_cases e:ok=0
  .have:i=j:=by lia
   subst this;exact A0 _
  .exact hs i j hi Y (by lia)
 case fin=>rintro c z ⟨hc,b,m⟩;refine⟨hc,b,?_⟩;rwa [show min (max (max ok 1) n) n=n by exact N7<|O8 _ _]at m
 case step =>
  rintro k c z hak P ⟨rfl,b,m⟩;rw[show min k n=k by exact J4<|V0 P]at m;refine Jb<|Pc (Hc (I:=λx c a=>a=z/\∃l r,c=(U,l,r)/\l<=r/\r<=k/\r-l<=k-x/\(∀i,i<l->KR rk (arrOf z) (lo+i)<=KR rk (arrOf z) (lo+k))/\(∀i,r<=i->i<k->KR rk (arrOf z) (lo+k)<KR rk (arrOf z) (lo+i)))
    (Q:=λc a=>a=z/\∃l r,c=(U,l,r)/\l<=k/\(∀i,i<l->KR rk (arrOf z) (lo+i)<=KR rk (arrOf z) (lo+k))/\(∀i,l<=i->i<k->KR rk (arrOf z) (lo+k)<KR rk (arrOf z) (lo+i))) ?istep ?ifin ?iinit) ?ipost
  case iinit=>exact⟨Z,0,k,Z,V2 _,by lia,A1 rfl,λi hi=>by lia,λi e B=>by lia⟩
  case ifin=>rintro c a ⟨rfl,l,r,rfl,t,v,L,C,d⟩;have:l=r:=i_ L t;subst this;exact⟨Z,l,l,Z,v,C,d⟩
  case istep =>
   rintro x c a _ hxk ⟨rfl,l,r,rfl,t,v,L,C,d⟩;dsimp only;by_cases y:l ≥ r
   .rw[Ib y];have:l=r:=S4 t y;subst this;exact Lb ⟨Z,l,l,Z,v,C,d⟩
   .rw[if_neg y];refine Jb<|EU q hS b (by lia) (by lia) ?_;dsimp only;by_cases hl:KR rk (arrOf a) (lo+k)<KR rk (arrOf a) (lo+(l+r) / 2)
    .rw[Ib<|by simpa using hl];refine Lb ⟨Z,l,(l+r) / 2,Z,by lia,by lia,wa L,C,λi e B=>?_⟩;have:=m (lo+(l+r) / 2) (lo+i) (B1 _ _) (Q0 e _)<|S3 B _;exact v0 hl this
    .rw[if_neg<|by simpa using hl];refine Lb ⟨Z,(l+r) / 2+1,r,Z,by lia,by omega,arg L,λi e=>?_,d⟩;have:=m (lo+i) (lo+(l+r) / 2) (B1 _ _) (Nat.add_le_add (A1 Z)<|o4 e) (by lia);exact q0 this<|T1 hl
  case ipost =>
   rintro c a ⟨rfl,l,r,rfl,hlk,C,d⟩;show wpS _ _ _ _ (do moveDown' (lo+k) (lo+l);pure (ForInStep.yield (U,()))) _ _;rw[moveDown'_eq];have R:lo+k<(arrOf a).size:=by rw[b.size];lia
   refine Jb<|Nd<|Lb ⟨Z,⟨(bubble_perm _ _ _).trans b.perm,b.kind,b.failed,b.pend,λi hi=>?_⟩,?_⟩
   .show (bubble (arrOf a) _ _)[i]?=_;rw[getElem?_bubble R _<|by omega,if_neg<|by omega,if_neg<|by lia];exact b.keep i hi
   .rw[show min (k+1) n=k+1 by lia];intro i j hi Y hj;show KR rk (bubble (arrOf a) (lo+k)<|lo+k-(lo+l)) i<=KR rk (bubble (arrOf a) (lo+k)<|lo+k-(lo+l)) j;rw[WH R<|by lia,WH R<|by lia,show lo+k-(lo+k-(lo+l))=lo+l by lia];have F:∀i,lo<=i->i<lo+l->KR rk (arrOf a) i<=KR rk (arrOf a) (lo+k):=λi e B=>by
     have:=C (i-lo)<|P5 e B;rwa [show lo+(i-lo)=i by lia]at this
    have G:∀i,lo+l<=i->i<lo+k->KR rk (arrOf a) (lo+k)<KR rk (arrOf a) i:=λi e B=>by have:=d (i-lo) (AQ e)<|P5 (Q1 e) B;rwa [show lo+(i-lo)=i by lia]at this
    repeat' split
    all_goals first
     |(exfalso;lia)
     |exact A0 _
     |exact F _ (by omega) (by lia)
     |exact V0 (G _ (by lia)<|by omega)
     |exact m _ _ (by omega) (by lia) (by lia)
end
noncomputable def wb(d:Zi Mb)(c:Nat)(m:List Mb)(n:Nat):Zi Mb:=(m.zipIdx n).foldl (λa b=>a.setIfInBounds (c+b.2) b.1) d
theorem PN(i:Nat):mergeAt' i=(do
    let z<-get
    let (O (sa,na,pw),O (sb,nb,_)):=((Tb z)[i]?,(Tb z)[i+1]?)|Sf "internal:list.sort.pending"
    set (Qg z<|((Tb z).setIfInBounds i (sa,na+nb,pw)).eraseIdxIfInBounds<|i+1)
    let O k<-ck Um (<-Nc (arrOf z) sb) (arrOf z) sa na 0|return Um
    let (sa,na):=(sa+k,na-k)
    if na==0 then return Ul
    let O nb<-ck Ul (<-Nc (arrOf z) (sa+na-1)) (arrOf z) sb nb (nb-1)|return Um
    if nb==0 then return Ul
    let x:=(arrOf z).extract sa sb
    let y:=(arrOf z).extract sb<|sb+nb
    let r<-if na<=nb then yT x y else AT x y
    modify λv=>Si v (wb (arrOf v) sa r.toList 0)
    return (Pd (<-get)).isNone):=rfl
theorem Fq:∀(m:List Mb) (n c:Nat) (a:Zi Mb),c+n+m.length<=a.size->∀k,(wb a c m n)[k]?=if c+n<=k/\k<c+n+m.length then m[k-(c+n)]? else a[k]?
 |[],n,c,a,_,k=>by show a[k]?=_;rw[if_neg<|by simp]
 |p::m,n,c,a,h,k=>by
  have hl:(p::m).length=m.length+1:=rfl;show (wb (a.setIfInBounds (c+n) p) c m<|n+1)[k]?=_;rw[Fq m (n+1) c _ (by rw[aQ];lia),Array.getElem?_setIfInBounds];by_cases d:c+n=k
  .subst d;rw[if_neg<|by lia,Ib Z,Ib<|by lia,Ib<|by lia];simp
  .by_cases b:c+(n+1)<=k/\k<c+(n+1)+m.length
   .rw[Ib b,Ib<|⟨V0<|Nat.lt_of_succ_le b.1,lt_of_lt_of_eq b.2<|Nat.succ_add_eq_add_succ _ _⟩];have e:k-(c+n)=(k-(c+(n+1)))+1:=Ba b.1;rw[e,O3]
   .rw[if_neg b,if_neg d,if_neg<|by lia]
theorem jE(h:c+m.length<=xs.size):(wb xs c m 0).toList=xs.toList.take c++m++xs.toList.drop (c+m.length):=by
 apply A8;intro k;rw[T5,Fq m 0 c xs<|by omega];have hl:(xs.toList.take c).length=c:=by rw[E2,Z0];exact J4<|Q1 h
 rw[Y2];by_cases a:k<c
 .rw[if_neg<|by lia,m3<|v0 a<|A1 hl.symm,Z9 a,T5]
 .rw[Q2<|le_of_eq_of_le hl<|T1 a,hl];by_cases b:k-c<m.length
  .rw[Ib<|by lia,m3 b];rfl
  .rw[if_neg<|by lia,Q2<|T1 b,A9,T5];congr 1;exact Ca b a
section
variable {w:Wb}{κ:Vc}{rk:Mb->Nat}{S:Mb->Prop}{st:Nb}
theorem ext_at{c:Zi Mb}{a b i:Nat}(d:b<=c.size)(hi:i<(c.extract a b).size):(c.extract a b)[i]=c[a+i]'(by rw[c8]at hi;lia):=by rw[Array.getElem_extract]
theorem Ay(c:b<=xs.size)(h:∀i j,a<=i->i<=j->j<b->KR rk xs i<=KR rk xs j):(xs.extract a b).toList.Pairwise (uH rk):=by
 rw[O4];intro i j hi d e;rw[Z0]at hi d;rw[A4,A4,ext_at c,ext_at c];have k:(xs.extract a b).size=b-a:=by rw[c8];lia
 have:=h (a+i) (a+j) (B1 _ _) (V0<|S3 e _)<|k7<|lt_of_lt_of_eq d k;rwa [KR_at<|by lia,KR_at<|by lia]at this
structure Mt(κ:Vc)(rk:Mb->Nat)(st:Nb)(i sa na nb pw:Nat)(qb:Nb):Prop where
 perm:(arrOf qb).Perm (arrOf st)
 kind:kindOf qb=κ
 failed:Pd qb=U
 pend:Tb qb=((Tb st).setIfInBounds i (sa,na+nb,pw)).eraseIdxIfInBounds (i+1)
 keep:∀j,j<sa\/sa+(na+nb)<=j->(arrOf qb)[j]?=(arrOf st)[j]?
 sg:Sg rk (arrOf qb) sa (na+nb)
theorem XR(q:NJ prog w A s κ rk S){i c d I pw pw':Nat}{Q:Bool->Nb->Prop}(hS:AllS S (arrOf st))(hk:kindOf st=κ)(hF:Pd st=U)(p1:(Tb st)[i]?=O (c,d,pw))(p2:(Tb st)[i+1]?=O (c+d,I,pw'))(x:c+d+I<=(arrOf st).size) (n1:1<=d) (n2:1<=I) (s1:Sg rk (arrOf st) c d) (s2:Sg rk (arrOf st) (c+d) I) (h:∀qb,Mt κ rk st i c d I pw qb->Q Ul qb):wpS (Kb prog w) A E s (mergeAt' i) Q st:=by
 rw[PN];refine Jb<|Bf ?_;rw[p1,p2];dsimp only;refine Jb<|Nd (f:=λ_=>Qg st<|((Tb st).setIfInBounds i (c,d+I,pw)).eraseIdxIfInBounds<|i+1) ?_;generalize y:Qg st (((Tb st).setIfInBounds i (c,d+I,pw)).eraseIdxIfInBounds<|i+1)=G;have re:kindOf G=κ:=by rw[<-y];exact hk
 have L:Pd G=none:=by rw[<-y];exact hF
 have zt:arrOf G=arrOf st:=by rw[<-y]
 have hP1:Tb G=((Tb st).setIfInBounds i (c,d+I,pw)).eraseIdxIfInBounds (i+1):=by rw[<-y]
 have B:∀j (hj:j<(arrOf st).size),S (arrOf st)[j]:=λj hj=>hS _ (by simp);have Y:∀a b,c<=a->a<=b->b<c+d->KR rk (arrOf st) a<=KR rk (arrOf st) b:=s1;have M:∀a b,c+d<=a->a<=b->b<c+d+I->KR rk (arrOf st) a<=KR rk (arrOf st) b:=s2;refine Jb<|sZ (q0 (Q0 n2 _) x) ?_;refine Jb<|kK q re (B _ _) B (Q1 x) (λa b C P t m=>by
   have:=Y a b t P m;rwa [KR_at<|R0 P C,KR_at C]at this) n1 λk kn k1 k2=>?_;dsimp only;have yo:∀a,c<=a->a<c+k->KR rk (arrOf st) a<=KR rk (arrOf st) (c+d):=λa t m=>by
  have:=k1 a (v0 m<|q0 (Q0 kn _)<|Q1 x) t m;rw[if_neg<|by decide]at this;rwa [KR_at<|by lia,KR_at<|q0 (Q0 n2 _) x]
 have k2':∀a,c+k<=a->a<c+d->KR rk (arrOf st) (c+d)<KR rk (arrOf st) a:=λa t m=>by have:=k2 a (v0 m<|Q1 x) t m;rw[if_neg<|by decide]at this;rwa [KR_at<|by lia,KR_at<|v0 m<|Q1 x]
 by_cases h0:d-k=0
 .rw[Ib<|by simpa using h0];refine Lb<|h G ⟨by rw[zt],re,L,hP1,λj _=>by rw[zt],λa b t m h3=>?_⟩;rw[zt];by_cases C:b<c+d
  .exact Y a b t m C
  .by_cases F:a<c+d
   .exact q0 (yo a t<|by lia) (M (c+d) b (A1 Z) (T1 C)<|by lia)
   .exact M a b (T1 F) m (by lia)
 .rw[if_neg<|by simpa using h0];refine Jb<|sZ (cA x h0) ?_;refine Jb<|kK q re (B _ _) B (by omega) (λa b C P t m=>by
    have:=M a b t P m;rwa [KR_at<|R0 P C,KR_at C]at this) (j6 n2<|Z3 _) λl ln l1 l2=>?_;dsimp only;have l1':∀a,c+d<=a->a<c+d+l->KR rk (arrOf st) a<KR rk (arrOf st) (c+k+(d-k)-1):=λa t m=>by
   have:=l1 a (v0 m<|q0 (Q0 ln _) x) t m;rw[Ib Z]at this;rwa [KR_at<|by lia,KR_at<|cA x h0]
  have l2':∀a,c+d+l<=a->a<c+d+I->KR rk (arrOf st) (c+k+(d-k)-1)<=KR rk (arrOf st) a:=λa t m=>by have:=l2 a (v0 m x) t m;rw[Ib Z]at this;rwa [KR_at<|by lia,KR_at<|by lia]
  have el:c+k+(d-k)-1=c+d-1:=Aa h0;rw[el]at l1' l2';by_cases hl0:l=0
  .rw[Ib<|by simpa using hl0];refine Lb<|h G ⟨by rw[zt],re,L,hP1,λj _=>by rw[zt],λa b t m h3=>?_⟩;rw[zt];by_cases C:b<c+d
   .exact Y a b t m C
   .by_cases F:a<c+d
    .exact q0 (Y a (c+d-1) t (V1 F)<|j6 (h7 _ n1)<|Z3 _) (l2' b (by lia)<|by lia)
    .exact M a b (by lia) m (by lia)
  .rw[if_neg<|by simpa using hl0];have hxz:((arrOf st).extract (c+k)<|c+d).size=d-k:=by rw[c8];exact ua x
   have hyz:((arrOf st).extract (c+d)<|c+d+l).size=l:=by rw[c8];lia
   have H:Hy rk S ((arrOf st).extract (c+k)<|c+d) ((arrOf st).extract (c+d)<|c+d+l):=by
    refine⟨Ay (Q1 x) λa b t m h3=>Y a b (Q1 t) m h3,Ay (q0 (Q0 ln _) x) λa b t m h3=>M a b t m<|v0 h3<|Q0 ln _,λj hj=>?_,λj hj=>?_,by lia,by lia,λj hj=>?_,λj hj=>?_⟩
    .rw[ext_at<|by lia];exact B _ _
    .rw[ext_at<|q0 (Q0 ln _) x];exact B _ _
    .rw[ext_at<|by lia,ext_at<|by lia];have:=l1' (c+d+j) (B1 _ _)<|lt_of_lt_of_eq (S3 hj _)<|Nat.add_left_cancel_iff.2 hyz;rw[KR_at<|by lia,KR_at<|R0 (A1 el.symm)<|cA x h0]at this;simp only[hxz];have e2:c+k+(d-k-1)=c+d-1:=va h0;simp only[e2];exact V0 this
    .rw[ext_at<|by lia,ext_at<|by lia];have:=k2' (c+k+j) (B1 _ _) (by omega);rw[KR_at<|by lia,KR_at<|by omega]at this;simp only[Nat.add_zero];exact V0 this
   have go:∀(r:Zi Mb) (fh:Nb),Gs G fh->Po rk ((arrOf st).extract (c+k)<|c+d) ((arrOf st).extract (c+d)<|c+d+l) r->wpS (Kb prog w) A E s (do
       modify λv=>Si v<|wb (arrOf v) (c+k) r.toList 0
       let v<-get
       pure (Pd v).isNone) Q fh:=by
    rintro r fh ⟨g,rfl⟩ ⟨hp,hw⟩;refine Jb<|Nd<|Jb<|Bf ?_;have ub:r.toList.length=d-k+l:=by rw[hp.length_eq,N0,Z0,Z0,hxz,hyz]
    have C:c+k+r.toList.length<=(arrOf st).size:=by omega
    have eA:arrOf (Si (BW G g)<|wb (arrOf<|BW G g) (c+k) r.toList 0)=wb (arrOf st) (c+k) r.toList 0:=by show wb (arrOf G) _ _ _=_;rw[zt]
    have eF:Pd (Si (BW G g)<|wb (arrOf<|BW G g) (c+k) r.toList 0)=none:=L;rw[eF];have gt:∀j,(wb (arrOf st) (c+k) r.toList 0)[j]?=if c+k<=j/\j<c+k+r.toList.length then r.toList[j-(c+k)]? else (arrOf st)[j]?:=λj=>Fq r.toList 0 (c+k) (arrOf st) C j;have mid:∀j,c+k<=j->j<c+d+l->∃n,c+k<=n/\n<c+d+l/\KR rk (wb (arrOf st) (c+k) r.toList 0) j=KR rk (arrOf st) n:=λj j1 j2=>by
     have hj:j-(c+k)<r.toList.length:=k_ j2 ub h0;have e:KR rk (wb (arrOf st) (c+k) r.toList 0) j=rk (r.toList[j-(c+k)]'hj):=by unfold KR;rw[gt,Ib<|by omega,M0 hj]
     have hm:=hp.mem_iff.mp<|W5 hj;rw[e];rcases W0.mp hm with hm|hm
     .obtain⟨n,hn,R⟩:=Y4 hm;rw[Z0]at hn;rw[A4,ext_at<|by lia]at R;refine⟨c+k+n,by lia,ya hn hxz,?_⟩;rw[<-R,KR_at<|by lia]
     .obtain⟨n,hn,R⟩:=Y4 hm;rw[Z0]at hn;rw[A4,ext_at<|by lia]at R;refine⟨c+d+n,q0 (Q0 kn _)<|B1 _ _,by lia,?_⟩;rw[<-R,KR_at<|by lia]
    have nc:∀j,j<c+k\/c+d+l<=j->(wb (arrOf st) (c+k) r.toList 0)[j]?=(arrOf st)[j]?:=λj hj=>by rw[gt,if_neg<|by omega]
    refine Lb<|h _ ⟨?_,re,L,hP1,?_,?_⟩
    .rw[eA,N5,jE C];have e:(arrOf st).toList=(arrOf st).toList.take (c+k)++(((arrOf st).extract (c+k)<|c+d).toList++((arrOf st).extract (c+d)<|c+d+l).toList)++(arrOf st).toList.drop (c+k+r.toList.length):=by
      rw[v5,v5,N4,N4];have e1:(arrOf st).toList.drop (c+d)=((arrOf st).toList.drop<|c+k).drop (d-k):=by rw[HQ];congr 1;exact j_ h0
      rw[e1,show c+d-(c+k)=d-k by exact KQ _ _ _,show c+d+l-(c+d)=l by exact K3 _ _,<-List.take_add,ub];have e2:(arrOf st).toList.drop (c+k+(d-k+l))=((arrOf st).toList.drop<|c+k).drop (d-k+l):=by rw[HQ]
      rw[e2,Y2,U5,U5]
     conv=>rhs;rw[e]
     exact(hp.append_left _).append_right _
    .intro j hj;rw[eA];exact nc j (by lia)
    .rw[eA];intro a b t m h3;have kA:∀a,a<c+k->KR rk (wb (arrOf st) (c+k) r.toList 0) a=KR rk (arrOf st) a:=λa F=>PZ<|nc a<|.inl F;have kB:∀a,c+d+l<=a->KR rk (wb (arrOf st) (c+k) r.toList 0) a=KR rk (arrOf st) a:=λa F=>PZ<|nc a<|.inr F;by_cases F:a<c+k
     .rw[kA a F];by_cases qm:b<c+k
      .rw[kA b qm];exact Y a b t m<|v0 qm<|Q0 kn _
      .by_cases ef:b<c+d+l
       .obtain⟨n,m1,m2,R⟩:=mid b (by lia) ef;rw[R];by_cases hn:n<c+d
        .exact Y a n t (V0<|v0 F m1) hn
        .exact q0 (yo a t F) (M (c+d) n (A1 Z) (by lia)<|v0 m2<|Q0 ln _)
       .rw[kB b<|T1 ef];exact q0 (yo a t F) (M (c+d) b (by lia) (Q1<|T1 ef)<|by lia)
     .by_cases gn:a<c+d+l
      .by_cases ef:b<c+d+l
       .have ha':a-(c+k)<r.toList.length:=k_ gn ub h0;have hb':b-(c+k)<r.toList.length:=by lia
        have ea:KR rk (wb (arrOf st) (c+k) r.toList 0) a=rk (r.toList[a-(c+k)]'ha'):=by unfold KR;rw[gt,Ib<|by omega,M0 ha']
        have eb:KR rk (wb (arrOf st) (c+k) r.toList 0) b=rk (r.toList[b-(c+k)]'hb'):=by unfold KR;rw[gt,Ib<|by lia,M0 hb']
        rw[ea,eb];rcases m8 a b with P|P
        .exact O4.mp hw _ _ ha' hb' (Nat.sub_lt_sub_right (T1 F) P)
        .have:a=b:=S4 m P;subst this;exact A0 _
       .obtain⟨n,m1,m2,R⟩:=mid a (by lia) gn;rw[R,kB b<|T1 ef];by_cases hn:n<c+d
        .exact q0 (Y n (c+d-1) (Q1 m1) (V1 hn)<|bA n1<|A1 Z) (l2' b (by lia)<|by lia)
        .exact M n b (by lia) (q0 (V0 m2)<|T1 ef) (by lia)
      .rw[kB a<|by lia,kB b<|q0 (T1 gn) m];exact M a b (by lia) m (by lia)
   by_cases ah:d-k<=l
   .simp only[Ib ah];exact Jb<|OR q H re λr fh hg hP=>go r fh hg hP
   .simp only[if_neg ah];exact Jb<|TR q H re λr fh hg hP=>go r fh hg hP
end
noncomputable def Ch(a:Mb->Nat)(c:Zi Mb):List (Nat×Nat×Nat)->Nat->Nat->Prop
 |[],b,e=>b=e
 |p::l,b,e=>p.1=b/\1<=p.2.1/\Sg a c b p.2.1/\Ch a c l (b+p.2.1) e
theorem Ch.len{a:Mb->Nat}{c:Zi Mb}:∀{l:List (Nat×Nat×Nat)}{b e:Nat},Ch a c l b e->b+l.length<=e
 |[],b,e,h=>by cases h;simp
 |p::l,b,e,h=>by
  have:=h.2.2.2.len;have:=h.2.1;rw[U1]
  lia
theorem Ch.append{i:Mb->Nat}{j:Zi Mb}:∀{l d:List (Nat×Nat×Nat)}{b e:Nat},Ch i j (l++d) b e ↔ ∃m,Ch i j l b m/\Ch i j d m e
 |[],d,b,e=>⟨λh=>⟨b,Z,h⟩,λ⟨m,a,c⟩=>by cases a;exact c⟩
 |p::l,d,b,e=>⟨λ⟨a,c,k,v⟩=>by obtain⟨m,q,t⟩:=Ch.append.mp v;exact⟨m,⟨a,c,k,q⟩,t⟩,λ⟨m,⟨a,c,k,q⟩,t⟩=>⟨a,c,k,Ch.append.mpr ⟨m,q,t⟩⟩⟩
theorem Ch.congr{d:Mb->Nat}{m ys:Zi Mb}:∀{l:List (Nat×Nat×Nat)}{b e:Nat},(∀i,b<=i->i<e->ys[i]?=m[i]?)->Ch d m l b e->Ch d ys l b e
 |[],_,_,_,h=>h
 |p::l,b,e,k,⟨t,v,w,q⟩=>by have:=q.len;refine⟨t,v,λi j hi a c=>?_,q.congr λi hi x=>k i (Q1 hi) x⟩;rw[PZ<|k i hi<|R0 a<|v0 c<|Q1 this,PZ<|k j (q0 hi a)<|v0 c<|Q1 this];exact w i j hi a c
structure In(κ:Vc)(rk:Mb->Nat)(st:Nb)(lo:Nat)(qb:Nb):Prop where
 perm:(arrOf qb).Perm (arrOf st)
 kind:kindOf qb=κ
 failed:Pd qb=U
 ch:Ch rk (arrOf qb) (Tb qb).toList 0 lo
theorem In.size{κ:Vc}{st:Nb}(h:In κ rk st lo qb):(arrOf qb).size=(arrOf st).size:=h.perm.size_eq
section
variable {w:Wb}{κ:Vc}{rk:Mb->Nat}{S:Mb->Prop}{st:Nb}
theorem AllS.perm{ys:Zi Mb}(h:AllS S xs)(p:ys.Perm xs):AllS S ys:=λq a=>h q<|(N5.mp p).mem_iff.mp a
theorem bL(q:NJ prog w A s κ rk S){i lo:Nat}{a:Nb}{Q:Bool->Nb->Prop}(hS:AllS S (arrOf st))(hI:In κ rk st lo a)(ao:lo<=(arrOf st).size)(hi:i+1<(Tb a).size)(h:∀c,In κ rk st lo c->(Tb c).size+1=(Tb a).size->(∀j,lo<=j->(arrOf c)[j]?=(arrOf a)[j]?)->Q Ul c):wpS (Kb prog w) A E s (mergeAt' i) Q a:=by
 obtain⟨perm,kind,b,ch⟩:=hI;have hl:(Tb a).toList.length=(Tb a).size:=Z0;obtain⟨pre,p,B,post,e,d⟩:∃pre p B post,(Tb a).toList=pre++p::B::post/\pre.length=i:=by refine⟨(Tb a).toList.take i,(Tb a).toList[i]'(L7 (Z3 _)<|v0 hi<|A1 hl.symm),(Tb a).toList[i+1]'(by omega),(Tb a).toList.drop<|i+2,?_,by rw[E2];exact J4<|c6<|V0 hi⟩;have v:=W4 (l:=(Tb a).toList) (i:=i)<|W6 hi;have x:=W4 (l:=(Tb a).toList) (i:=i+1) (by omega);rw[<-x,<-v,U5]
 rw[e]at ch;obtain⟨m,c1,c2⟩:=Ch.append.mp ch;obtain⟨k,t,L⟩:=p;obtain⟨sb,y,C⟩:=B;obtain⟨P,F,R,Y,g2,g3,G⟩:=c2;dsimp only at P F R Y g2 g3 G;subst P;subst Y;have ub:=G.len;have q1:(Tb a)[i]?=O (k,t,L):=by rw[<-T5,e,Q2<|A1 d,d,qQ];rfl
 have q2:(Tb a)[i+1]?=O (k+t,y,C):=by rw[<-T5,e,Q2 (by exact Z4<|A1 d),d,K3];rfl
 have hz:=perm.size_eq;refine XR q (hS.perm perm) kind b q1 q2 (by lia) F g2 R g3 λc M=>?_;have el:(Tb c).toList=pre++(k,t+y,L)::post:=by rw[M.pend,Array.toList_eraseIdxIfInBounds,Array.toList_setIfInBounds,e,<-d,List.set_append_right _ _<|A0 _,qQ,List.eraseIdx_append_of_length_le<|B1 _ _,K3];rfl
 refine h c ⟨M.perm.trans perm,M.kind,M.failed,?_⟩ ?_ λj I=>M.keep j (.inr<|by lia)
 .rw[el];refine Ch.append.mpr ⟨k,c1.congr λj _ I=>M.keep j<|.inl I,Z,by show 1<=t+y;exact G8 F,M.sg,?_⟩;show Ch rk _ post (k+(t+y)) lo;rw[<-T4];exact G.congr λj I _=>M.keep j (.inr<|by lia)
 .have v:=Rb U4 el;have x:=Rb U4 e;rw[Z0]at v x;simp only[N0,U1]at v x
  lia
theorem Ch.modify{a:Zi Mb}(c:Nat):∀{l:List (Nat×Nat×Nat)}{i b e:Nat},Ch rk a l b e->Ch rk a (l.modify i λx=>(x.1,x.2.1,c)) b e
 |[],i,_,_,h=>by cases i<;>exact h
 |p::l,0,_,_,h=>h
 |p::l,i+1,_,_,⟨d,j,k,m⟩=>⟨d,j,k,m.modify c (i:=i)⟩
theorem In.put{n:Nat}{z:Nb}(h:In κ rk st lo z):In κ rk st lo (Qg z<|(Tb z).modify ((Tb z).size-1) λx=>(x.1,x.2.1,pw)) :=
 ⟨h.perm,h.kind,h.failed,by show Ch rk (arrOf z) ((Tb z).modify ((Tb z).size-1) λx=>(x.1,x.2.1,pw)).toList 0 lo;rw[Array.toList_modify];exact h.ch.modify pw⟩
theorem In.push{z:Nb}(h:In κ rk st lo z)(a:1<=n)(b:Sg rk (arrOf z) lo n):In κ rk st (lo+n) (Qg z<|(Tb z).push (lo,n,0)) :=
 ⟨h.perm,h.kind,h.failed,by show Ch rk (arrOf z) ((Tb z).push (lo,n,0)).toList 0 (lo+n);rw[Q9];exact Ch.append.mpr ⟨lo,h.ch,Z,a,b,Z⟩⟩
theorem In.run{z:Nb}(h:In κ rk st lo z)(b:Bs κ z lo n z'):In κ rk st lo z' :=
 ⟨b.perm.trans h.perm,b.kind,b.failed,by rw[b.pend];exact h.ch.congr λi _ hi=>b.keep i<|.inl hi⟩
theorem Sg.congr{ys:Zi Mb}(h:Sg rk xs lo n)(k:∀j,lo<=j->ys[j]?=xs[j]?):Sg rk ys lo n:=λi j hi a b=>by rw[PZ<|k i hi,PZ<|k j<|q0 hi a];exact h i j hi a b
theorem w_sort(q:NJ prog w A s κ rk S){Q:Unit->Nb->Prop}(hS:AllS S (arrOf st))(hk:kindOf st=κ)(hF:Pd st=U)(hP:Tb st=#[])(h:∀M,(arrOf M).Perm (arrOf st)->Pd M=U->Sg rk (arrOf M) 0 (arrOf st).size->Q () M):wpS (Kb prog w) A E s sortRuns' Q st:=by
 rw[sortRuns'_eq];refine Jb<|Bf ?_;dsimp only;have I0:In κ rk st 0 st:=⟨Array.Perm.refl _,hk,hF,by rw[hP];rfl⟩;refine Jb<|Pc (Hc (I:=λx c z=>∃lo,c=(U,lo)/\In κ rk st lo z/\lo<=(arrOf st).size/\(x<=lo\/lo=(arrOf st).size)) (Q:=λc z=>c=(U,(arrOf st).size)/\In κ rk st (arrOf st).size z) ?step ?fin ⟨0,Z,I0,V2 _,.inl<|A0 _⟩) ?post
 case fin =>
  rintro c z ⟨lo,rfl,e,P,h2⟩;have:lo=(arrOf st).size:=by lia
  subst this;exact⟨Z,e⟩
 case step =>
  rintro x c z _ hx ⟨lo,rfl,e,P,h2⟩;dsimp only;by_cases t:lo ≥ (arrOf st).size
  .rw[Ib t];have:lo=(arrOf st).size:=S4 P t;subst this;exact Lb ⟨Z,e⟩
  .rw[if_neg t];have hz:=e.size;have G:AllS S (arrOf z):=AllS.perm hS e.perm;refine Jb<|K' q G (by lia) (R9<|o5 t) ⟨Array.Perm.refl _,e.kind,e.failed,Z,λ_ _=>rfl⟩ λn v R n1 Y g1=>?_;dsimp only;have rest:∀(n:Nat) (v:Nb),In κ rk st lo v->1<=n->lo+n<=(arrOf st).size->Sg rk (arrOf v) lo n->∃c,c=n/\In κ rk st lo v/\Sg rk (arrOf v) lo c/\1<=c/\lo+c<=(arrOf st).size:=λn v a b c d=>⟨n,Z,a,d,b,c⟩;by_cases L:n<minRun' (arrOf st).size (arrOf st).size 0
   case' pos =>
    rw[Ib L];refine Jb<|Eg<|Qc ⟨Z,?_⟩;refine Jb<|ON (N:=(arrOf st).size-lo) q G (n:=min ((arrOf st).size-lo)<|minRun' (arrOf st).size (arrOf st).size 0) (by omega) (b9 _ _) (M5 Y<|V0 L) R g1 λz2 b2 g2=>?_;simp only[U7,U2,if_false];have B:=e.run b2;have m1:1<=min ((arrOf st).size-lo) (minRun' (arrOf st).size (arrOf st).size 0):=M5 (q0 n1 Y)<|E6 L;have m2:lo+min ((arrOf st).size-lo) (minRun' (arrOf st).size (arrOf st).size 0)<=(arrOf st).size:=by lia
    clear b2 R g1;generalize min ((arrOf st).size-lo) (minRun' (arrOf st).size (arrOf st).size 0)=m at *
   case' neg=>rw[if_neg L];have B:=e.run R;have m1:=n1;have m2:lo+n<=(arrOf st).size:=q0 (Q0 Y _)<|A1<|m4 P;have g2:=g1;clear R g1 n1 Y L;generalize n=m at *;generalize v=z2 at *
   all_goals
    refine Jb<|Bf ?_;cases hb:(Tb z2).back? with
    |none=>exact Jb<|Nd<|Lb ⟨lo+m,Z,B.push m1 g2,m2,.inl<|by lia⟩
    |some pb =>
     obtain⟨s1,n1,pv⟩:=pb;dsimp only;refine Jb<|Pc (Hc (I:=λ_ c z=>c=(U,())/\In κ rk st lo z/\∀j,lo<=j->(arrOf z)[j]?=(arrOf z2)[j]?) (Q:=λc z=>c=(U,())/\In κ rk st lo z/\∀j,lo<=j->(arrOf z)[j]?=(arrOf z2)[j]?) ?_ (λ_ _ hh=>hh) ⟨Z,B,λ_ _=>rfl⟩) ?_
     .rintro y c z _ _ ⟨rfl,k,F⟩;refine Jb<|Bf ?_;by_cases l:(Tb z).size > 1
      .rw[Ib l];cases hq:(Tb z)[(Tb z).size-2]? with
       |none=>exact Lb ⟨Z,k,F⟩
       |some pq =>
        obtain⟨u1,u2,older⟩:=pq;dsimp only;split
        .exact Lb ⟨Z,k,F⟩
        .refine Jb (bL q hS k (by omega) (W8 (K5 l)<|PQ _ _ l) λz4 C _ k4=>?_);simp only[U7,U2,if_false];exact Lb ⟨Z,C,λj hj=>(k4 j hj).trans<|F j hj⟩
      .rw[if_neg l];exact Lb ⟨Z,k,F⟩
     .rintro c z ⟨rfl,k,F⟩;exact Jb<|Nd<|Jb<|Nd<|Lb ⟨lo+m,Z,(k.put (n:=0)).push m1<|g2.congr F,m2,.inl<|by lia⟩
 case post =>
  rintro c z ⟨rfl,e⟩;dsimp only;refine Jb<|Pc (Hc (I:=λx c z=>c=(U,())/\In κ rk st (arrOf st).size z/\(Tb z).size+x<=(arrOf st).size) (Q:=λc z=>c=(U,())/\In κ rk st (arrOf st).size z/\(Tb z).size<=1) ?_ ?_ ⟨Z,e,?_⟩) ?_
  .rintro x c z _ hx ⟨rfl,e,xl⟩;refine Jb<|Bf ?_;by_cases l:(Tb z).size<=1
   .rw[Ib l];exact Lb ⟨Z,e,l⟩
   .rw[if_neg l];refine Jb<|bL q hS e (A0 _) (by (repeat' split)<;>lia) λz4 C hs4 _=>?_;simp only[U7,U2,if_false];exact Lb ⟨Z,C,by lia⟩
  .rintro c z ⟨rfl,e,xl⟩;exact⟨Z,e,by lia⟩
  .have:=e.ch.len;rw[Z0]at this;exact o4<|Q7<|E6 this
  .rintro c z ⟨rfl,e,l⟩;refine Lb<|h z e.perm e.failed ?_;have hc:=e.ch;have hl:(Tb z).toList.length<=1:=by rw[Z0];exact l
   match (Tb z).toList,hc,hl with
   |[],hc,_ =>
    have:0=(arrOf st).size:=hc;intro i j _ _ hj
    lia
   |[p],⟨P,h2,h3,h4⟩,_=>have h4:0+p.2.1=(arrOf st).size:=h4;rw[o8]at h4;rw[h4]at h3;exact h3
end
end SG
namespace L2
open PySem.W
section
variable {w:Wb}{κ:Vc}{vs:Up}{rk:Bb->Nat}
theorem XH{p:Mb}(h:p∈(Ng vs).toList):p.1=p.2/\p.2∈vs:=by have h:p∈(vs.toArray.zip vs.toArray).toList:=h;rw[Array.toList_zip]at h;obtain⟨i,hi,e⟩:=Y4 h;rw[eQ]at e;subst e;exact⟨Z,W5 _⟩
theorem MG(C:s.heap.get? a=O (seqObj "list" vs.toArray n))(R:vs.length<=sizeLine)(hk:2<=vs.length->∀s':Gb,(∀b o,b≠a->s.heap.get? b=O o->s'.heap.get? b=O o)->∀q:Vc->Gb->Prop,q κ s'->Hb (Kb prog w) A (keyKind' vs.toArray) q E s')(gc:∀s':Gb,(∀b o,b≠a->s.heap.get? b=O o->s'.heap.get? b=O o)->∀x y,x∈vs->y∈vs->∀q:Bool->Gb->Prop,q (decide<|rk x<rk y) s'->Hb (Kb prog w) A (keyLt' κ x y) q (λ_ _=>Al) s')(h:∀F:Up,F.Perm vs->F.Pairwise (λx y=>rk x<=rk y)->P (.done<|.ret .none) {s with heap:=sortedHeap s.heap a vs F.toArray}):Hb (Kb prog w) A (Builtin.«list.sort» ⟨[.ref a],[]⟩) P E s:=by
 rw[list_sort_plain];have Y:a<s.heap.objs.size:=G0 C;refine Ab<|Ei C Z ?_;refine Ab<|Xd C Z ?_;obtain⟨G,v⟩:∃G,(s.heap.update a<|W2 λ_=>#[]).get? a=O (seqObj "list" #[] G):=⟨_,Ze C<|λ_=>#[]⟩;refine Ab<|Tf v Z ?_;refine Ab<|Me ?_;refine Ab<|Xf ?_;refine Xb ?_;have d:(((s.heap.update a<|W2 λ_=>#[]).push<|seqObj "tuple" vs.toArray 0).push<|seqObj "list" #[] 0).get? a=O (seqObj "list" #[] G):=by rw[u7 _ _ _ (by rw[Wh,P8];exact U0<|v7 Y),u7 _ _ _<|by rw[P8];exact U0 Y];exact v
 have kp:∀b o,b≠a->s.heap.get? b=O o->(((s.heap.update a<|W2 λ_=>#[]).push<|seqObj "tuple" vs.toArray 0).push<|seqObj "list" #[] 0).get? b=O o:=λb o hb e=>by refine g0 _<|g0 _ ?_;rw[G4 _ _ _ _ hb];exact e
 show Hb (Kb prog w) A _ P E {s with heap:=((s.heap.update a<|W2 λ_=>#[]).push<|seqObj "tuple" vs.toArray 0).push<|seqObj "list" #[] 0};dsimp only;have hsz:vs.toArray.size=vs.length:=by simp
 have k:((Ng vs).map (·.2))=vs.toArray:=by apply Array.toList_inj.mp;rw[Q8];show (vs.toArray.zip vs.toArray).toList.map (·.2)=_;simp only[Array.toList_zip];exact fQ<|A0 _
 by_cases t:vs.toArray.size<2
 .rw[Ib t,Ib t];refine Ab<|Db ?_;rw[StateT.run_pure];refine Ab<|Db ?_;dsimp only;refine Ab<|Tf d Z ?_;refine Ab<|Xd d Z ?_ (hsz2:=by rw[Array.size_map];show (Ng vs).size<=_;rw[pairsOf_size];exact Z4 R);simp only[bne_self_eq_false,U2,if_false];have h':=h vs (List.Perm.refl _) (by
    cases vs with
    |nil=>exact .nil
    | cons x l=>cases l with
      |nil=>exact G5 _ _
      |cons y z=>simp at t;exact False.elim<|j4 _<|v0 t<|i5 _ _);rw[<-k]at h';exact Db h'
 .rw[if_neg t,if_neg t];have I:2<=vs.length:=T1 t;refine Ab<|hk I _ kp _ ?_;have run:=SG.w_sort (prog:=prog) (w:=w) (A:=A) (E:=E) (κ:=κ) (rk:=λp=>rk p.1) (S:=λp=>p.1∈vs) (st:=SortSt.mk' κ (Ng vs) #[] 7 U)
   (s:={s with heap:=((s.heap.update a<|W2 λ_=>#[]).push<|seqObj "tuple" vs.toArray 0).push<|seqObj "list" #[] 0})
   (Q:=λ_ c=>(arrOf c).Perm (Ng vs)/\Pd c=U/\SG.Sg (λp=>rk p.1) (arrOf c) 0 (Ng vs).size)
   (λx y hx hy q L=>gc _ kp _ _ hx hy q L) (λp B=>by have:=XH B;show p.1∈vs;rw[this.1];exact this.2) Z Z Z λc p1 p2 p3=>⟨p1,p2,p3⟩;refine Ab<|wpAny_mono run ?_ λ_ _ e=>e;rintro⟨⟨⟩,c⟩ s' ⟨rfl,B,hf,hs⟩;dsimp only at B hf hs ⊢;refine Ab<|Tf d Z ?_;have jc:=N5.mp B;have m:∀p∈(arrOf c).toList,p.1=p.2:=λp h=>(XH<|jc.mem_iff.mp h).1;have hO:((arrOf c).map (·.2)).toList.Perm vs:=by
   rw[Q8];have e:(Ng vs).toList.map (·.2)=vs:=by rw[<-Q8,k]
   have:=jc.map (·.2);rw[e]at this;exact this
  have hL:((arrOf c).map (·.2)).toList.length=vs.length:=hO.length_eq;rw[Z0]at hL;refine Ab<|Xd d Z ?_ (hsz2:=by rw[hL];exact Z4 R);rw[hf];simp only[bne_self_eq_false,U2,if_false];refine Db ?_;have:=h ((arrOf c).map (·.2)).toList hO (by rw[Q8,J3,O4];intro i j hi M xc;rw[Z0]at hi M;have zf:(arrOf c).size=(Ng vs).size:=B.size_eq;have:=hs i j (V2 _) (V0 xc)<|v0 M<|Nat.le_add_left_of_le<|A1 zf;rw[SG.KR_at hi,SG.KR_at M]at this;rw[A4,A4,<-m _ (by simp),<-m _ (by simp)];exact this);rw[QQ]at this;exact this
theorem gk(hl:s.heap.IsList l vs.toArray)(i:vs.length<=sizeLine)(t:2<=vs.length->∀s':Gb,(∀b o,s.heap.get? b=O o->s'.heap.get? b=O o)->∀(E:Bb->Gb->Prop) (a:Vc->Gb->Prop),a κ s'->Hb (Kb prog w) A.in1.in1 (keyKind' vs.toArray) a E s')(c:∀s':Gb,(∀b o,s.heap.get? b=O o->s'.heap.get? b=O o)->∀x y,x∈vs->y∈vs->∀a:Bool->Gb->Prop,a (decide<|rk x<rk y) s'->Hb (Kb prog w) A.in1.in1 (keyLt' κ x y) a (λ_ _=>Al) s')(h:∀d:Up,d.Perm vs->d.Pairwise (λx y=>rk x<=rk y)->Q (.ref<|s.heap.objs.size+1) {s with heap:=sortedAll s.heap vs d.toArray}):Hb (Kb prog w) A (call (.builtin "sorted") [.ref l]) Q E s:=by
 refine Calls.call_function_entry kind_sorted plain_sorted entry_sorted (args_sorted1 _) ?_;unfold Builtin.«sorted»;refine Ab (m:=checkCount "sorted" 1 1 _)<|Db ?_;refine Ab<|collect_list hl ?_ (hsz:=i);refine Ab<|Xf ?_ i;have hsz:((s.heap.push<|seqObj "list" #[] 0).update s.heap.objs.size (W2 (·++vs.toArray))).objs.size=s.heap.objs.size+1:=by rw[P8,Wh]
 have j:(((s.heap.push<|seqObj "list" #[] 0).update s.heap.objs.size (W2 (·++vs.toArray))).push<|seqObj "list" vs.toArray 0).get? (s.heap.objs.size+1)=O (seqObj "list" vs.toArray 0):=by rw[<-hsz];exact L0 _ Z
 have keep:∀b o,s.heap.get? b=O o->b≠s.heap.objs.size+1/\(((s.heap.push<|seqObj "list" #[] 0).update s.heap.objs.size (W2 (·++vs.toArray))).push<|seqObj "list" vs.toArray 0).get? b=O o:=λb o q=>by have c:b<s.heap.objs.size:=G0 q;refine⟨U0<|v7 c,?_⟩;rw[u7 _ _ _ (by rw[hsz];exact U0<|v7 c),G4 _ _ _ _<|U0 c,u7 _ _ _<|U0 c];exact q
 show Hb _ _ _ _ _ {s with heap:=((s.heap.push<|seqObj "list" #[] 0).update s.heap.objs.size (W2 (·++vs.toArray))).push<|seqObj "list" vs.toArray 0};rw[hsz];refine Ab<|Xb<|wpAny_call_entry slot_list_sort ⟨_,j,Z⟩ entry_list_sort (MG (κ:=κ) (rk:=rk) j i (λv s' k a q=>t v s' (λb o e=>k b o (keep b o e).1 (keep b o e).2) _ a q)
   (λs' k x y hx hy a q=>c s' (λb o e=>k b o (keep b o e).1 (keep b o e).2) x y hx hy a q) λd o1 o2=>⟨_,Z,?_⟩)<|args_list_sort _;exact Db ⟨_,Z,h d o1 o2⟩
end
end L2
namespace SG
structure Wk{α:Type}(lt:α->α->Bool):Prop where
 irr:∀a,lt a a=Um
 tr:∀a b c,lt a b=Ul->lt b c=Ul->lt a c=Ul
 nt:∀a b c,lt a b=Um->lt b c=Um->lt a c=Um
theorem Gq{α:Type}{p q:α->Bool}:∀{l:List α},(∀a∈l,p a=Ul->q a=Ul)->l.countP p<=l.countP q
 |[],_=>A0 _
 |a::l,h=>by
  have b:=Gq (l:=l) λx hx=>h x<|i0 _ hx;rw[R8,R8];have:=h a u0;cases c:p a
  .simp;exact G8 b
  .rw[this c];simp;omega
theorem By{α:Type}{p q:α->Bool}:∀{l:List α},(∀a∈l,p a=Ul->q a=Ul)->(∃a∈l,p a=Um/\q a=Ul)->l.countP p<l.countP q
 |[],_,⟨_,h,_⟩=>by simp at h
 |a::l,h,⟨x,hx,b,c⟩=>by
  rw[R8,R8];rcases T0.mp hx with rfl|hx
  .have:=Gq (l:=l) λx hx=>h x<|i0 _ hx;rw[b,c];simp;exact u4 this
  .have d:=By (l:=l) (λx hx=>h x<|i0 _ hx) ⟨x,hx,b,c⟩;have:=h a u0;cases e:p a
   .simp;exact Nat.lt_add_right _ d
   .rw[this e];simp;omega
theorem rank(W:Wk lt){l:List α}{x y:α}(hx:x∈l)(hy:y∈l):Uo (l.countP (λa=>lt a x)<l.countP (λa=>lt a y))=lt x y:=by
 cases h:lt x y
 .rw[decide_eq_false_iff_not,Nat.not_lt];refine Gq λa _ b=>?_;cases c:lt a x
  .rw[W.nt a x y c h]at b;cases b
  .rfl
 .rw[decide_eq_true_eq];exact By (λa _ b=>W.tr a x y b h) ⟨x,hx,W.irr x,h⟩
theorem lex_wk:Wk HT.lexLt:=by
 refine⟨λa=>?_,λa=>?_,λa=>?_⟩
 .induction a with
  |nil=>rfl
  |cons x a k=>rw[HT.lexLt_cons,Ib Z];exact k
 .induction a with
  |nil =>
   intro b c e d;cases c with
   |nil=>cases b<;>cases d
   |cons z c=>rfl
  |cons x a k =>
   intro b c e d;cases b with
   |nil=>cases e
   |cons y b =>
    cases c with
    |nil=>cases d
    |cons z c =>
     rw[HT.lexLt_cons]at e d ⊢;by_cases j:x=y
     .subst j;rw[Ib Z]at e;by_cases i:x=z
      .subst i;rw[Ib Z]at d ⊢;exact k b c e d
      .rw[if_neg i]at d ⊢;exact d
     .rw[if_neg j]at e;have e:=Ob e;by_cases i:y=z
      .subst i;rw[if_neg j];exact Sb e
      .rw[if_neg i]at d;have d:=Ob d;rw[if_neg<|Int.ne_of_lt<|gX e d];exact Sb<|gX e d
 .induction a with
  |nil =>
   intro b c e d;cases b with
   |nil=>exact d
   |cons y b=>cases e
  |cons x a k =>
   intro b c e d;cases c with
   |nil=>rfl
   |cons z c =>
    cases b with
    |nil=>cases d
    |cons y b =>
     rw[HT.lexLt_cons]at e d ⊢;by_cases j:x=y
     .subst j;rw[Ib Z]at e;by_cases i:x=z
      .subst i;rw[Ib Z]at d ⊢;exact k b c e d
      .rw[if_neg i]at d ⊢;exact d
     .rw[if_neg j]at e;have e:=Mc e;by_cases i:y=z
      .subst i;rw[if_neg j];exact Qb e
      .rw[if_neg i]at d;have d:=Mc d;rw[if_neg<|by lia];exact Qb<|S8<|K6 (Int.not_lt.1 d)<|Int.not_lt.1 e
theorem lex_eq:∀{a b:Ql},HT.lexLt a b=Um->HT.lexLt b a=Um->a=b
 |[],[],_,_=>rfl
 |[],_::_,h,_=>by cases h
 |_::_,[],_,h=>by cases h
 |x::a,y::b,c,d=>by
  rw[HT.lexLt_cons]at c d;by_cases e:x=y
  .subst e;rw[Ib Z]at c d;rw[lex_eq c d]
  .rw[if_neg e]at c;rw[if_neg<|λz=>e z.symm]at d;have c:=Mc c;have d:=Mc d
   lia
theorem sorted_uniq{lt:α->α->Bool}(c:∀a b,lt a b=Um->lt b a=Um->a=b):∀{l m:List α},l.Perm m->l.Pairwise (λa b=>lt b a=Um)->m.Pairwise (λa b=>lt b a=Um)->l=m
 |[],m,p,_,_=>by rw[List.nil_perm.mp p]
 |x::l,[],p,_,_=>by simp at p
 |x::l,y::m,p,d,i=>by
  have e:x=y:=by
   have hx:x∈y::m:=p.mem_iff.mp u0;have hy:y∈x::l:=p.mem_iff.mpr u0;rcases T0.mp hx with e|hx
   .exact e
   .rcases T0.mp hy with e|hy
    .exact e.symm
    .exact c x y ((V6.mp i).1 x hx) ((V6.mp d).1 y hy)
  subst e;rw[sorted_uniq c (List.perm_cons x |>.mp p) (V6.mp d).2 (V6.mp i).2]
end SG
namespace L2
open PySem.W
section
variable {X:Cx}{α:Type}[Inhabited α]
def hW(K:B0)(e:Hp->Eb->α->Prop)(fn:Hp->V->α)(lt:α->α->Bool):List V->Hp->VK->Prop:=λi H Q=>∃(a:Eb) (us:List V),i=[.ref a]/\SqL K H a us/\us.length<=sizeLine /\
 (∀v∈us,∃c x,v=.ref c/\e H c x)/\∀(p:Eb) (d:List V),H p=U->d.Perm us->(d.map<|fn H).Pairwise (λa b=>lt b a=Um)->Q (.ref p) (kZ H p<|.lst d)
theorem ik{us:List V}:∀{a:Up},a.Perm its->Vals us its->∃b:List V,b.Perm us/\Vals b a:=by
 intro a p;induction p generalizing us with
 |nil=>intro h;exact⟨us,List.Perm.refl _,h⟩
 |cons x _ e =>
  intro h;cases h with
  |cons h t=>obtain⟨b,p,r⟩:=e t;exact⟨_,p.cons _,.cons h r⟩
 |swap x y l =>
  intro h;cases h with
  |cons i t=>cases t with|cons j t=>exact⟨_,List.Perm.swap _ _ _,.cons j<|.cons i t⟩
 |trans _ _ c d=>intro h;obtain⟨B,k,m⟩:=d h;obtain⟨q,v,w⟩:=c m;exact⟨q,v.trans k,w⟩
end
theorem Cy:SG.Wk (λx y:Int=>decide<|x<y):=by
 refine⟨λa=>Qb<|U8 a,λa b c h k=>?_,λa b c h k=>?_⟩
 .exact Sb (gX (Ob h)<|Ob k)
 .have h:=Mc h;have k:=Mc k;exact Qb (by omega)
section
variable {w:Wb}{vs:Up}{kz:Ql}{keys:Zi Bb}{a kS:Eb}{e e1:Nat}{P:PySem.Fin->Gb->Prop}
theorem fD{st:Nb}(y:s.heap.get? kS=O (seqObj "list" keys e))(B:s.heap.get? a=O (seqObj "list" #[] e1))(k:kS≠a)(q:Tc keys.toList kz)(M:kz.length=vs.length)(t:vs.length<=sizeLine)(v:(arrOf st).Perm (keys.zip vs.toArray)) (C:SortedTo (arrOf st) (arrOf st).size) (F:Pd st=U)(h:∀h' x c,(∀b o,b≠a->b≠kS->s.heap.get? b=O o->h'.get? b=O o)->h'.get? a=O (seqObj "list" x c)->KskOut Um kz vs x.toList->P (.done<|.ret .none) {s with heap:=h'}):Hb (Kb prog w) A (ksk_tail a Um e1 (.ref kS) st) P E s:=by
 have i:keys.size=vs.length:=by have l:=q.length;rw[Z0]at l;omega
 have j:(arrOf st).size=vs.length:=by rw[v.size_eq,Array.size_zip,i,P0,Nat.min_self]
 have d:(s.heap.update kS<|W2 λ_=>(#[]:Zi Bb)).get? a=O (seqObj "list" #[] e1):=(G4 _ _ _ _ k.symm).trans B;obtain⟨m,G⟩:∃m,((s.heap.update kS<|W2 λ_=>(#[]:Zi Bb)).update a (W2 λ_=>(arrOf st).map (·.2))).get? a=O (seqObj "list" ((arrOf st).map (·.2)) m):=by have I:=Ze (n:=e1) d (λ_=>(arrOf st).map (·.2));exact⟨_,I⟩
 unfold ksk_tail;try dsimp only
 refine Ab<|Xd y Z ?_ (by rw[i];exact t)<|V2 _;refine Ab<|wpAny_letGo ?_;refine Ab<|Tf d Z ?_;refine Ab (Xd d Z ?_ (V2 _) (show ((arrOf st).map (·.2)).size<=sizeLine+1 from by rw[Array.size_map,j];exact q0 t<|B1 _ _));rw[F];simp only[bne_self_eq_false,U2,if_false];refine Db<|h _ _ m (λb o l L e=>?_) G<|ksk_out (b:=Um) q v C;rw[G4 _ _ _ _ l,G4 _ _ _ _ L];exact e
theorem kE(L:s.heap.get? kS=O (seqObj "list" keys e))(M:s.heap.get? a=O (seqObj "list" #[] e1))(y:kS≠a)(v:Tc keys.toList kz)(R:kz.length=vs.length)(Y:vs.length<=sizeLine)(h:∀h' nc c,(∀b o,b≠a->b≠kS->s.heap.get? b=O o->h'.get? b=O o)->h'.get? a=O (seqObj "list" nc c)->KskOut Um kz vs nc.toList->P (.done<|.ret .none) {s with heap:=h'}):Hb (Kb prog w) A (ksk_end a Um vs.toArray e1 (.ref kS) keys) P E s:=by
 have B:keys.size=vs.length:=by have h1:=v.length;rw[Z0]at h1;omega
 have yp:(keys.zip vs.toArray).size=vs.length:=by rw[Array.size_zip,B,P0,Nat.min_self]
 unfold ksk_end;simp only[U2,if_false];try dsimp only
 by_cases x:vs.toArray.size<2
 .rw[Ib x,Ib x];refine Ab<|Db ?_;rw[StateT.run_pure];refine Ab<|Db ?_;try dsimp only
  refine fD (st:=SortSt.mk' general' (keys.zip vs.toArray) #[] 7 U) L M y v R Y (Array.Perm.refl _) ?_ Z h;intro i j C q;have F:j<(keys.zip vs.toArray).size:=q;rw[yp]at F;rw[P0]at x;have:i=j:=by omega
  subst this;exact i8 _
 .rw[if_neg x,if_neg x];rw[P0]at x;rw[ksk_kind v<|by rw[B];omega];refine Ab<|Db ?_;have hI:IntKeys (keys.zip vs.toArray):=ksk_intKeys v;have mem:∀p:Mb,p∈(keys.zip vs.toArray).toList->∃n t,p.1=.int n t/\n∈kz:=λp k=>by
   obtain⟨n,t,e⟩:=hI p k;refine⟨n,t,e,?_⟩;rw[ksk_zip]at k;have:=(l6 k).1;rw[<-v.nums];exact J0.mpr ⟨p.1,this,by rw[e];rfl⟩
  have run:=SG.w_sort (prog:=prog) (w:=w) (A:=A) (E:=E) (κ:=oneType') (rk:=λp=>kz.countP λz=>decide<|z<numOf p.1) (S:=λp=>∃n t,p.1=.int n t/\n∈kz) (st:=SortSt.mk' oneType' (keys.zip vs.toArray) #[] 7 U) (s:=s)
   (Q:=λ_ d=>(arrOf d).Perm (keys.zip vs.toArray)/\Pd d=U/\SG.Sg (λp=>kz.countP λz=>decide<|z<numOf p.1) (arrOf d) 0 (keys.zip vs.toArray).size)
   (λ⟨x1,x2⟩ ⟨y1,y2⟩ ⟨n,t,ex,hn⟩ ⟨m,u,G,hm⟩ Q' l=>by have ex:x1=.int n t:=ex;have G:y1=.int m u:=G;subst ex G;show Hb (Kb prog w) A (keyLt' oneType' (.int n t)<|.int m u) Q' _ s;rw[keyLt'_oneType];have rk:=SG.rank Cy hn hm;have l:Q' (decide<|kz.countP (λz=>decide<|z<n)<kz.countP (λz=>decide<|z<m)) s:=l;rw[rk]at l;exact oneLt_int l) (λp k=>mem p k) Z Z Z λd p1 p2 p3=>⟨p1,p2,p3⟩;refine Ab<|wpAny_mono run ?_ λ_ _ e=>e;rintro⟨⟨⟩,d⟩ s' ⟨rfl,k,hf,I⟩;try dsimp only
  refine fD L M y v R Y k (λi j C q=>?_) hf h;have zf:(arrOf d).size=(keys.zip vs.toArray).size:=k.size_eq;have I:SG.Sg (λp=>kz.countP λz=>decide<|z<numOf p.1) (arrOf d) 0 (keys.zip vs.toArray).size:=I;have q:j<(arrOf d).size:=q;have g:=I i j (V2 _) C (by omega);have hi:i<(arrOf d).size:=R0 C q;rw[SG.KR_at hi,SG.KR_at q]at g;have jc:(arrOf d).toList.Perm (keys.zip vs.toArray).toList:=N5.mp k;obtain⟨n,t,en,mn⟩:=mem (arrOf d)[i] (jc.mem_iff.mp<|by simp);obtain⟨m,u,em,mm⟩:=mem (arrOf d)[j] (jc.mem_iff.mp<|by simp);have rk:=SG.rank Cy mm mn;have ki:x9 (arrOf d) i=n:=by unfold x9;rw[getElem?_pos (arrOf d) i hi];show numOf (arrOf d)[i].1=n;rw[en];rfl
  have kj:x9 (arrOf d) j=m:=by unfold x9;rw[getElem?_pos (arrOf d) j q];show numOf (arrOf d)[j].1=m;rw[em];rfl
  rw[ki,kj];try dsimp only at g
  rw[en,em]at g;have g:kz.countP (λz=>decide<|z<n)<=kz.countP (λz=>decide<|z<m):=g;rw[Qb<|Nat.not_lt.mpr g]at rk;have:=Mc rk.symm;omega
end
theorem yV{R:α->β->Prop}{l2 e:List β}(p:e.Perm l2):∀{l1:List α},Paired R l1 l2->∃i,i.Perm l1/\Paired R i e:=by
 induction p with
 |nil=>intro l1 h;exact⟨l1,List.Perm.refl _,h⟩
 |cons x p m =>
  intro l1 h;cases h with
  |cons r t=>obtain⟨l,q,z⟩:=m t;exact⟨_::l,q.cons _,.cons r z⟩
 |swap x y l =>
  intro l1 h;cases h with
  |cons r t =>
   cases t with
   |cons v t=>exact⟨_::_::_,List.Perm.swap _ _ _,.cons v<|.cons r t⟩
 |trans p q j k=>intro l1 h;obtain⟨l,a,b⟩:=k h;obtain⟨w,c,d⟩:=j b;exact⟨w,c.trans a,d⟩
theorem FU:∀{a:Ql}{b:List V}{its:Up},Vals b its->Paired (λ(p:Int×V) (q:Int×Bb)=>p.1=q.1/\RelV p.2 q.2) (a.zip b) (a.zip its)
 |[],_,_,_=>.nil
 |_::_,_,_,.nil=>.nil
 |_::_,_,_,.cons r t=>.cons ⟨Z,r⟩<|FU t
theorem iW:∀{a:List (Int×V)}{b:List (Int×Bb)},Paired (λ(p:Int×V) (q:Int×Bb)=>p.1=q.1/\RelV p.2 q.2) a b->a.map (·.1)=b.map (·.1)/\Vals (a.map (·.2)) (b.map (·.2))
 |_,_,.nil=>⟨Z,.nil⟩
 |_,_,.cons r t=>⟨by rw[E1,E1,r.1,(iW t).1],.cons r.2 (iW t).2⟩
theorem Inv.at(I:Inv X gb σ H s){A:Ae}(a:A.handled=X.A.handled)(b:A.frames=X.A.frames):Inv {X with A:=A} gb σ H s:=⟨⟨I.ok.mod,I.ok.kind,I.ok.glob,I.ok.blt,I.ok.above,I.ok.inj,I.ok.has,I.ok.cab,λc=>a.trans<|I.ok.hd c,b.trans I.ok.frames,I.ok.stk,I.ok.exf,I.ok.bs,I.ok.bsz,I.ok.noex,I.ok.exfs,I.ok.funs,I.ok.frf⟩,I.os,I.bare,I.base,I.loc,I.cell,I.free,I.freeC,I.pin,I.hok,I.len⟩
theorem gD{G:Ql}{Q:VK}(I:Inv X gb σ H s)(rv:Vals vs its)(zf:its.length<=sizeLine)(hcol:∀(R:Up->Gb->Prop),(∀(y:Dc) (tk:Nat),(∀b o,s.heap.get? b=O o->y.get? b=O o)->R its {s with heap:=y,toks:=tk})->Hb (Kb X.prog X.w) X.A.in1 (collect<|.ref l) R X.xe s)(ub:G.length=vs.length) (W:Nat->Hp->Prop) (w0:W 0 H)(turn:∀(i:Nat) (v:V) (u:Bb) (k:Int) (gb:Ut) (s:Gb) (H:Hp),vs[i]?=O v->G[i]?=O k->RelV v u->Inv {X with A:=X.A.in1.in1} gb σ H s->W i H -> Hb (Kb X.prog X.w) X.A.in1.in1 (call (.ref f) [u]) (EP {X with A:=X.A.in1.in1} gb σ λr H'=>r=.int k/\W (i+1) H') (λ_ _=>Al) s)(h:∀(H':Hp) (D:Eb) (L:List (Int×V)),W vs.length H'->H' D=U->L.Perm (G.zip vs)->L.Pairwise (λp q=>p.1<=q.1)->Q (.ref D) (kZ H' D (.lst (L.map (·.2))))):Hb (Kb X.prog X.w) X.A (call (.builtin "sorted") [.ref l] [(Str.ofString "key",.ref f)]) (EP X gb σ Q) X.xe s:=by
 have hl:=rv.length;have hz:vs.length<=sizeLine:=by omega
 refine call_function_entry_kw kind_sorted plain_sorted entry_sorted (ksk_s1 _ _) ?_;unfold Builtin.«sorted»;refine Ab (m:=checkCount "sorted" 1 1 _)<|Db ?_;refine Ab<|hcol _ λh0 tk0 kp0=>?_;have I:=I.kept (t':=tk0) kp0;generalize ({s with heap:=h0,toks:=tk0}:Gb)=s at I ⊢;refine Ab<|Xf ?_ zf;have yn:(s.heap.push<|seqObj "list" its.toArray 0).get? s.heap.objs.size=O (seqObj "list" its.toArray 0):=L0 _ Z;have keep:∀b o,s.heap.get? b=O o->(s.heap.push<|seqObj "list" its.toArray 0).get? b=O o:=λb o q=>g0 _ q;have hsz2:(s.heap.push<|seqObj "list" its.toArray 0).objs.size=s.heap.objs.size+1:=Wh ..;show Hb _ _ _ _ _ {s with heap:=s.heap.push<|seqObj "list" its.toArray 0};generalize s.heap.push (seqObj "list" its.toArray 0)=y at *;refine Ab<|Xb<|wpAny_call_entry_kw slot_list_sort ⟨_,yn,Z⟩ entry_list_sort ?body<|ksk_l1 _ _
 case body =>
  show Hb (Kb X.prog X.w) X.A.in1.in1 (Builtin.«list.sort» ⟨[.ref<|s.heap.objs.size],[(Str.ofString "key",.ref f)]⟩) _ _ _;rw[ksk_t1];unfold ksk_tree;refine Ab<|Ei yn Z ?_;refine Ab<|Xd yn Z ?_ (by rw[P0];exact zf)<|V2 _;obtain⟨M,ho1⟩:∃M,(y.update (s.heap.objs.size)<|W2 λ_=>(#[]:Zi Bb)).get? (s.heap.objs.size)=O (seqObj "list" #[] M):=⟨_,Ze yn λ_=>#[]⟩;refine Ab<|Tf ho1 Z ?_;refine Ab (Me ?_<|by show its.length<=_;exact zf);refine Ab<|Xf ?_<|V2 _;refine Xb ?_;have hk3:((y.update (s.heap.objs.size)<|W2 λ_=>(#[]:Zi Bb)).push<|seqObj "tuple" its.toArray 0).objs.size=s.heap.objs.size+2:=by rw[Wh,P8,hsz2]
  have P:∀b o,s.heap.get? b=O o->(((y.update (s.heap.objs.size)<|W2 λ_=>(#[]:Zi Bb)).push<|seqObj "tuple" its.toArray 0).push<|seqObj "list" #[] 0).get? b=O o:=λb o q=>by refine g0 _<|g0 _ ?_;rw[G4 _ _ _ _<|U0<|G0 q];exact keep b o q
  have oi:(((y.update (s.heap.objs.size)<|W2 λ_=>(#[]:Zi Bb)).push<|seqObj "tuple" its.toArray 0).push<|seqObj "list" #[] 0).get? (s.heap.objs.size)=O (seqObj "list" #[] M):=g0 _<|g0 _ ho1;have xi:(((y.update (s.heap.objs.size)<|W2 λ_=>(#[]:Zi Bb)).push<|seqObj "tuple" its.toArray 0).push<|seqObj "list" #[] 0).get? (s.heap.objs.size+2)=O (seqObj "list" #[] 0):=by rw[<-hk3];exact L0 _ Z
  show Hb _ _ (ksk_rest (s.heap.objs.size) (.ref f) Um its.toArray M<|.ref ((y.update (s.heap.objs.size)<|W2 λ_=>(#[]:Zi Bb)).push<|seqObj "tuple" its.toArray 0).objs.size) _ _ {s with heap:=((y.update (s.heap.objs.size)<|W2 λ_=>(#[]:Zi Bb)).push<|seqObj "tuple" its.toArray 0).push<|seqObj "list" #[] 0};rw[hk3];generalize ((y.update (s.heap.objs.size)<|W2 λ_=>(#[]:Zi Bb)).push<|seqObj "tuple" its.toArray 0).push (seqObj "list" #[] 0)=h3 at *;have fresh:∀j,∀q:Obj,h3.get? (s.heap.objs.size+j)=O q->(∀v,q.data≠.cell v)->h3.get? (s.heap.objs.size+j)=O q/\H (s.heap.objs.size+j)=U/\s.heap.objs.size+j≠X.env.locals/\s.heap.objs.size+j∉X.fs/\∀v,q.data≠.cell v:=λj q hq hd =>
   ⟨hq,I.hok.fresh<|B1 _ _,X2<|v0 I.lt<|B1 _ _,I.nofs<|B1 _ _,hd⟩;have I0:Inv X gb σ H {s with heap:=h3}:=I.kept (t':=s.toks) P;have I1:Inv {X with A:=X.A.in1.in1} ([(s.heap.objs.size+2,seqObj "list" #[] 0),(s.heap.objs.size,seqObj "list" #[] M)]++gb) σ H {s with heap:=h3}:=by
   refine(I0.at (A:=X.A.in1.in1) Z Z).pins_of λp a=>?_;rcases W0.mp a with a|a
   .rcases T0.mp a with rfl|a
    .exact fresh 2 _ xi (λv z=>by cases z)
    .rw[Y0.mp a];exact fresh 0 _ oi (λv z=>by cases z)
   .exact I0.pin p (S0 _ a)
  have F:∀j,∀x c,X.env.cells.lookup x=O c->c≠s.heap.objs.size+j:=λj x c z=>by obtain⟨v,o,ho,_⟩:=I.cell x c z;exact U0<|v0 (G0 ho)<|B1 _ _
  have xt:∀j,∀p∈X.pn++gb,p.1≠s.heap.objs.size+j:=λj p a=>U0<|v0 (G0 (I.pin p a).1)<|B1 _ _;have Y:∀j,X.s₀.heap.objs.size<=s.heap.objs.size+j:=λj=>q0 I.sz<|B1 _ _;unfold ksk_rest;refine Ab<|Qc ?_;first
   |rw[E9]
   |(rw[<-e8];simp only[List.toList_toArray])
  refine Ab<|ksk_fold (λi s'=>∃H' C e,Inv {X with A:=X.A.in1.in1} ([(s.heap.objs.size+2,seqObj "list" C e),(s.heap.objs.size,seqObj "list" #[] M)]++gb) σ H' s'/\Tc C.toList (G.take i)/\W i H') its 0 _
    ⟨H,#[],0,I1,by simpa using IntsAre.nil,w0⟩ ?step ?done
  case step =>
   rintro j x s' hx ⟨H',C,e,J,hk,wj⟩;simp only[o8]at hk wj ⊢;have hj:j<its.length:=(L1.mp hx).1;obtain⟨k,hkj⟩:∃k,G[j]?=O k:=⟨_,M0<|by omega⟩;obtain⟨v,hv⟩:∃v,vs[j]?=O v:=⟨_,M0<|by omega⟩;obtain⟨u,hu,ru⟩:=rv.get hv;rw[hx]at hu;cases hu;have hzk:C.size<=its.length:=by have y:=hk.length;rw[Z0,E2]at y;omega
   refine Ab<|Od<|wpAny_mono (turn j v x k _ s' H' hv hkj ru J wj) (λv xf he=>?_) λ_ _ hF=>hF.elim;obtain⟨r,H2,J2,rr,er,w2⟩:=he;subst er;obtain⟨t2,rfl⟩:=rr;try dsimp only
   have B:=J2.pin (s.heap.objs.size+2,seqObj "list" C e)<|S0 _<|i3 _<|.head _;have na:=J2.pin (s.heap.objs.size,seqObj "list" #[] M)<|S0 _<|i3 _<|.tail _<|.head _;obtain⟨c2,og⟩:∃c2,(xf.heap.update (s.heap.objs.size+2) (W2 (·.push (.int k t2)))).get? (s.heap.objs.size+2)=O (seqObj "list" (C.push<|.int k t2) c2):=⟨_,Ze B.1 (·.push (.int k t2))⟩;have ek:G.take (j+1)=G.take j++[k]:=by rw[O9,hkj];simp
   have ea:(C.push<|h8 k t2).toList=C.toList++[h8 k t2]:=by simp
   refine Ab (Xd B.1 Z ?_ (q0 hzk zf)<|by rw[Array.size_push];exact Q7<|q0 hzk zf);have K0:Inv {X with A:=X.A.in1.in1} gb σ H2 xf:=J2.pins_of λp a=>J2.pin p<|S0 _<|S0 _ a;have K1:=K0.turned (t':=xf.toks) (it:=s.heap.objs.size+2) (h':=xf.heap.update (s.heap.objs.size+2) (W2 (·.push (.int k t2)))) (λb o t ho=>(G4 _ _ _ _ t).trans ho) B.2.1 B.2.2.1 (.inr<|Y 2) (F 2)<|xt 2;refine Db ⟨Z,H2,C.push<|.int k t2,c2,K1.pins_of λp a=>?_,by rw[ea,ek];exact ksk_snoc hk,w2⟩;rcases W0.mp a with a|a
   .rcases T0.mp a with rfl|a
    .exact⟨og,B.2.1,B.2.2.1,B.2.2.2.1,λv z=>by cases z⟩
    .rw[Y0.mp a];exact⟨(G4 _ _ _ _<|U0<|nQ (by decide:0<2)).trans na.1,na.2⟩
   .exact K1.pin p (S0 _ a)
  case done =>
   rintro s' ⟨H',C,e,J,hk,wj⟩;have bt:Tc C.toList G:=by have e3:G.take (0+its.length)=G:=Y1 (by omega);rw[e3]at hk;exact hk
   have wj:W vs.length H':=by rw[hl];simpa using wj
   have B:=J.pin (s.heap.objs.size+2,seqObj "list" C e)<|S0 _<|i3 _<|.head _;have na:=J.pin (s.heap.objs.size,seqObj "list" #[] M)<|S0 _<|i3 _<|.tail _<|.head _;try dsimp only
   refine Ab<|Ei B.1 Z ?_;refine kE B.1 na.1 (X2<|nQ (by decide:0<2)) bt (by omega) zf λh' nc c kp ha ⟨qs,q1,q2,q3⟩=>⟨_,Z,?_⟩;refine Db ⟨_,Z,?_⟩;obtain⟨L,p1,p2⟩:=yV q1<|FU rv;obtain⟨p3,p4⟩:=iW p2;have K0:Inv X gb σ H' s':=(J.at (A:=X.A) Z Z).pins_of λp a=>J.pin p<|S0 _<|S0 _ a;have nn:H' (s.heap.objs.size)=none:=na.2.1;have lenP:(L.map (·.2)).length=vs.length:=by rw[j0,p1.length_eq,o6];omega
   have sr:∀{b:Eb},b∉[s.heap.objs.size,s.heap.objs.size+2]->b≠s.heap.objs.size/\b≠s.heap.objs.size+2:=λ{b} z=>⟨λq=>z (by simp[q]),λq=>z<|by simp[q]⟩;refine⟨.ref<|s.heap.objs.size,kZ H' (s.heap.objs.size) (.lst (L.map (·.2))),K0.step (g':=s'.gens) (d':=s'.drawn) (t':=s'.toks) (ch:=[s.heap.objs.size,s.heap.objs.size+2]) (λb t=>?_) (λb o _ _ t e _=>kp b o (sr t).1 (sr t).2 e) (λb o _ _ t e _=>⟨o.slots,kp b o (sr t).1 (sr t).2 e⟩)
     (λb o t e n=>by rw[zX (sr t).1];exact n) (λb o t e=>⟨o,kp b o (sr t).1 (sr t).2 e⟩) (λb xs e=>by rw[zX<|AX e nn];exact e) (λb o u e=>by rw[zX<|AX e nn];exact e) (λb L e=>⟨#[],by rw[zX<|AX e nn,e];simp⟩) (λm hm=>?_) (λb u e=>?_) K0.bare,Z,h H' _ L wj nn p1 ?_⟩
   .rcases T0.mp t with rfl|t
    .exact⟨.inr<|Y 0,na.2.2.1,F 0,xt 0⟩
    .rw[Y0.mp t];exact⟨.inr<|Y 2,B.2.2.1,F 2,xt 2⟩
   .obtain⟨o,es,ep,ho,r⟩:=hm;exact⟨o,es,ep,kp _ o (U3 na.2.2.1) (U3 B.2.2.1) ho,r⟩
   .by_cases z:b=s.heap.objs.size
    .subst z;rw[OX]at e;cases e;exact⟨by rw[lenP];exact hz,nc.toList,c,by rw[q2];exact p4,by rw[ha,QQ]⟩
    .rw[zX z]at e;have hb3:∀d v,H' d=O v->d≠s.heap.objs.size+2:=λd v q z=>by rw[z]at q;have:=B.2.1;rw[this]at q;cases q
     refine(K0.hok b u e).stay (λd v hd q=>?_) (λd q=>by rw[zX<|AX q nn];exact q) λd xs q=>by rw[zX<|AX q nn];exact q
     rcases hd with rfl|hd
     .exact kp _ _ z (hb3 _ _ e) q
     .exact kp _ _ (AX hd nn) (hb3 _ _ hd) q
   .have:(L.map (·.1)).Pairwise (·<=·):=by
     rw[p3,J3];exact q3.imp λh=>by simpa using h
    rw[J3]at this;exact this
theorem Hq{kz:Ql}{Q:VK}(I:Inv X gb σ H s)(t:SqL X.K H l vs)(x:kz.length=vs.length)(W:Nat->Hp->Prop)(y:W 0 H)(turn:∀(i:Nat) (v:V) (u:Bb) (k:Int) (gb:Ut) (s:Gb) (H:Hp),vs[i]?=O v->kz[i]?=O k->RelV v u->Inv {X with A:=X.A.in1.in1} gb σ H s->W i H -> Hb (Kb X.prog X.w) X.A.in1.in1 (call (.ref f) [u]) (EP {X with A:=X.A.in1.in1} gb σ λr H'=>r=.int k/\W (i+1) H') (λ_ _=>Al) s)(h:∀(H':Hp) (D:Eb) (a:List (Int×V)),W vs.length H'->H' D=U->a.Perm (kz.zip vs)->a.Pairwise (λp q=>p.1<=q.1)->Q (.ref D) (kZ H' D (.lst (a.map (·.2))))):Hb (Kb X.prog X.w) X.A (call (.builtin "sorted") [.ref l] [(Str.ofString "key",.ref f)]) (EP X gb σ Q) X.xe s:=by
 obtain⟨its,d,⟨o,n,e,c,B,C⟩,G⟩:=I.list t;have hl:=d.length;have j:its.length<=sizeLine:=by omega
 refine gD I d j (λR F=>collect_list (vs:=its) ⟨o,e,c,n,by first|exact C|exact B⟩ (F _ s.toks λb o q=>?_) j) x W y turn h;have m:b<s.heap.objs.size:=G0 q;rw[G4 _ _ _ _<|U0 m,u7 _ _ _<|U0 m];exact q
end L2
namespace L3
open L2
structure Lm(K:Fg)(x:Str)(fd:Hd):Prop where
 ex:∃c P,fd.code=.ref c/\S6 K c P=Ul/\(P,x)∈TB K/\∀z∈TB K,z.1=P->z.2=x
section
variable {K:Fg}{F:Hp}
theorem DaAll.zip:∀{a:Ql}{b:List V}{ds:List D},DaAll K F b ds->Paired (λ(p:Int×D) (q:Int×V)=>p.1=q.1/\Da K F q.2 p.2) (a.zip ds) (a.zip b)
 |[],_,_,_=>.nil
 |_::_,_,_,.nil=>.nil
 |_::_,_,_,.cons r t=>.cons ⟨Z,r⟩<|DaAll.zip t
theorem Iq:∀{a:List (Int×D)}{b:List (Int×V)},Paired (λ(p:Int×D) (q:Int×V)=>p.1=q.1/\Da K F q.2 p.2) a b->a.map (·.1)=b.map (·.1)/\DaAll K F (b.map (·.2)) (a.map (·.2))
 |_,_,.nil=>⟨Z,.nil⟩
 |_,_,.cons r t=>⟨by rw[E1,E1,r.1,(Iq t).1],.cons r.2 (Iq t).2⟩
theorem lE{b:List D}(h:Da K F v (.list b)):∃a c,v=.ref a/\F a=O (.lst c)/\DaAll K F c b:=by
 cases h with
 |lst e t=>exact⟨_,_,Z,e,t⟩
theorem Dy(h:Da K F v (.int k)):v=.int k:=by cases h;rfl
end
section
variable {P:Cc}{w:Wb}{K:Fg}{mg:Str->Yi Bb}{base:Dc}
end
theorem mE{K:Fg}(j:SqL K H a (ns.map V.int))(k:∀z∈TB K,H z.1=O (.tbl #[])):∃F:Hp,Rel K ⟨H,F,λ_=>U⟩ F [O<|.ref a] H [O<|.fz<|SK ns]:=by
 refine⟨λb=>match H b with
   |some (.tbl d)=>U
   |o=>o,?_⟩;have l:Sub (λb=>match H b with
   |some (.tbl d)=>U
   |o=>o) H:=λb o e=>by
  dsimp only at e;split at e
  .cases e
  .exact e
 have c:∀b u,H b=O u->stk u=Um\/(∃o x,u=.frz o x)->(match H b with
   |some (.tbl d)=>U
   |o=>o)=O u:=λb u e s=>by
  rw[e];cases u<;>first|rfl|(rcases s with s|⟨_,_,s⟩<;>cases s)
 have i:SqL K (λb=>match H b with
   |some (.tbl d)=>U
   |o=>o) a (ns.map V.int):=by
  rcases j with (h|⟨o,h⟩)|h
  .exact .inl (.inl<|c _ _ h<|.inl Z)
  .exact .inl (.inr ⟨o,c _ _ h<|.inr ⟨_,_,Z⟩⟩)
  .exact .inr h
 have m:TabOk K (λb=>match H b with
   |some (.tbl d)=>U
   |o=>o) H:=λz t=>by
  have e:=k z t;refine⟨by dsimp only;rw[e],#[],e,trivial,λpos v q=>?_⟩;cases q
 exact sU (vs:=[.ref a]) (ds:=[SK ns]) l m<|.cons (.scr i) .nil
end L3
namespace L2
def Ey(ts:List Eb)(H:Hp):Prop:=(∀b,H b=U\/(∃o a,H b=O (.frz o<|.lst a))\/b∈ts)/\∀P∈ts,H P=O (.tbl #[])
theorem jk{K:B0}(KX:K.In i.heap) (I:∀P∈ts,i.heap.get? P=O (y9 #[])) (Y:∀P∈ts,K.lookup P=U/\∃c,S6 K c P=Ul)(gm:i.heap.Ns Ub mg) (j:i.heap.Ns Hf mb) (hbb:∀x:Str,x ≠ "__name__"->mb x=Gc x) (hlim:i.heap.NoLimit) (vp:eP mg i.heap) (hg:i.gens=#[])(R:i.heap.get? a=O {cls:=.type "list",data:=.seq y.toArray}) (hi:Tc y ns) (hl:ns.length<=sizeLine) (hr:Room k Pg)(F:∀base:Dc,K.In base->base.Ns Ub mg->FnOk P w K mg base CX k fa fd [x] sp) (L:∀(s:Gb) (u:Bb),Jh s fd ⟨[u],[]⟩ [(x,u)])(xp:∀H:Hp,Ey ts H->SqL K H a (ns.map V.int)->sp [.ref a] H (λv _=>v=.bl Ul) λ_ _ _=>Al)(hCX:∀H e s',CX [] H i (λ_ _ _=>Al) e s'->Al):Ef (Kb P w) Pg (.call (.ref fa) ⟨[.ref a],[]⟩) (λr s'=>r=.ok (.ret<|.bool Ul)/\OldK i.heap s'.heap/\s'.os=i.os/\Rf s'.gens) i:=by
 have rv:=NH hi;have lenV:=hi.length;have nat:a∉ts:=λz=>by have:=I a z;rw[R]at this;cases this
 have B:∀H:Hp,Ey ts H->SqL K H a (ns.map V.int)->HOk P w H i.heap->(∀b,H b≠U->b=a\/b∈ts)->(H a≠U->K.lookup a=U) ->
   Ef (Kb P w) Pg (.call (.ref fa) ⟨[.ref a],[]⟩) (λr s'=>r=.ok (.ret<|.bool Ul)/\OldK i.heap s'.heap/\s'.os=i.os/\Rf s'.gens) i:=by
  intro H hO hS hok hA hK;have gg:∀{b:Eb}{o:Obj},i.heap.get? b=O o->H b=U->(kG i.heap H).get? b=O o:=λe n=>Yk e n;have noA:∀{b:Eb}{o:Obj},i.heap.get? b=O o->o.cls≠.none->o.cls≠.type "list"->H b=none:=λ{b o} e d1 d2=>by
   cases q:H b with
   |none=>rfl
   |some u =>
    rcases hA b (by rw[q];simp) with e'|e'
    .subst e';rw[R]at e;cases e;exact absurd Z d2
    .rw[I b e']at e;cases e;exact absurd Z d1
  have noD:∀{b:Eb}{o:Obj}{es:Zi DictEntry}{ep:Nat},i.heap.get? b=O o->o.data=.dict es ep->H b=none:=λ{b o es ep} e d=>by
   cases q:H b with
   |none=>rfl
   |some u =>
    rcases hA b (by rw[q];simp) with e'|e'
    .subst e';rw[R]at e;cases e;have d':Data.seq y.toArray _=Data.dict es ep:=d;cases d'
    .rw[I b e']at e;cases e;cases d
  have l:∀{b:Eb}{m:Str->Yi Bb},i.heap.Ns b m->(kG i.heap H).Ns b m:=λ{b m} ⟨o,es,ep,e,d,r⟩=>⟨o,es,ep,gg e<|noD e d,d,r⟩;have hKb:K.In (kG i.heap H):=λb o e=>gg (KX b o e) (by
    cases q:H b with
    |none=>rfl
    | some u =>
      rcases hA b (by rw[q];simp) with e'|e'
      . subst e';rw[hK<|by rw[q];simp]at e;cases e
      . rw[(Y b e').1]at e;cases e);have hM:Mod K mg (kG i.heap H):=⟨hKb,l gm,⟨mb,l j,hbb⟩,let ⟨mc,h1,h2⟩:=hlim;⟨mc,l h1,h2⟩,let ⟨bm,o,b1,b2,b3,b4,b5,b6⟩:=vp;⟨bm,o,b1,b2,gg b3 (noA b3 (by rw[b4];exact λz=>by cases z)<|by rw[b4];intro z;injection z with z;exact absurd z<|by decide),b4,b5,b6⟩⟩;have e0:Env0 P w K mg (kG i.heap H) Pg [] i H:=⟨Z,hM,λb o e=>GB e,A1<|ox _ _,trivial,λb j=>absurd (show b∈([]:List Eb) from j)<|by simp,hok,.of_eq hg⟩;refine Rg ((F _ hKb<|l gm).run Pg [] i H ⟨[.ref a],[]⟩ [.ref a] [.ref a] _ _ hr e0 (L i<|.ref a) (.cons Z .nil)<|xp H hO hS) λr s' h=>?_;cases r with
  |error e=>exact(hCX H e s' h).elim
  |ok fl =>
   cases fl with
   |next=>exact False.elim h
   |brk=>exact False.elim h
   |cont=>exact False.elim h
   |ret u =>
    obtain⟨v,H',os,bare,un,C,r',q⟩:=h;have q':v=.bl true:=q;subst q';obtain rfl:u=pX true:=r';have G:∀b∈ts,∃M,s'.heap.get? b=O (y9<|#[]++M):=λb j=>by obtain⟨M,e⟩:=un.tbls b _<|hO.2 b j;exact⟨M,(show ObjOk P w H' s'.heap b (.tbl<|#[]++M) from C b _ e)⟩
    have cm:∀b o,b∉ts->i.heap.get? b=O o->s'.heap.get? b=O o:=λb o j e=>by
     cases q:H b with
     |none=>exact un.keep b o e q (by intro z;exact absurd (show b∈([]:List Eb) from z)<|by simp) (by simp)
     |some u =>
      rcases hO.1 b with z|⟨ob,xs,z⟩|z
      .rw[q]at z;cases z
      .have z2:=un.frzs b ob _ z;obtain⟨e1,_⟩:=hok b _ z;obtain⟨e2,_⟩:=C b _ z2;rw[e]at e1;cases e1;exact e2
      .exact absurd z j
    refine⟨Z,⟨λb o e=>?_,λb o e=>?_⟩,os,bare⟩
    .by_cases j:b∈ts
     .obtain⟨M,e2⟩:=G b j;obtain⟨_,c,hc⟩:=Y b j;have e3:=I b j;rw[e]at e3;cases e3;exact .inr<|.inl ⟨((PySem.W.codeHd_of_K KX hc).tab<|I b j).isCodeTable,Z,#[],M,Z,e2⟩
     .exact .inl (cm b o j e)
    .by_cases j:b∈ts
     .obtain⟨M,e2⟩:=G b j;exact⟨_,e2⟩
     .exact⟨_,cm b o j e⟩
 cases hk:K.lookup a with
 |some o =>
  have e:=KX a o hk;rw[R]at e;cases e;refine B (λb=>if b∈ts then O (.tbl #[]) else U) ⟨λb=>?_,λP hP=>Ib hP⟩ (.inr ⟨_,y.toArray,_,hk,Z,Z,Z,by rw[P0,lenV];exact hl,by simpa using rv⟩) (λb u z=>?_) (λb z=>?_) λz=>absurd (if_neg nat) z
  .by_cases j:b∈ts
   .exact .inr (.inr j)
   .exact .inl (if_neg j)
  .by_cases j:b∈ts
   .have z':=(Ib j).symm.trans z;cases z';exact I b j
   .have z':=(if_neg j).symm.trans z;cases z'
  .by_cases j:b∈ts
   .exact .inr j
   .exact absurd (if_neg j) z
 |none =>
  refine B (λb=>if b=a then O (.frz {cls:=.type "list",data:=.seq y.toArray}<|.lst<|ns.map V.int) else if b∈ts then O (.tbl #[]) else U) ⟨λb=>?_,λP hP=>?_⟩ (.inl<|.inr ⟨{cls:=.type "list",data:=.seq y.toArray},Ib Z⟩) (λb u z=>?_) (λb z=>?_) λ_=>hk
  .by_cases j:b=a
   .exact .inr (.inl ⟨_,_,Ib j⟩)
   .by_cases t:b∈ts
    .exact .inr (.inr t)
    .exact .inl (by dsimp only;rw[if_neg j,if_neg t])
  .have ne:P≠a:=λq=>nat<|q ▸ hP;show (if P=a then _ else if P∈ts then O (HO.tbl #[]) else U)=_;rw[if_neg ne,Ib hP]
  .have z:(if b=a then O (HO.frz {cls:=.type "list",data:=.seq y.toArray}<|.lst<|ns.map V.int) else if b∈ts then O (.tbl #[]) else U)=O u:=z;by_cases j:b=a
   .rw[Ib j]at z;cases z;subst j;exact⟨R,by rw[j0];exact hl,y,_,rv,R⟩
   .rw[if_neg j]at z;by_cases t:b∈ts
    .rw[Ib t]at z;cases z;exact I b t
    .rw[if_neg t]at z;cases z
  .have z:(if b=a then O (HO.frz {cls:=.type "list",data:=.seq y.toArray}<|.lst<|ns.map V.int) else if b∈ts then O (.tbl #[]) else U)≠none:=z;by_cases j:b=a
   .exact .inl j
   .rw[if_neg j]at z;by_cases t:b∈ts
    .exact .inr t
    .exact absurd (if_neg t) z
theorem walk_ofT{l:wQ}{K:Params->B0}{CX:Wb->Ew}{sp:Wb->Sp}(L:l.most=O n) (m:n<=sizeLine) (M:d.params.defaults=[]) (R:Room k Pg)(hY:∀(w:Wb) (h:Dc),YP w h->(K w.params).In h/\∀P∈ts,h.get? P=O (y9 #[]))(t:∀w:Wb,∀P∈ts,(K w.params).lookup P=U/\∃c,S6 (K w.params) c P=Ul)(F:∀(w:Wb) (mg:Str->Yi Bb) (fa:Eb) (h:Dc),(K w.params).In h->h.Ns Ub mg->mg d.name=O (.ref fa) -> ∃fd:Hd,(∀(s:Gb) (u:Bb),Jh s fd ⟨[u],[]⟩ [(x,u)]) /\ ∀base:Dc,(K w.params).In base->base.Ns Ub mg->FnOk l.prog w (K w.params) mg base (CX w) k fa fd [x] (sp w))(xp:∀(w:Wb) (H:Hp) (a:Eb) (ns:Ql),ns.length<=n->Ey ts H->SqL (K w.params) H a (ns.map V.int)->sp w [.ref a] H (λv _=>v=.bl Ul) λ_ _ _=>Al)(y:∀(w:Wb) (H:Hp) (s:Gb) (e:Bb) (s':Gb),CX w [] H s (λ_ _ _=>Al) e s'->Al):PySem.W.WalkO q qh XP YP l.row.toRowW d [] (λf B=>PySem.call f B):=by
 refine Att.attach_call L M λw C i mg mb fa o pm cd sf a B ns G Y ho hd bg hmg j zl I hg=>?_;obtain⟨KX,rg⟩:=hY w _ Y;obtain⟨fd,hb,hF⟩:=F w mg fa _ KX G.T.g hmg;exact jk KX rg (t w) G.T.g G.T.b G.T.builtins G.T.nolimit G.T.bmain hg j zl (q0 I m) R hF hb (λH hO hS=>xp w H a ns I hO hS) λH e s'=>y w H i e s'
end L2
namespace L3
open L2
noncomputable def La(K:Fg)(x:Str)(fd:Hd):Bool:=match VQ K x with
 |some (c,P)=>(match fd.code with | .ref a=>a==c|_=>Um)&&S6 K c P&&(TB K).all (λz=>z.1 != P||z.2==x)&&(TB K).any λz=>z.1==P&&z.2==x
 |none=>Um
noncomputable def QN(K:Fg)(ts:List Eb):Bool:=(ts.all λP=>(K.lookup P).isNone&&lamN.any λx=>match VQ K x with
  |some (c,a)=>a==P&&S6 K c P
  |none=>Um)&&(TB K).all λz=>ts.contains z.1
theorem cL{K:Fg}(h:QN K ts=Ul):(∀P∈ts,K.lookup P=U/\∃c,S6 K c P=Ul)/\∀z∈TB K,z.1∈ts:=by
 unfold QN at h;rw[X1]at h;refine⟨λP hP=>?_,λz a=>?_⟩
 .have:=L4.mp h.1 P hP;rw[X1]at this;refine⟨Option.isNone_iff_eq_none.mp this.1,?_⟩;obtain⟨x,_,q⟩:=List.any_eq_true.mp this.2;split at q
  .rename_i c b _;rw[X1]at q;exact⟨c,q.2⟩
  .cases q
 .have:=L4.mp h.2 z a;simpa using this
theorem walkT{l:wQ}{K:Params->B0}(i:∀ns:Ql,ns.length<=63->cLaw [.fz<|SK ns] λr _=>r=.fz (.bool Ul)) (j:Room k Pg) (m:l.most=O 63) (t:d.params.defaults=[])(y:∀(w:Wb) (h:Dc),YP w h->(K w.params).In h/\∀P∈ts,h.get? P=O (y9 #[])) (c:∀w:Wb,QN (K w.params) ts=Ul)(F:∀(w:Wb) (mg:Str->Yi Bb) (fa:Eb) (h:Dc),(K w.params).In h->h.Ns Ub mg->mg d.name=O (.ref fa) -> ∃fd:Hd,(∀(s:Gb) (u:Bb),Jh s fd ⟨[u],[]⟩ [(x,u)])/\∀base:Dc,(K w.params).In base->base.Ns Ub mg->FnOk l.prog w (K w.params) mg base GJ k fa fd [x] (tX (K w.params) cLaw)):PySem.W.WalkO q qh XP YP l.row.toRowW d [] (λf B=>PySem.call f B):=by
 refine L2.walk_ofT (ts:=ts) (n:=63) (k:=k) (x:=x) (CX:=λ_=>GJ) (sp:=λw=>tX (K w.params) cLaw) m (by decide) t j y (λw=>(cL<|c w).1) F (λw H a ns hl C G=>?_) λ_ _ _ _ _ z=>z;obtain⟨Fr,R⟩:=mE G λz I=>C.2 _<|(cL<|c w).2 z I;refine⟨_,Fr,[.fz<|SK ns],λr _=>r=.fz (.bool Ul),R,i ns hl,λv H' L r M _ _ b e=>?_⟩;subst e;have b:Da (K w.params) L v (.bool Ul):=b;cases b;rfl
end L3
namespace L2
open PySem.W
section
variable {X:Cx}{α:Type}[Inhabited α]{ip:Hp->Eb->α->Prop}{fn:Hp->V->α}{lt:α->α->Bool}{κ:Vc}
theorem iD(h:RelV (.ref c) u):u=.ref c:=h
noncomputable def rY(fn:Hp->V->α)(H:Hp):Bb->α
 | .ref c=>fn H<|.ref c
 |_=>default
theorem GU(W:SG.Wk lt)(hf:∀H c a,ip H c a->fn H (.ref c)=a)(zi:∀{gb:Ut}{s:Gb}{σ:St}{H:Hp},Inv X gb σ H s->∀its:Up,2<=its.length->(∀u∈its,∃c x,u=.ref c/\ip H c x)->∀(s':Gb),(∀b o,s.heap.get? b=O o->s'.heap.get? b=O o)->∀(E:Bb->Gb->Prop) (l:Vc->Gb->Prop),l κ s'->Hb (Kb X.prog X.w) X.A.in1.in1 (keyKind' its.toArray) l E s')(F:∀{gb:Ut}{s:Gb}{σ:St}{H:Hp},Inv X gb σ H s->∀(c d:Eb) (x y:α),ip H c x->ip H d y->∀(s':Gb),(∀b o,s.heap.get? b=O o->s'.heap.get? b=O o)->∀l:Bool->Gb->Prop,l (lt x y) s'->Hb (Kb X.prog X.w) X.A.in1.in1 (keyLt' κ (.ref c)<|.ref d) l (λ_ _=>Al) s'):nZ X (.builtin "sorted") (hW X.K ip fn lt):=by
 intro gb s σ H xs us Q I r h;obtain⟨a,vs,rfl,hs,hz,ag,q⟩:=h;obtain⟨u,rfl,B⟩:=iJ r;cases B;obtain⟨its,rv,⟨o,n,e,c,d1,d2⟩,hz'⟩:=I.list hs;have hl:=rv.length;have qo:∀u∈its,∃c x,u=.ref c/\ip H c x:=λu t=>by obtain⟨i,hi,rfl⟩:=Y4 t;have hi2:i<vs.length:=v0 hi<|A1 hl.symm;obtain⟨c,x,hv,hr⟩:=ag _<|W5 hi2;obtain⟨u,t,B⟩:=rv.get<|M0 hi2;rw[hv]at B;rw[M0 hi]at t;have:its[i]=u:=Z1 t;rw[this];exact⟨c,x,iD B,hr⟩
 have G:∀x∈its,∀y∈its,Uo ((its.map<|rY fn H).countP (λa=>lt a<|rY fn H x)<(its.map<|rY fn H).countP (λa=>lt a<|rY fn H y))=lt (rY fn H x) (rY fn H y):=λx hx y hy=>SG.rank W (u6 hx)<|u6 hy;refine gk (κ:=κ) (rk:=λv=>(its.map<|rY fn H).countP<|λa=>lt a<|rY fn H v) (vs:=its) ⟨o,e,c,n,by first|exact d2|exact d1⟩ (by lia) (λh2 s' k E' l L=>?_) (λs' k x y hx hy l L=>?_)<|λC o1 o2=>?_
 .exact zi I its h2 qo s' k E' l L
 .rw[G x hx y hy]at L;obtain⟨c,x',rfl,ye⟩:=qo x hx;obtain⟨d,y',rfl,M⟩:=qo y hy;refine F I c d x' y' ye M s' k l ?_;have e1:rY fn H (.ref c)=x':=hf H c x' ye;have e2:rY fn H (.ref d)=y':=hf H d y' M;rw[e1,e2]at L;exact L
 .obtain⟨ep,he⟩:=sortedAll_at s.heap its C.toArray;have hn:H (s.heap.objs.size+1)=none:=I.hok.fresh<|V8 _;obtain⟨R,p',r'⟩:=ik o1 rv;refine⟨.ref<|s.heap.objs.size+1,kZ H (s.heap.objs.size+1)<|.lst R,I.laid (t':=s.toks) (λb u e=>sortedAll_old e) (V8 _) ?_,Z,q _ R hn p' ?_⟩
  .exact⟨by rw[p'.length_eq];exact hz,C,ep,r',by rw[he]⟩
  .rw[J3,O4];intro i j hi hj xc;have Y:=r'.length;have o3:=O4.mp o2 i j (v0 hi<|A1 Y) (lt_of_lt_of_eq hj Y) xc;have hxm:C[i]'(by lia)∈its:=o1.mem_iff.mp<|W5 _;have hym:C[j]'(by lia)∈its:=o1.mem_iff.mp<|W5 _;have k2:=G _ hym _ hxm;rw[Qb<|Nat.not_lt.mpr o3]at k2;have ev:∀(m:Nat) (P:m<R.length),fn H R[m]=rY fn H (C[m]'(v0 P<|A1 Y)):=λm P=>by
    obtain⟨c,x,hv,hr⟩:=ag _<|p'.mem_iff.mp<|W5 P;obtain⟨u,t,B⟩:=r'.get<|M0 P;rw[M0<|lt_of_lt_of_eq P Y]at t;have t:C[m]'(by lia)=u:=Z1 t;rw[hv]at B ⊢;rw[t,iD B];rfl
   rw[ev i hi,ev j hj];exact k2.symm
end
section
variable {w:Wb}
theorem nE(b:Bool){n m:Int}{t u:Tok}{Q:Bool->Gb->Prop}{E:Bb->Gb->Prop}(h:Q (decide<|n<m) s):Hb (Kb prog w) A (oneLt' b (.int n t)<|.int m u) Q E s:=by
 cases b with
 |true=>exact oneLt_int h
 |false=>exact kat_one _ _<|lt_int h
theorem jD{b:Bool}{Q:Bool->Gb->Prop}:∀{ns c:Ql}{a ys:Up} (i:Nat),Tc a ns->Tc ys c->Q (HT.lexLt ns c) s->KatLex prog w A b (decide<|a.length<ys.length) Q (a.zip ys) i s
 |_,_,_,_,i,.nil,.nil,h=>h
 |_,_,_,_,i,.nil,.cons m u r,h=>h
 |_,_,_,_,i,.cons n t r,.nil,h=>h
 |_,_,_,_,i,.cons (vs:=a) (ns:=ns) n t r,.cons (vs:=ys) (ns:=c) m u d,h=>by
  have e:Uo ((h8 n t::a).length<(h8 m u::ys).length)=Uo (a.length<ys.length):=by simp
  rw[e];rw[HT.lexLt_cons]at h;show KatLex prog w A b _ Q ((h8 n t,h8 m u)::a.zip ys) i s;refine kat_cons<|SeqAt.EqAt.int_int n t m u _ _ _ _ ?_;refine kat_go (λq=>kat_yes ?_)<|λq=>kat_no ?_
  .rw[Ib<|by simpa using q]at h;exact jD (i+1) r d h
  .rw[if_neg<|by simpa using q]at h;exact nE _ h
end
def qk(H:Hp)(c:Eb)(r:Ql):Prop:=H c=O (.tup<|r.map V.int)/\r≠[]
noncomputable def vF(H:Hp):V->Ql
 | .ref c=>match H c with
  |some (.tup a)=>a.map FR
  |_=>[]
 |_=>[]
theorem NG(H:Hp)(c:Eb)(r:Ql)(h:qk H c r):vF H (.ref c)=r:=by show (match H c with|some (.tup a)=>a.map FR|_=>[])=r;rw[h.1];exact oY r
theorem Jq:nZ X (.builtin "sorted") (hW X.K qk vF HT.lexLt):=by
 refine GU (κ:=tuples' Ul) SG.lex_wk NG (λ{gb s σ H} I its h2 G s' k E' C i=>?_)<|λ{gb s σ H} I c d x y hx hy s' k C i=>?_
 .have j:∀(l:Up),(∀v∈l,∃(c:Eb) (r:Ql),v=.ref c/\qk H c r)->∃fs:Up,KatTups s'.heap l fs/\fs.length=l.length/\∀v∈fs,Looks (Kb X.prog X.w) s'.heap (Vh v) (.type "int"):=by
   intro l;induction l with
   |nil=>intro _;exact⟨[],.nil,Z,λv a=>by simp at a⟩
   |cons v l L =>
    intro hl;obtain⟨fs,q,F,B⟩:=L λx hx=>hl x<|i0 _ hx;obtain⟨c,r,rfl,M,P⟩:=hl v u0;obtain⟨_,R,e,ob,Y,e2,m,e3,_⟩:=(show ObjOk X.prog X.w H s.heap c (.tup<|r.map V.int) from I.hok c _ M);cases r with
    |nil=>exact absurd Z P
    |cons n r =>
     rw[E1]at e;cases e with
     |cons h1 e =>
      obtain⟨t,rfl⟩:=h1;refine⟨.int n t::fs,.cons (k _ _ Y) e2 e3 Z q,by simp[F],λv a=>?_⟩;rcases T0.mp a with rfl|a
      .exact Looks.of_pure Z
      .exact B v a
  obtain⟨fs,q,F,B⟩:=j its G;exact kat_kind (T:=.type "int") q (by lia) B (by decide) i
 .obtain⟨_,ic,e,oc,c1,c2,m1,c3,_⟩:=(show ObjOk X.prog X.w H s.heap c (.tup<|x.map V.int) from I.hok c _ hx.1);obtain⟨_,id',rd,od,d1,d2,m2,d3,_⟩:=(show ObjOk X.prog X.w H s.heap d (.tup<|y.map V.int) from I.hok d _ hy.1);refine kat_lt (k _ _ c1) c3 (k _ _ d1) d3 ?_;have:=jD (prog:=X.prog) (w:=X.w) (A:=X.A.in1.in1) (s:=s') (b:=Ul) (Q:=C) 0 (lZ e) (lZ rd) i;simpa using this
end L2
namespace L3
open L2
noncomputable def RN:D->(Sl->Prop)->Prop
 | .list d,Q=>∃jb:List Ql,d=jb.map (λr=>.tuple<|r.map n0)/\jb.length<=sizeLine/\(∀r∈jb,r≠[])/\∀c:List Ql,c.Perm jb->c.Pairwise (λa b=>HT.lexLt b a=Um)->Q (.ow<|.list<|c.map λr=>.tuple<|r.map n0)
 |_,_=>Al
theorem DaAll.mem{K:Fg}{us:List V}(h:DaAll K F us b):∀v∈us,∃d∈b,Da K F v d:=by
 induction h using DaAll.ind with
 |h0=>intro v h;cases h
 |h1 a t c =>
  intro v h;rcases T0.mp h with rfl|h
  .exact⟨_,u0,a⟩
  .obtain⟨d,h1,e⟩:=c v h;exact⟨d,i0 _ h1,e⟩
theorem DaAll.map_of{K:Fg}{F:Hp}{f:V->D}:∀{us:List V},(∀v∈us,Da K F v<|f v)->DaAll K F us (us.map f)
 |[],_=>.nil
 |v::us,h=>.cons (h v u0)<|DaAll.map_of λx hx=>h x<|i0 _ hx
theorem DaAll.map_eq{K:Fg}{F:Hp}{g:α->D}{f:V->α}(b:∀v a,Da K F v (g a)->f v=a):∀{us:List V}{as:List α},DaAll K F us (as.map g)->us.map f=as
 |[],[],_=>rfl
 |_::_,[],h=>by cases h
 |[],_::_,h=>by cases h
 |v::us,a::as,h=>by
  cases h with
  |cons h t=>rw[E1,b v a h,DaAll.map_eq b t]
theorem OG{K:Fg}{r:Ql}(h:Da K F v (.tuple<|r.map n0)):∃c,v=.ref c/\F c=O (.tup<|r.map V.int):=by
 cases h with
 |tup h t=>have:=t.ints_of;subst this;exact⟨_,Z,h⟩
theorem kD{K:Fg}:ZX K (hW K qk vF HT.lexLt) (o1 RN):=BG λG F σ H ρ x d Q Qd R I w k=>by
 cases d<;>first|exact w.elim|skip
 case list ds =>
  obtain⟨jb,e,L,M,w⟩:=w;subst e;obtain⟨a,us,rfl,P,m⟩:=I.list R.sub;have hl:=m.length;rw[j0]at hl;have q:∀v∈us,∃c r,v=.ref c/\qk F c r/\r∈jb:=λv i=>by obtain⟨d,hd,Y⟩:=m.mem v i;obtain⟨r,B,rfl⟩:=J0.mp hd;obtain⟨c,rfl,b⟩:=OG Y;exact⟨c,r,Z,⟨b,M r B⟩,B⟩
  have t:∀v∈us,vF H v=vF F v:=λv i=>by obtain⟨c,r,rfl,b,_⟩:=q v i;rw[NG F c r b,NG H c r ⟨R.sub _ _ b.1,b.2⟩]
  refine⟨a,us,Z,SqL.of P,le_of_eq_of_le hl L,λv i=>?_,λp j hp y C=>?_⟩
  .obtain⟨c,r,rfl,b,_⟩:=q v i;exact⟨c,r,Z,R.sub _ _ b.1,b.2⟩
  .have em:us.map (vF F)=jb:=by
    refine DaAll.map_eq (K:=K) (F:=F) (g:=λr:Ql=>J1<|r.map n0) (λv a h=>?_) m;obtain⟨c,rfl,b⟩:=OG h;show (match F c with|some (.tup xs)=>xs.map FR|_=>[])=a;rw[b];exact oY a
   have ee:j.map (vF H)=j.map (vF F):=S1 λv i=>t v<|y.mem_iff.mp i;rw[ee]at C;have l:DaAll K F j ((j.map<|vF F).map λr=>J1<|r.map n0):=by rw[O0];refine DaAll.map_of λv i=>?_;obtain⟨c,r,rfl,b,_⟩:=q v<|y.mem_iff.mp i;show Da K F (.ref c) (.tuple<|(vF F<|.ref c).map n0);rw[NG F c r b];exact .tup b.1<|DaAll.ints r
   obtain⟨R',r'⟩:=R.newOw (o:=.lst j) (d:=.list _) hp l;exact k _ _ F _ (Sub.refl _) R' r'<|w _ (by rw[<-em];exact y.map _) C
theorem zV{K:Fg}(h:X.K=K):nZ X (.builtin "sorted") (hW K qk vF HT.lexLt):=by subst h;exact Jq
end L3
namespace L2
theorem lD(a:A.handled=U){k:Kd}{it l:Eb}(ne:l≠it){xs:Zi Bb}:Draws P w A it [it,l] xs.size (λi x=>xs[i]?=O x) (λi h=>ItAt k h it l i/\SqAt k h l xs) where
 live:=λi h st=>by obtain⟨o,e,_⟩:=st.1.obj;exact⟨o,e⟩
 frame:=λi h h' st kp=>⟨st.1.at λo e=>kp it (by simp) o e,st.2.at λo e=>kp l (by simp) o e⟩
 item:=λi s Q E hi st b=>by refine cJ st.1 st.2 (S5 hi) λh' t' s'=>?_;exact b _ h' s.toks (S5 hi) ⟨t',st.2.at λo e=>(s'.2 l ne).trans e⟩ s'
 done:=λs Q E st c=>rJ a st.1 st.2 (by simp) c
noncomputable def L'(K:B0)(k:Kd)(l:Eb):It :=
 ⟨λi H=>∃ys x,Sq k K H l ys/\ys[i]?=O x,
  λi H x H'=>∃T y,H T=U/\x=.ref T/\H'=kZ H T (.tup [.int (i:Nat),y])/\∀ys,Sq k K H l ys->ys[i]?=O y,
  λi H=>∃ys,Sq k K H l ys/\ys.length<=i⟩
theorem sk{K:B0}(k:Kd)(e it l:Eb)(ne:e≠it)(nl:l≠it)(nel:e≠l):Turn P w K (.Tuple es kk pos) (L' K k l) [e,it] e (λi h=>(∃G,IsEnum h e it (i:Nat) G)/\ItAt k h it l i) where
 mem:=by simp
 obj:=λi h st b d=>by
  obtain⟨⟨G,B⟩,t⟩:=st;have d:b=e\/b=it:=by simpa using d
  rcases d with rfl|rfl
  .exact⟨_,B,λv e=>by cases e⟩
  .exact t.obj
 keep:=λi h h' st kp=>by obtain⟨⟨G,B⟩,t⟩:=st;exact⟨⟨G,kp _ (by simp) _ B⟩,t.at λo e=>kp _ (by simp) _ e⟩
 item:=by
  intro X hP hw hK hc i gb s σ H E I C st hg;subst hP hw hK;obtain⟨⟨G,B⟩,t⟩:=st;obtain⟨ys,y,q1,e1⟩:=hg;obtain⟨its,rv,p1,z1⟩:=I.sq q1;obtain⟨u,hu,ru⟩:=rv.get e1;have hh:X.A.in1.handled=none:=I.ok.hd hc;have gc:i<its.toArray.size:=by have:=(L1.mp hu).1;simpa using this
  refine Jg (lD hh nl (k:=k) (xs:=its.toArray)) B ⟨t,p1⟩ gc ne (by simp[ne,nel]) λx h' M hx b1 b2 b3 b4 b5=>?_;have hx:x=u:=by rw[show its.toArray[i]?=O u by simpa using hu]at hx;exact(Z1 hx).symm
  subst hx;have R:s.heap.objs.size≠e:=X2<|G0 B;refine⟨_,Z,wpAny_letOwnedTupleGo_enum (s:={s with heap:=h',toks:=M+1}) b1 λh2 he2 dm=>?_⟩;have kp:∀b o,b∉[e,it]->s.heap.get? b=O o->h2.get? b=O o:=λb o d a=>by
   have d:b≠e/\b≠it:=by simpa using d
   exact dm.extBut _ _ d.1<|b5 b o d.1 d.2 a
  have hT2:BZ h2 s.heap.objs.size (.int (i:Nat) M) x:=dm.extBut _ _ R b3;have L:H s.heap.objs.size=none:=I.hok.fresh<|A0 _;have I2:Inv X gb σ (kZ H s.heap.objs.size<|.tup [.int (i:Nat),y]) {s with heap:=h2}:=by
   have Y:∀b u,H b=O u->b∉[e,it]:=λb u a d=>by have:=(C b d).1;rw[a]at this;cases this
   refine I.step (g':=s.gens) (d':=s.drawn) (ch:=[e,it]) (λb d=>?_) (λb o _ _ j a _=>kp b o j a) (λb o _ _ j a _=>⟨o.slots,kp b o j a⟩) (λb o _ a n=>?_)
    (λb o j a=>⟨o,kp b o j a⟩) (λb xs a=>?_) (λb o xs a=>?_) (λb ps a=>⟨#[],?_⟩) (λm hm=>?_) (λb o a=>?_) I.bare
   .obtain⟨f0,f1,f2,f3,f4,f5⟩:=C b d;exact⟨f3,f1,f4,f5⟩
   .rw[zX<|U0<|G0 a];exact n
   .rw[zX<|AX a L];exact a
   .rw[zX<|AX a L];exact a
   .rw[zX<|AX a L,a];simp
   .obtain⟨o,mi,ep,ho,r⟩:=hm;exact⟨o,mi,ep,kp _ o (λd=>(C _ d).2.1 Z) ho,r⟩
   .by_cases d:b=s.heap.objs.size
    .subst d;rw[OX]at a;cases a;exact⟨by show 2<=sizeLine;decide,[.int (i:Nat) M,x],.cons ⟨M,Z⟩<|.cons ru .nil,_,hT2,Z,_,Z,Z⟩
    .rw[zX d]at a;refine(I.hok b o a).stay (λc v j q=>kp c v ?_ q) (λc q=>by rw[zX<|AX q L];exact q) λc xs q=>by rw[zX<|AX q L];exact q
     rcases j with rfl|j
     .exact Y _ _ a
     .exact Y _ _ j
  refine⟨.ref s.heap.objs.size,_,I2.tok<|M+1,Z,⟨_,y,L,Z,Z,λug hy=>by rw[I.sq_inj hy q1];exact e1⟩,⟨⟨x,by simpa using he2⟩,b2.1.at λo eo=>dm.extBut _ _ (U3 ne) eo⟩,λb d=>?_⟩;rw[zX ?_]
  .exact(C b d).1
  .intro z;subst z;have d:s.heap.objs.size=e\/s.heap.objs.size=it:=by simpa using d
   rcases d with z|z
   .exact R z
   .obtain⟨o,eo,_⟩:=t.obj;exact X2 (G0 eo) z
 done:=by
  intro X hP hw hK hc i gb s σ H E I C st hg;subst hP hw hK;obtain⟨⟨G,B⟩,t⟩:=st;obtain⟨ys,q1,qe⟩:=hg;obtain⟨its,rv,p1,z1⟩:=I.sq q1;have ub:=rv.length;have hh:X.A.in1.handled=none:=I.ok.hd hc;have hT:s.TypeIs (.ref e) "enumerate":=⟨_,B,Z⟩;unfold Md;refine Ab<|Od<|Zb (name:=Str.ofString "__next__") hT F.slot_enumerate_next<|wpAny_call_entry F.slot_enumerate_next hT F.entry_enumerate_next ?_<|F.args_enumerate_next_1 _;show Hb _ _ (Of (.ref e) 2 >>= _) _ _ _;refine Ab<|Yb B Z (x:=.ref it) Z ?_;refine Ab<|rJ hh t p1 (by simp;lia) λh' x kp ye=>?_;obtain⟨o,ho,jd⟩:=ye;refine Ab<|Ad (T:="StopIteration") (b:=Ul) ⟨o,ho,jd⟩ Lf ?_;refine Db ⟨Z,?_⟩;have Y:∀b u,H b=O u->b∉[e,it]:=λb u a d=>by have:=(C b d).1;rw[a]at this;cases this
  have km:∀b o,b∉[e,it]->s.heap.get? b=O o->h'.get? b=O o:=λb o d a=>by
   have d:b≠e/\b≠it:=by simpa using d
   exact kp b o d.2 a
  refine I.step (g':=s.gens) (d':=s.drawn) (ch:=[e,it]) (λb d=>?_) (λb o _ _ j a _=>km b o j a) (λb o _ _ j a _=>⟨o.slots,km b o j a⟩) (λb o _ a n=>n)
   (λb o j a=>⟨o,km b o j a⟩) (λb xs a=>a) (λb o xs a=>a) (λb ps a=>⟨#[],by rw[a];simp⟩) (λm hm=>?_) (λb o a=>?_) I.bare
  .obtain⟨f0,f1,f2,f3,f4,f5⟩:=C b d;exact⟨f3,f1,f4,f5⟩
  .obtain⟨o,mi,ep,ho,r⟩:=hm;exact⟨o,mi,ep,km _ o (λd=>(C _ d).2.1 Z) ho,r⟩
  .refine(I.hok b o a).stay (λc v j q=>km c v ?_ q) (λ_ q=>q) λ_ _ q=>q;rcases j with rfl|j
   .exact Y _ _ a
   .exact Y _ _ j
 self:=λ_ _ _ _ _ st h=>by obtain⟨⟨G,B⟩,_⟩:=st;exact Uf B h
noncomputable abbrev Fy(h:Dc)(k:Kd)(l:Eb):Dc:=(h.push<|UZ k l).push {cls:=.type "enumerate",data:=.fields #[.none,.bool Um,.ref h.objs.size,Le 0,.none,.none]}
theorem mD(k:Kd)(l:Eb)(b:Zi Bb):Qi (Builtin.«enumerate.__new__» ⟨[.type "enumerate",.ref l],[]⟩) (λ_ R s=>SqAt k s.heap l b/\R (.ok<|.ret<|.ref (s.heap.push<|UZ k l).objs.size) {s with heap:=Fy s.heap k l}):=
 .of_wp λprog w A R s h=>by
  obtain⟨e,g,d,i,os⟩:=s;obtain⟨hl,h⟩:=h;have m:=sub_enumerate;have hL:SqAt k (Shared.heap ⟨e,g,d,i,os⟩) l b:=hl;obtain⟨o,a⟩:∃o,e.get? l=O o:=by cases k<;>(obtain⟨o,j,_⟩:=hl;exact⟨o,j⟩)
  wp_walk using AutoSeq1.wpAny_loadPart' a
  refine wpAny_stack_any λst=>Db ?_;split
  .rename_i c _ _ _ _ _;cases (c==YQ "enumerate")
   .wp_walk using AutoSeq1.wpAny_loadPart' a,oW hL
    exact⟨_,Z,h⟩
   .wp_walk using AutoSeq1.wpAny_loadPart' a,oW hL
    exact⟨_,Z,h⟩
  .wp_walk using AutoSeq1.wpAny_loadPart' a,oW hL
   exact⟨_,Z,h⟩
def dL(K:B0)(b:TA):TI:=λσ H R=>b σ H λc a=>∃(k:Kd) (l:Eb) (ys:List V),c=[.ref l]/\Sq k K a l ys/\R (L' K k l) a
theorem oE{y:Bl}{kk:Nat}{B:Pos}{a:Vb}{w:TA}{p pos:Pos}(C:Gl X "enumerate")(G:X.mg "enumerate"=U)(L:PA X [a] w)(M:Pb [a] X.env=(Um,Wc a X.env)::Pb [] X.env:=by rfl)(P:(Sc pos<|Pb [] X.env).any (·.1)=false:=by rfl) :
  PI X (.Tuple y kk B) (.Call (.Name "enumerate" p) [a] [] pos) (dL X.K w):=by
 intro gb s σ H R I h;refine Call_<|TJ I C G boot_enumerate<|W3 (xZ (L pos gb s σ H _ I h) λus c ⟨vs,Y,i,r1,m⟩=>?_) M P;obtain⟨k,l,ys,e,m,q⟩:=m;subst e;obtain rfl:us=[.ref l]:=by cases r1 with|cons r rr=>cases r;cases rr;rfl
 obtain⟨its,rv,v,z1⟩:=i.sq m;have lt:l<c.heap.objs.size:=by
  cases k with
  |l=>obtain⟨o,e,_⟩:=v;exact G0 e
  |t=>obtain⟨o,e,_⟩:=v;exact G0 e
 refine Tg F.called_enumerate (by decide) (F.typeCall_enumerate_1 _) (F.newCall_enumerate_1 _) (λobj=>F.args_object_init_2 obj _) F.entry_enumerate_new (mD k l its.toArray) ⟨v,?_⟩;have x:(c.heap.push<|UZ k l).objs.size=c.heap.objs.size+1:=by simp[u3]
 have j:(Fy c.heap k l).get? (c.heap.push<|UZ k l).objs.size=O _:=L0 _ Z;have g1:(Fy c.heap k l).get? c.heap.objs.size=O (UZ k l):=g0 _ (L0 _<|by cases k<;>rfl);rw[x]at j;show _/\_;rw[x];have kp:∀b o,c.heap.get? b=O o->(Fy c.heap k l).get? b=O o:=λb o e=>g0 _<|g0 _ e;refine⟨⟨_,j,Z⟩,Uf (s:={c with heap:=Fy c.heap k l}) j ?_⟩;have n1:(c.heap.objs.size+1:Nat)≠c.heap.objs.size:=X2<|Z3 _;have n2:l≠c.heap.objs.size:=U0 lt;have n3:(c.heap.objs.size+1:Nat)≠l:=X2<|v7 lt;refine⟨_,[c.heap.objs.size+1,c.heap.objs.size],_,_,Y,Z,i.kept (t':=c.toks) kp,sk k _ _ l n1 n2 n3,⟨⟨_,j⟩,ItAt.new k g1⟩,λb d=>?_,q⟩;have d:c.heap.objs.size<=b:=by
  have d:b=c.heap.objs.size+1\/b=c.heap.objs.size:=by simpa using d
  rcases d with rfl|rfl
  .exact B1 _ _
  .exact A0 _
 exact i.fpOk d<|i.hok.fresh d
end L2
namespace L3
open L2
noncomputable def mj(a:List D):List D:=a.zipIdx.map λp=>J1 [.int (p.2:Nat),p.1]
noncomputable def Gy(a:AD):RD:=λρ Q=>WZ [a] ρ λc b=>match yZ b c with
 |false=>rZ b c λd=>match d with
  |[x]=>match Lv x with
   |some us=>Q (mj us) b
   |_=>Al
  |_=>Al
 |true=>Al
theorem Kq{K:Fg}(P:F a=O (match k1 with|Kd.l=>HO.lst xs|Kd.t=>HO.tup xs))(B:DaAll K F xs ds):Walks K (L' K k1 a) F (mj ds):=λi H m C q=>by
 have w:Sq k1 K H a xs:=QH<|q _ _<|C _ _ P;refine⟨λd G=>?_,λhl=>⟨xs,w,?_⟩⟩
 .simp only[mj,G1,v6]at G;obtain⟨⟨x,j⟩,I,rfl⟩:=G;rw[X8,v6]at I;obtain⟨x',ex,R⟩:=I;cases R;obtain⟨v,L,g2⟩:=B.get ex;refine⟨⟨xs,v,w,L⟩,λz H' ⟨T,y,e,ex,Y,k⟩=>?_⟩;subst ex Y;have k:=k xs w;rw[L]at k;cases k;have M:m T=none:=by
   cases z:m T with
   |none=>rfl
   |some o=>rw[q _ _ z]at e;cases e
  refine⟨kZ m T<|.tup [.int (i:Nat),v],Sub.new M,λc o b=>?_,λc o b=>?_,Sub.new e,.tup OX<|.cons (by rw[o8];exact .int _)<|.cons (g2.mono<|C.trans<|Sub.new M) .nil⟩
  .by_cases z:c=T
   .subst z;exact .inr e
   .rw[zX z]at b;exact .inl b
  .by_cases z:c=T
   .subst z;rw[OX]at b ⊢;exact b
   .rw[zX z]at b ⊢;exact q _ _ b
 .simp only[mj,j0,List.length_zipIdx]at hl;rw[B.length];exact A1 hl
theorem SN{K:Fg}(h:NZ K (Gy a) σ H R):dL K (MX<|[a].map (uX K)) σ H R:=by
 obtain⟨G,F,ρ,L,j,w,k⟩:=h;refine LZ j w λM H' l P c m d o b=>?_;split at b
 .rename_i e;obtain⟨Y,da,b⟩:=GZ d e o b;split at b
  .rename_i x;split at b
   .rename_i us q;cases da with
    |cons v t=>cases t;obtain⟨y,B,C,rfl,i,I⟩:=CG v q;exact⟨y,B,C,Z,QH<|d.sub _ _ i,k _ H' l _ c m d (Kq i I) b⟩
   .exact b.elim
  .exact b.elim
 .exact b.elim
section
variable {K:Fg}{e1:Vb}{a:AD}{p pos ve:Pos}
theorem TN{ts:Bl}(b:X.K=K)(c:X.mg "enumerate"=U)(d:WA X [e1] (MX<|[a].map (uX K)))(e:Gl X "enumerate":=by rfl)(i:NX e1=true:=by rfl):WI X (.Tuple ts kk ve) (.Call (.Name "enumerate" p) [e1] [] pos) (NZ K<|Gy a):=by subst b;exact⟨vT (oE e c d.h (DX i)<|by rfl) SN⟩
end
end L3
namespace L2
def fL(K:B0):V->V->Hp->VK->Prop:=λx y H Q=>y=.int (-1)/\∃a b,x=.ref a/\SqL K H a b/\∀p,H p=U->Q (.ref p) (kZ H p<|.lst b.reverse)
theorem pE(j:PE X e te)(l:PE X k tk):PE X (.Subscript e (.Slice U U (O k) p2) pos) (CI (fL X.K) te tk):=by intro gb s σ H Q I h;refine Zh<|xZ (j gb s σ H _ I h) λv m ⟨x,B,C,F,G⟩=>?_;refine wpAny_Slice ?_;rw[Uh];refine Db<|Db ?_;rw[evalPart_some];refine xZ (l gb m σ B _ C G) λvk c ⟨y,L,M,P,R⟩=>?_;obtain⟨rfl,a,Y,rfl,hx,q⟩:=R;obtain⟨t,rfl⟩:=P;cases F;have d:Inv X gb σ L {c with heap:=c.heap.push {cls:=.type "slice",data:=.fields #[.none,.none,.int (-1) t]}}:=M.kept (t':=c.toks) λb ob q=>g0 _ q;obtain⟨its,r,i,hz⟩:=d.list hx;have ub:=r.length;show Hb (Kb X.prog X.w) X.A (Yf e (.Slice U U (O k) p2) (.ref a)<|.ref c.heap.objs.size) (EP X gb σ Q) X.xe {c with heap:=c.heap.push {cls:=.type "slice",data:=.fields #[.none,.none,.int (-1) t]}};refine tail_any (T:="list") (ops:=[.ref a,.ref c.heap.objs.size]) i.isList.typeIs slot_list_getitem.lookup ?_ (by with_unfolding_all rfl);refine Ag i.isList (aX ..) .none .none (.int (-1) t) (by decide) ?_ (by rw[P0]<;>lia);rw[PySem.W.krv_pick];refine⟨.ref _,_,d.laid (t':=c.toks) (o:=.lst Y.reverse) (λb ob q=>g0 _ q) (A0 _) ?_,Z,q _<|d.hok.fresh<|A0 _⟩;exact⟨by rw[UQ];exact hz,its.reverse,0,r.reverse,L0 _ Z⟩
end L2
namespace L3
open L2
noncomputable def gL:D->D->(Sl->Prop)->Prop
 | .list a,.int j,Q=>j=-1/\Q (.ow<|.list a.reverse)
 |_,_,_=>Al
theorem qE{K:Fg}:ZX K (VY<|fL K) (o2 gL):=uF λG F σ H ρ x y d e Q c R i l w k=>by
 cases d<;>first|exact w.elim|skip
 cases e<;>first|exact w.elim|skip
 rename_i b j;have w:j=-1/\c (.ow<|.list b.reverse):=w;cases l.int;obtain⟨a,us,rfl,m,q⟩:=i.list R.sub;refine⟨by rw[w.1],a,us,Z,SqL.of m,λp t=>?_⟩;obtain⟨v,B⟩:=R.newOw (o:=.lst us.reverse) (d:=.list b.reverse) t q.reverse;exact k _ _ F _ (Sub.refl _) v B w.2
section
variable {K:Fg}{e e1 e2 e3 e4:Vb}{a b:AD}{td:TD}{pos p2 p1 pt:Pos}
theorem UN(c:X.K=K)(d:WE X e1 (uX K a))(i:WE X e2 (uX K b)):WE X (.Subscript e1 (.Slice U U (O e2) p2) pos) (lift K<|TK [a,b]<|o2 gL):=by subst c;exact⟨YO qE<|pE d.h i.h⟩
end
noncomputable def YR(ym:Bool):D->D->(Sl->Prop)->Prop
 | .int i,y,Q=>∃ns:Ql,Lv y=O (ns.map n0)/\Q (.fz<|.bool<|if ym then !Uo (i∈ns) else Uo (i∈ns))
 |_,_,_=>Al
theorem HU(i:Int):∀ns:Ql,uP (.int i) (ns.map V.int)=Uo (i∈ns)
 |[]=>by simp[uP]
 |n::ns=>by
  have:=HU i ns;simp only[uP,E1,i7]at this ⊢;rw[this,Z6];simp[eC];constructor
  .rintro (rfl|h)
   .exact .inl Z
   .exact .inr h
  .rintro (rfl|h)
   .exact .inl Z
   .exact .inr h
theorem YH(ns:Ql):(ns.map V.int).all nW=true:=by rw[L4];intro x hx;obtain⟨n,_,rfl⟩:=J0.mp hx;rfl
theorem VN{K:Fg}(ym:Bool):ZX K (VY<|qA K ym) (o2<|YR ym):=uF λG F σ H ρ x y d e Q v R m l w k=>by
 cases d<;>first|exact w.elim|skip
 rename_i i;obtain⟨ns,q,w⟩:=w;cases m.int;have fin:∀b,b=Uo (i∈ns)->Q (.bl<|if ym then !b else b) H:=λb t=>by subst t;exact k _ H F (.fz _) (Sub.refl _) R (Da.bl _) w
 cases e<;>first|cases q|skip
 .obtain⟨a,us,rfl,c,j⟩:=l.list R.sub;have:=j.intsV;subst this;exact⟨a,_,Z,.inl<|SqL.of c,Z,YH ns,fin _<|HU i ns⟩
 .obtain⟨a,us,rfl,_,c,j⟩:=l.tuple R.sub;have:=j.intsV;subst this;exact⟨a,_,Z,.inr<|SqT.of c,Z,YH ns,fin _<|HU i ns⟩
section
variable {K:Fg}{e1 e2:Vb}{a b:AD}{pos:Pos}
theorem WN(c:X.K=K):OpR X (Bc .In) (qA K Um):=by subst c;exact yx
theorem Iy(c:X.K=K)(d:WE X e1 (uX K a))(e:WE X e2 (uX K b))(i:Ve .In e2=false:=by rfl):WT X (.Compare e1 [.In] [e2] pos) (LX K<|OF<|TK [a,b]<|o2<|YR Um):=⟨u_ (VN Um)<|Bz (WN c) d.h e.h i⟩
end
end L3
namespace L2
theorem sY(k:Nat)(h:b<n):b≠n+k:=U0<|Nat.lt_add_right _ h
theorem nD:Te (.type "zip") "keys"=pure none:=by rw[He,Fd];kernel_rfl
theorem IU:Te (.type "zip") "__getattr__"=pure none:=by rw[He,Fd];kernel_rfl
theorem HK:entryFor table "zip.__getattribute__"=O Builtin.«object.__getattribute__»:=entryFor_alias (id':="object.__getattribute__") (by kernel_rfl) (by decide +kernel) (by decide +kernel) (by kernel_rfl)
theorem vH(a:Eb)(fs:Zi Bb)(e:Zi (Yi Bb))(u:Tok):Qi (Builtin.«object.__getattribute__» ⟨[.ref a,.str "keys" u],[]⟩) (λA R s=>s.heap.get? a=O {cls:=.type "zip",dict:=U,data:=.fields fs,slots:=e}/\raisesAttr (.ref a) "keys" A R s):=.of_wp λprog w A R s b=>by
 obtain⟨i,g,d,j,os⟩:=s;obtain⟨hx,b⟩:=b;have l:(⟨i,g,d,j,os⟩:Gb).TypeIs (.ref a) "zip":=⟨_,hx,Z⟩;have c:=nD;have k:(["__module__","__name__","__qualname__","__doc__","__annotations__"]:Us).contains "keys"=false:=by decide +kernel
 unfold Builtin.«object.__getattribute__»;repeat (any_goals (first|assumption|wp_step))
 all_goals (try simp only[k,U2,if_false])
 repeat (any_goals (first|assumption|wp_step))
 exact Hh b.1 b.2 (attrMsg_fits (by decide +kernel)<|by size_fits)
section
variable {w:Wb}
theorem wH{Q:Yi Bb->Gb->Prop}(hx:s.heap.get? a=O {cls:=.type "zip",dict:=U,data:=.fields fs,slots:=l})(m:A.handled=U)(h:∀h' c,(∀b o,s.heap.get? b=O o->h'.get? b=O o)->Q U {s with heap:=h',toks:=c}):Hb (Kb prog w) A (Wg (.ref a) "keys") Q E s:=by
 obtain⟨q,g,d,c,os⟩:=s;have i:∀j,(⟨q,g,d,j,os⟩:Gb).TypeIs (.ref a) "zip":=λ_=>⟨_,hx,Z⟩;have t:=Nf;have v:=F.slot_zip_getattribute.lookup;have x:=F.slot_zip_getattribute.bind<|.ref a;have y:=IU;unfold Wg getAttrBy? getAttrBy;repeat (any_goals (first|assumption|exact i _|((with_reducible show Hb _ _ (call (W9 "zip.__getattribute__") _ _) _ _ _);refine Zc F.slot_zip_getattribute (i _) HK (F.args_zip_getattribute_2 _ _) (vH a fs l _) ⟨hx,m,λh' j e k=>?_⟩)|wp_step))
 obtain⟨t',B,C⟩:=k.there;show Hb _ _ (Ed _ _ _ _ _ _ _) _ _ _;unfold Ed;repeat (any_goals (first|assumption|wp_step))
 exact h _ _ k.keeps
end
section
variable {w:Wb}{R:Ui->Gb->Prop}
theorem uk{TI TO:Eb}(hh:A.handled=U)(D:ZAp2 z TI TO i1 i2 l1 l2)(n1:z≠d)(n2:TI≠d)(n3:TO≠d)(n4:i1≠d)(n5:i2≠d)(n6:l1≠d)(n7:l2≠d)(hn1:n<=xs1.size) (hn2:n<=xs2.size) (qe:xs1[n]?=U\/xs2[n]?=U) (J:Nat->Dc->Prop)(P:∀i h h',J i h->(∀b o,b≠z->b≠TO->b≠i1->b≠i2->h.get? b=O o->h'.get? b=O o)->J i h')(step:∀(i:Nat) (x y:Bb) (s:Gb) (Q:Unit->Gb->Prop) (E:Bb->Gb->Prop),i<n->xs1[i]?=O x->xs2[i]?=O y->J i s.heap ->(∀h' t,J (i+1) h'->E3 d s.heap h'->Q () {s with heap:=h',toks:=t})->Hb (Kb prog w) A.in1 (Pf d x y) Q E s):∀(k i:Nat) (s:Gb) (v:Tok),n-i=k->i<=n->ZSt s.heap z TI TO d i1 i2 l1 l2 k1 k2 i->SqAt k1 s.heap l1 xs1->SqAt k2 s.heap l2 xs2->J i s.heap->d<s.heap.objs.size -> (∀h' t,J n h'->R (.ok<|.ret .none) {s with heap:=h',toks:=t}) -> Ef (Kb prog w) A (.builtin "dict.update.loop" ⟨[.ref d,.ref z,.int i v,.none],[]⟩) R s:=by
 intro k;induction k with
 |zero=>intro i s v l hi B m q C hd F;have kf:i=n:=iT l hi;subst kf;refine Wd FZ ?_;rw[Around.under_plainId PX _];show Hb _ A.in1 (Md (.ref z) >>= _) _ _ s;refine Ab<|tH (A:=A.in1) hh D B m q qe λh' he=>?_;show Hb _ _ (W7 d [] >>= _) _ _ _;exact Ab<|Db<|Db<|F h' s.toks<|P _ _ _ C he
 |succ k ih=>intro i s v l hi B m q C hd F;have Y:i<n:=K8 l;obtain⟨x,hx⟩:∃p,xs1[i]?=O p:=⟨xs1[i],S5<|by omega⟩;obtain⟨y,hy⟩:∃p,xs2[i]?=O p:=⟨xs2[i],S5<|by omega⟩;refine Wd FZ ?_;rw[Around.under_plainId PX _];show Hb _ A.in1 (Md (.ref z) >>= _) _ _ s;refine Ab<|Bq (S:=d) D hd B m q hx hy λh' al G hz I=>?_;have L:=P _ _ _ C I;show Hb _ A.in1 (Ud [.ref s.heap.objs.size] _ >>= _) _ _ _;refine Ab<|Xb ?_;refine Ab<|Dh ?_;unfold F8;refine Ab<|Jd (T:="tuple") ⟨_,G,Z⟩ ?_;rw[Ib<|by decide];refine Ab<|Jc G rfl<|Db ?_;show Hb _ A.in1 (Ud [x,y]<|Pf d x y) _ _ _;refine Xb<|wpAny_mono (step i x y {s with heap:=h'} (λ_ xf=>∃a c,xf={s with heap:=a,toks:=c}/\J (i+1) a/\E3 d h' a) (λ_ _=>Al) Y hx hy L λa c j M=>⟨a,c,Z,j,M⟩) (λ_ xf z=>?_) λ_ _ z=>z.elim;obtain⟨a,c,rfl,j,M⟩:=z;have kp:∀b o,b≠d->h'.get? b=O o->a.get? b=O o:=λb o nb e=>(M.2 b nb).trans e;refine Db ⟨De PX _,?_⟩;refine ih (i+1) {s with heap:=a,toks:=c} 0 (aA l) Y (al.keep kp n1 n2 n3 n4 n5) (m.at λo e=>kp _ _ n6<|I _ o D.l1z D.l1TO D.l1i1 D.l1i2 e) (q.at λo e=>kp _ _ n7<|I _ o D.l2z D.l2TO D.l2i1 D.l2i2 e) j ?_ λh3 tk3 j3=>F h3 tk3 j3;have:BZ a s.heap.objs.size x y:=kp _ _ (X2 hd) G;exact L7 hd<|G0 this
end
theorem xH{TI TO:Eb}(J:Nat->Dc->Prop)(G:A.handled=U)(D:ZAp2 z TI TO i1 i2 l1 l2)(v:n<=xs1.size) (B:n<=xs2.size) (qe:xs1[n]?=U\/xs2[n]?=U) {I L:Bb}(d:Af s.heap z TI TO .none) (M:BZ s.heap TI (.ref i1) (.ref i2)) (P:BZ s.heap TO I L) (R:ItAt k1 s.heap i1 l1 0) (Y:ItAt k2 s.heap i2 l2 0) (ud:SqAt k1 s.heap l1 xs1) (wd:SqAt k2 s.heap l2 xs2) (b1:l1<s.heap.objs.size) (b2:l2<s.heap.objs.size)(h0:∀h',(∀b a,s.heap.get? b=O a->h'.get? b=O a)->h'.get? s.heap.objs.size=O {cls:=.type "dict",data:=.dict #[]}->J 0 h')(vd:∀i h h',J i h->(∀b o,b≠z->b≠TO->b≠i1->b≠i2->h.get? b=O o->h'.get? b=O o)->J i h')(step:∀(i:Nat) (x y:Bb) (s':Gb) (Q':Unit->Gb->Prop) (E':Bb->Gb->Prop),i<n->xs1[i]?=O x->xs2[i]?=O y->J i s'.heap ->(∀h' k,J (i+1) h'->E3 s.heap.objs.size s'.heap h'->Q' () {s' with heap:=h',toks:=k})->Hb (Kb prog w) A.in1.in1 (Pf s.heap.objs.size x y) Q' E' s')(h:∀h' k,J n h'->Q (.ref s.heap.objs.size) {s with heap:=h',toks:=k}):Hb (Kb prog w) A (call (.type "dict") [.ref z]) Q E s:=by
 refine Fh (Q₁:=λobj c=>obj=.ref s.heap.objs.size/\c={s with heap:=s.heap.push {cls:=.type "dict",data:=.dict #[]}}) F.kt_called_dict (F.kt_typeCall_dict_1 _) F.entry_dict_init (Ig _ ⟨Z,Z⟩) ?_;rintro obj c ⟨rfl,rfl⟩;have l:(s.heap.push {cls:=.type "dict",data:=.dict #[]}).get? s.heap.objs.size=O {cls:=.type "dict",data:=.dict #[]}:=L0 _ Z;have m:∀b a,s.heap.get? b=O a->(s.heap.push {cls:=.type "dict",data:=.dict #[]}).get? b=O a:=λb a e=>g0 _ e;refine⟨⟨_,l,Z⟩,F.args_dict_init_2 _ _,?_⟩;unfold Builtin.«dict.__init__»;refine Ab ?_;unfold X7;refine Ab<|Pe ⟨_,l,Z⟩ ?_;show Hb _ _ (pure (s.heap.objs.size,[K4 z])) _ _ _;refine Db ?_;show Hb _ _ (E5 "dict.__init__" s.heap.objs.size (.ref z) [] .none) _ _ _;unfold E5;refine Ab<|Jd (T:="zip") ⟨_,m _ _ d,Z⟩ ?_;rw[Ib<|by decide];refine Ab<|wH (m _ _ d) G λq C t=>?_;simp only[B9,if_true];refine Ab<|Qc ?_;refine Ab<|Gg (s:={s with heap:=q,toks:=C}) (t _ _<|m _ _ d) ?_;have kp:∀b a,s.heap.get? b=O a->q.get? b=O a:=λb a e=>t b a<|m b a e;obtain⟨o1,g1,_⟩:=R.obj;obtain⟨o2,g2,_⟩:=Y.obj;have gc:s.heap.objs.size<q.objs.size:=G0<|t _ _ l;refine Db ⟨De PX _,uk (A:=A.in1) G D (U0<|G0 d) (U0<|G0 M) (U0<|G0 P) (U0<|G0 g1) (U0<|G0 g2) (U0 b1) (U0 b2) v B qe J vd step n 0 _ 0 Z (V2 _)
   ⟨kp _ _ M,R.at λo e=>kp _ _ e,Y.at λo e=>kp _ _ e,.inl ⟨kp _ _ d,I,L,kp _ _ P⟩⟩ (ud.at λo e=>kp _ _ e) (wd.at λo e=>kp _ _ e) (h0 q kp<|t _ _ l) gc λh' k j=>⟨Z,h h' k j⟩⟩
end L2
namespace L3
open L2
section
variable {K:Fg}{e e1 e2:Vb}{a b:AD}{p pos p2:Pos}
end
end L3
namespace L2
end L2
namespace L3
open L2
theorem mZ{u:gY}{E:DE}(J:Ev->Prop)(a:∀N:Ev->Prop,(∀ρ',J ρ'->N ρ')->t {nx:=N,rt:=E.rt,bk:=E.bk,ct:=E.ct} ρ)(b:∀ρ',J ρ'->u E ρ'):pC t u E ρ:=a _ b
theorem gnC{Q:Ev->Prop}(h:Vk i d ρ Q=Q (ρ.set i<|O<|.fz d))(w:Q (ρ.set i<|O<|.fz d)):Vk i d ρ Q:=by rw[h];exact w
end L3
namespace HT
section
open PySem.SeqAt
open PySem.AutoSeq1 (wpAny_loadPart')
open PySem.MeetsSeq PySem.MeetsSeq2 PySem.MeetsSeq3
variable {w:Wb}
theorem whole_tup{lo hi:Yi Int}(a:Ai s.heap t items)(c:s.heap.IsSliceOf sl vl vu .none)(d:Lg vl lo)(e:Lg vu hi)(i:sIx items.size 0 lo=0) (j:sIx items.size items.size hi=items.size) (q:Q (.ref t) s):Hb (Kb prog w) A (Cf (.ref t)<|.ref sl) Q E s:=by
 obtain⟨os,k,g2,v⟩:=id c;have l:s.TypeIs (.ref sl) "slice":=⟨os,k,g2⟩;unfold Cf;try with_reducible refine Xb ?_
 first|refine Ab (Db ?_)|skip
 refine Ab<|wpAny_sequenceKey a.typeIs (by decide) ?_;refine Ab<|Zb (name:=Str.ofString "__getitem__") a.typeIs O5<|wpAny_call_entry O5 a.typeIs Nh ?_<|args_tuple_getitem _ _;show Hb _ _ (J7 (.ref t) >>= _) _ _ s;refine Ab<|tupleItemsOf_ a<|Ab<|Jd l ?_;rw[Ib<|by decide];refine Ab<|gK c d e ?_;have b:((((sIx items.size 0 lo:Nat):Int)==0&&(1:Int)==1&&(sIx items.size items.size hi-sIx items.size 0 lo)==items.size)=Ul):=by rw[i,j];simp
 show Hb _ _ (if (((sIx items.size 0 lo:Nat):Int)==0&&(1:Int)==1&&(sIx items.size items.size hi-sIx items.size 0 lo)==items.size)=Ul then _ else _) _ _ s;rw[Ib b];refine Ab (m:=Builtin.Tuple.tupleIsExact _)<|Ab<|Jd a.typeIs<|Db ?_;rw[Ib<|by decide];exact Ab<|Qc<|Db ⟨_,Z,Db q⟩
end
end HT
namespace L2
def Jy(K:B0):V->Yi Int->Yi Int->Hp->VK->Prop:=λx lo hi H Q=>∃a b,x=.ref a/\SqT K H a b /\
 (QK b lo hi=b->Q (.ref a) H)/\∀p,H p=U->Q (.ref p) (kZ H p<|.tup<|QK b lo hi)
theorem nj:pT X (Jy X.K):=by
 intro gb s σ H x v k l lo hi m Q I c d e i h;obtain⟨a,b,rfl,hx,q,t⟩:=h;by_cases z:HT.sIx b.length 0 lo=0/\HT.sIx b.length b.length hi=b.length
 .cases c;obtain⟨its,r,j,w⟩:=I.tuple hx;have hl:its.toArray.size=b.length:=by rw[P0];exact r.length.symm
  refine⟨"tuple",_,O5.lookup,j.typeIs,HT.whole_tup j d e i (by rw[hl];exact z.1) (by rw[hl];exact z.2) ⟨.ref a,H,I,Z,q ?_⟩⟩;unfold QK;rw[z.1,z.2];simp
 .exact sM gb s σ H (.ref a) v k l lo hi m Q I c d e i ⟨a,b,Z,hx,z,t⟩
theorem rE(a:List V){i j:Int}(hi:0<=i)(e:0<=j):QK a (O i) (O j)=(a.take j.toNat).drop i.toNat:=by
 unfold QK;have b:HT.sIx a.length 0 (O i)=min i.toNat a.length:=by show (if i<0 then (i+(a.length:Int)).toNat else min i.toNat a.length)=_;rw[if_neg<|by omega]
 have c:HT.sIx a.length a.length (O j)=min j.toNat a.length:=by show (if j<0 then (j+(a.length:Int)).toNat else min j.toNat a.length)=_;rw[if_neg<|by omega]
 rw[b,c,List.drop_take];by_cases h:i.toNat<=a.length
 .rw[J4 h];by_cases d:j.toNat<=a.length
  .rw[J4 d]
  .rw[N7<|by omega,Y1 (by rw[K2];omega),Y1<|by rw[K2];omega]
 .rw[B4<|by omega,B4<|by omega];simp
theorem oj(a:List V){j:Int}(d:0<=j):QK a U (O j)=a.take j.toNat:=by
 unfold QK;have b:HT.sIx a.length a.length (O j)=min j.toNat a.length:=by show (if j<0 then (j+(a.length:Int)).toNat else min j.toNat a.length)=_;rw[if_neg<|by omega]
 rw[b];show (a.drop 0).take (min j.toNat a.length-0)=_;rw[List.drop_zero,Nat.sub_zero];by_cases c:j.toNat<=a.length
 .rw[J4 c]
 .rw[N7<|by omega,Y1<|by omega,Y1<|by omega]
end L2
namespace L3
open L2
def ZR(a b c:AD)(f:D->Int->Int->(Sl->Prop)->Prop):TD:=λρ Q=>WZ [a,b] ρ λl e=>rZ e l λm=>match m with
 |[_,.int i]=>WZ [c] e λq k=>rZ k (l.take 1++q) λt=>match t with
  |[d,.int j]=>f d i j λr=>Q r k
  |_=>Al
 |_=>Al
def aS(K:Fg)(r:V->Yi Int->Yi Int->Hp->VK->Prop)(f:D->Int->Int->(Sl->Prop)->Prop):Prop :=
 ∀(G:Gh) (F:Hp) (σ:L2.St) (H:Hp) (ρ:Ev) (x:V) (i j:Int) (d:D) (Q:VK) (b:Sl->Prop),Rel K G F σ H ρ->At K F H x d->f d i j b ->
  (∀v H' a s,Sub F a->Rel K G a σ H' ρ->Res K G a H' σ ρ v s->b s->Q v H')->r x (O i) (O j) H Q
theorem bS{K:Fg}{r:V->Yi Int->Yi Int->Hp->VK->Prop}{f:D->Int->Int->(Sl->Prop)->Prop}(ok:aS K r f){σ:L2.St}{H:Hp}{Q:VK}(h:lift K (ZR a b c f) σ H Q):o_ r (uX K a) (Iw<|uX K b) (Iw<|uX K c) σ H Q:=by
 obtain⟨G,F,ρ,Qd,R,w,k⟩:=h;have e:MX ([a,b].map (uX K)) σ H λl B=>∃x y,l=[x,y]/\∃i,y=.int i/\uX K c σ B λz C=>∃j,z=.int j/\r x (O i) (O j) C Q:=by
  refine LZ R w λl H' F' xs P Y L o m=>?_;obtain⟨ds,ha,m⟩:=AJ L o m;split at m
  .rename_i dx i;obtain⟨v,u,rfl,h1,h2⟩:=ha.two;cases h2.int;refine⟨_,_,Z,i,Z,?_⟩;refine MF<|LZ (as:=[c]) (Qv:=λl H4=>∃z,l=[z]/\∃j,z=.int j/\r v (O i) (O j) H4 Q) L m λl B F2 ys q M R2 o2 t=>?_;cases o with|cons p1 t1=>?_
   cases t1 with|cons p2 t2=>?_
   cases t2;obtain⟨es,hb,t⟩:=AJ R2 (OpdsAt.cons (p1.mono M) o2) t;split at t
   .rename_i d j;cases hb with|cons q1 t3=>?_
    obtain⟨v3,rfl,h3⟩:=t3.one;cases h3.int;exact⟨_,Z,j,Z,ok G F2 σ B q v i j d Q _ R2 q1 t λv' C F3 s3 I R3 r3 q3=>k v' C F3 s3 q (Y.trans<|M.trans I) R3 r3 q3⟩
   .exact t.elim
  .exact m.elim
 exact NF e
def cS(r:V->Yi Int->Yi Int->Hp->VK->Prop):R2:=λx z H Q=>∃j,z=.int j/\r x U (O j) H Q
noncomputable def x_:D->Int->Int->(Sl->Prop)->Prop
 | .tuple a,i,j,Q=>0<=i/\0<=j/\Q (.fz<|.tuple<|(a.take j.toNat).drop i.toNat)
 |_,_,_,_=>Al
noncomputable def iL:D->Int->Int->(Sl->Prop)->Prop
 | .list a,i,j,Q=>0<=i/\0<=j/\Q (.ow<|.list<|(a.take j.toNat).drop i.toNat)
 |_,_,_,_=>Al
noncomputable def jL:D->D->(Sl->Prop)->Prop
 | .tuple a,.int j,Q=>0<=j/\Q (.fz<|.tuple<|a.take j.toNat)
 |_,_,_=>Al
theorem sE{K:Fg}:aS K (cC K) iL:=λG F σ H ρ x i j d Q B R b w k=>by
 cases d<;>first|exact w.elim|skip
 rename_i c;obtain⟨e,l,w⟩:=w;obtain⟨a,us,rfl,m,q⟩:=b.list R.sub;refine⟨a,us,Z,SqL.of m,λp t=>?_⟩;rw[rE us e l];obtain⟨v,y⟩:=R.newOw (o:=.lst<|(us.take j.toNat).drop i.toNat) (d:=.list<|(c.take j.toNat).drop i.toNat) t<|(q.take j.toNat).drop i.toNat;exact k _ _ F _ (Sub.refl _) v y w
theorem tE{K:Fg}:ZX K (VY<|cS<|Jy K) (o2 jL):=uF λG F σ H ρ x y d e Q L R i l w k=>by
 cases d<;>first|exact w.elim|(cases e<;>first|exact w.elim|skip)
 rename_i M j;obtain⟨c,w⟩:=w;cases l.int;obtain⟨a,us,rfl,m,q,t⟩:=i.tuple R.sub;have b:=t.take j.toNat;refine⟨j,Z,a,us,Z,SqT.of q,λz=>?_,λp v=>?_⟩
 .rw[oj us c]at z;refine k _ H F (.fz _) (Sub.refl _) R (Da.tup m ?_) w;rw[z]at b;exact b
 .rw[oj us c];obtain⟨B,C,I⟩:=R.newTup v b;exact k _ _ _ (.fz _) B C I w
section
variable {K:Fg}{e1 e2 e3:Vb}{a b c:AD}{p pos p2 ae lc:Pos}{x:Str}
theorem XN(d:X.K=K)(e:WE X e1 (uX K a))(i:WE X e2 (uX K b))(j:WE X e3 (uX K c)):WE X (.Subscript e1 (.Slice (O e2) (O e3) U p2) pos) (lift K<|ZR a b c iL):=by subst d;exact⟨OW (ZK pG e.h (CY i.h)<|CY j.h) λq=>bS sE q⟩
theorem fK(d:X.K=K)(e:WE X e1 (uX K a))(i:WE X e2 (uX K b)):WE X (.Subscript e1 (.Slice U (O e2) U p2) pos) (lift K<|TK [a,b]<|o2 jL):=by subst d;exact⟨OW (ZK nj e.h NV<|CY i.h) λq=>NF (P:=λx z H=>cS (Jy X.K) x z H _)<|bV tE q⟩
end
section
variable {K:Fg}{ec:Vb}{p p1 p2 p3 p4 p5 p6 p7 p8 p9 pa pb pc pd pe pf pg ph pi' pj pk pl:Pos}{x y a b c:Str}{tc:ZW}
end
noncomputable def uE:D->(Sl->Prop)->Prop
 | .int j,Q=>VC 0 j/\j.toNat<=2 ^ 24/\Q (.ow<|.list<|SX 0 j.toNat)
 |_,_=>Al
theorem vE{K:Fg}{Q:VK}(R:Rel K G F σ H ρ)(b:At K F H x (.int j))(w:uE (.int j) Qd)(k:∀v H' a s,Sub F a->Rel K G a σ H' ρ->Res K G a H' σ ρ v s->Qd s->Q v H'):WC [x] H λv c=>PV [v] c Q:=by
 cases b.int;refine⟨0,j,.inr ⟨Z,Z⟩,λp e=>⟨p,0,j,Z,OX,w.1,by have:=w.2.1;lia,λl hl=>?_⟩⟩;have i:(j-0).toNat=j.toNat:=by lia
 rw[i];have m:Rel K G F σ (kZ H p<|.rng 0 j) ρ:=R.laid e;have da:DaAll K F ((S2 j.toNat).map λ(n:Nat)=>V.int<|0+n) (SX 0 j.toNat):=by have:=DaAll.ints (K:=K) (F:=F)<|(S2 j.toNat).map λ(n:Nat)=>(0:Int)+(n:Int);simpa [SX,O0,Function.comp_def]using this
 obtain⟨q,t⟩:=m.newOw (o:=.lst _) (d:=.list<|SX 0 j.toNat) hl da;exact k _ _ F _ (Sub.refl _) q t w.2.2
theorem YN{K:Fg}:ZX K (λa H Q=>WC a H λv b=>PV [v] b Q) (o1 uE):=BG λG F σ H ρ x d Q e R c w k=>by
 cases d with
 |int j=>exact vE R c w k
 |_=>exact w.elim
section
variable {K:Fg}{e e1:Vb}{a:AD}{p p2 pos:Pos}
theorem ZN(h:PE X e (rP PV<|Cz (rP WC<|MX<|[a].map (uX K)) VB)):PE X e (lift K<|TK [a]<|o1 uE):=OW h λq=>bV YN q
theorem dS(b:X.calm=Ul)(c:X.mg "list"=U)(d:X.mg "range"=U)(i:WA X [e1] (MX<|[a].map (uX K)))(j:Gl X "list":=by rfl)(k:Gl X "range":=by rfl)(l:NX e1=true:=by rfl) :
  WE X (.Call (.Name "list" p) [.Call (.Name "range" p2) [e1] [] md] [] pos) (lift K<|TK [a]<|o1 uE) :=
 ⟨ZN<|TW (ZF b) j c Se (wK (TW Tv k d boot_range i.h (by decide) (by decide) (DX l)<|DZ Z) aU<|DX Z) (by decide) (by decide) (DX Z)<|DZ Z⟩
end
end L3
namespace L2
open PySem.W
noncomputable abbrev YX:=Ql×Ql
noncomputable def Lq(x y:YX):Bool:=if x.1=y.1 then HT.lexLt x.2 y.2 else HT.lexLt x.1 y.1
theorem Ky:SG.Wk Lq:=by
 have W:=SG.lex_wk;refine⟨λa=>?_,λa b c i d=>?_,λa b c i d=>?_⟩
 .unfold Lq;rw[Ib Z];exact W.irr _
 .unfold Lq at i d ⊢;by_cases j:a.1=b.1
  .rw[Ib j]at i;by_cases e:b.1=c.1
   .rw[Ib e]at d;rw[Ib<|j.trans e];exact W.tr _ _ _ i d
   .rw[if_neg e]at d;rw[if_neg (by rw[j];exact e),j];exact d
  .rw[if_neg j]at i;by_cases e:b.1=c.1
   .rw[if_neg (by rw[<-e];exact j),<-e];exact i
   .rw[if_neg e]at d;have k:=W.tr _ _ _ i d;rw[if_neg<|λz=>by rw[z,W.irr]at k;cases k];exact k
 .unfold Lq at i d ⊢;by_cases j:a.1=b.1
  .rw[Ib j]at i;by_cases e:b.1=c.1
   .rw[Ib e]at d;rw[Ib<|j.trans e];exact W.nt _ _ _ i d
   .rw[if_neg e]at d;rw[if_neg (by rw[j];exact e),j];exact d
  .rw[if_neg j]at i;by_cases e:b.1=c.1
   .rw[if_neg (by rw[<-e];exact j),<-e];exact i
   .rw[if_neg e]at d;have k:=W.nt _ _ _ i d;by_cases l:a.1=c.1
    .exfalso;rw[<-l]at d;exact j<|SG.lex_eq i d
    .rw[if_neg l];exact k
theorem aO(c:Lq a b=Um)(d:Lq b a=Um):a=b:=by
 unfold Lq at c d;by_cases e:a.1=b.1
 .rw[Ib e]at c;rw[Ib e.symm]at d;have:=SG.lex_eq c d;cases a;cases b;cases e;cases this;rfl
 .rw[if_neg e]at c;rw[if_neg<|λz=>e z.symm]at d;exact absurd (SG.lex_eq c d) e
def yH(H:Hp)(c:Eb)(x:YX):Prop:=∃a b,H c=O (.tup [.ref a,.ref b])/\H a=O (.tup<|x.1.map V.int)/\H b=O (.tup<|x.2.map V.int)
noncomputable def Ly(H:Hp):V->YX
 | .ref c=>match H c with
  |some (.tup [x,y])=>(vF H x,vF H y)
  |_=>([],[])
 |_=>([],[])
theorem My{r:Ql}(h:H c=O (.tup<|r.map V.int)):vF H (.ref c)=r:=by show (match H c with|some (.tup a)=>a.map FR|_=>[])=r;rw[h];exact oY r
theorem JU(H:Hp)(c:Eb)(x:YX)(h:yH H c x):Ly H (.ref c)=x:=by obtain⟨a,b,d,e,i⟩:=h;show (match H c with|some (.tup [x,y])=>(vF H x,vF H y)|_=>([],[]))=x;rw[d];show (vF H<|.ref a,vF H<|.ref b)=x;rw[My e,My i]
theorem Ny{y:Ql}(I:Inv X gb σ H s)(L:A.units<Oc)(d:H a=O (.tup<|x.map V.int))(c:H b=O (.tup<|y.map V.int)){s':Gb}(k:∀b o,s.heap.get? b=O o->s'.heap.get? b=O o):SeqAt.EqAt A s' (.ref a) (.ref b) (decide<|x=y):=by
 by_cases e:a=b
 .subst e;rw[d]at c;injection c with c;injection c with c;rw[ly c,Sb Z];exact SeqAt.EqAt.same _
 .have i:Inv X gb σ H {s with heap:=s'.heap}:=I.kept (t':=s.toks) k;obtain⟨_,l,m,M⟩:=(show ObjOk X.prog X.w H s'.heap a (.tup<|x.map V.int) from i.hok a _ d);obtain⟨_,q,v,P⟩:=(show ObjOk X.prog X.w H s'.heap b (.tup<|y.map V.int) from i.hok b _ c);have B:=m.length;have C:=v.length;rw[j0]at B C;have h:=SeqAt.RcAt.tuples (A:=A) (s:=s') (e:=λk=>x.getD k 0==y.getD k 0) M.t P.t L λj R Y=>by
   obtain⟨t1,e1⟩:=xV m (k:=j) (by simpa using R);obtain⟨t2,e2⟩:=xV v (k:=j) (by simpa using Y);simp only[List.getElem_toArray];rw[e1,e2];exact SeqAt.EqAt.int_int _ _ _ _
  have hv:((S2<|min l.toArray.size q.toArray.size).all (λk=>x.getD k 0==y.getD k 0)&&l.toArray.size==q.toArray.size)=Uo (x=y):=by
   simp only[P0,<-B,<-C];by_cases z:x=y
   .subst z;rw[Sb Z];simp
   .rw[Qb z,g6];intro c;rw[X1,L4,beq_iff_eq]at c;refine z<|List.ext_getElem c.2 λk F G=>?_;have:=c.1 k<|Q4.mpr<|M5 F G;rw[beq_iff_eq,B2,B2,M0 F,M0 G]at this;exact this
  rw[<-hv];exact SeqAt.EqAt.of_refs e h
theorem Mq(hu:X.A.units+2<Oc):nZ X (.builtin "sorted") (hW X.K yH Ly Lq):=by
 have i:X.A.in1.in1.units<Oc:=by show X.A.units+2<Oc;exact hu
 refine GU (κ:=tuples' Um) Ky JU (λ{gb s σ H} I its h2 qo s' k E' Q' e=>?_)<|λ{gb s σ H} I c d x y hx hy s' k Q' e=>?_
 .have F:∀(l:Up),(∀v∈l,∃(c:Eb) (r:YX),v=.ref c/\yH H c r)->∃fs:Up,KatTups s'.heap l fs/\fs.length=l.length/\∀v∈fs,Looks (Kb X.prog X.w) s'.heap (Vh v) (.type "tuple"):=by
   intro l;induction l with
   |nil=>intro _;exact⟨[],.nil,Z,λv j=>by simp at j⟩
   |cons v l ih =>
    intro hl;obtain⟨fs,G,f2,L⟩:=ih λx hx=>hl x<|i0 _ hx;obtain⟨c,r,rfl,a,b,hc,M,hb⟩:=hl v u0;obtain⟨_,itc,P,ob,e1,e2,m,e3,_⟩:=(show ObjOk X.prog X.w H s.heap c (.tup [.ref a,.ref b]) from I.hok c _ hc);obtain⟨u1,u2,rfl,R,r2⟩:=NK P;cases R;obtain⟨_,itb,rb,oa,g1,g2,_⟩:=(show ObjOk X.prog X.w H s.heap a (.tup<|r.1.map V.int) from I.hok a _ M);refine⟨.ref a::fs,.cons (k _ _ e1) e2 e3 Z G,by simp[f2],λv j=>?_⟩;rcases T0.mp j with rfl|j
    .have:=(show Looks (Kb X.prog X.w) s'.heap (Vh<|.ref a) oa.cls from (Looks.ld<|k _ _ g1).andThen .now);rw[g2]at this;exact this
    .exact L v j
  obtain⟨fs,G,f2,L⟩:=F its qo;exact kat_kind (T:=.type "tuple") G (by lia) L (by decide) e
 .obtain⟨a1,b1,Y,B,qm⟩:=hx;obtain⟨a2,b2,og,gn,ef⟩:=hy;obtain⟨_,ic,P,oc,c1,c2,m1,c3,_⟩:=(show ObjOk X.prog X.w H s.heap c (.tup [.ref a1,.ref b1]) from I.hok c _ Y);obtain⟨_,id',rd,od,d1,d2,m2,d3,_⟩:=(show ObjOk X.prog X.w H s.heap d (.tup [.ref a2,.ref b2]) from I.hok d _ og);obtain⟨u1,u2,rfl,R,r2⟩:=NK P;cases R;cases r2;obtain⟨w1,w2,rfl,r3,r4⟩:=NK rd;cases r3;cases r4;have I':Inv X gb σ H {s with heap:=s'.heap}:=I.kept (t':=s.toks) k;have C:∀{a b:Eb}{x y:Ql}{Q:Bool->Gb->Prop},H a=O (.tup<|x.map V.int)->H b=O (.tup<|y.map V.int)->Q (HT.lexLt x y) s'->Hb (Kb X.prog X.w) X.A.in1.in1 (oneLt' Um (.ref a)<|.ref b) Q (λ_ _=>Al) s':=λ{a b x y Q} M hb hq=>by
   obtain⟨_,ia,ra,ta⟩:=(show ObjOk X.prog X.w H s'.heap a (.tup<|x.map V.int) from I'.hok a _ M);obtain⟨_,ib,rb,tb⟩:=(show ObjOk X.prog X.w H s'.heap b (.tup<|y.map V.int) from I'.hok b _ hb);exact kat_one _ _<|HT.lt_tupInts ta.t tb.t (lZ ra) (lZ rb) i hq
  refine kat_lt (k _ _ c1) c3 (k _ _ d1) d3<|kat_cons ?_;refine Ny I i B gn k _ _ _ _ ?_;unfold Lq at e;refine kat_go (λq=>kat_yes<|kat_cons ?_)<|λq=>kat_no ?_
  .have q:=Ob q;rw[Ib q]at e;refine Ny I i qm ef k _ _ _ _ ?_;refine kat_go (λz=>kat_yes ?_)<|λz=>kat_no ?_
   .have z:=Ob z;rw[z,SG.lex_wk.irr]at e;exact e
   .exact C qm ef e
  .have q:=Mc q;rw[if_neg q]at e;exact C B gn e
end L2
namespace L3
open L2
noncomputable abbrev BX(b:YX):D:=.tuple [.tuple<|b.1.map n0,.tuple<|b.2.map n0]
noncomputable def bO:D->(Sl->Prop)->Prop
 | .list d,Q=>∃jb:List YX,d=jb.map BX/\jb.length<=sizeLine/\∀c:List YX,c.Perm jb->c.Pairwise (λa b=>Lq b a=Um)->Q (.ow<|.list<|c.map BX)
 |_,_=>Al
theorem Oy{K:Fg}{r:YX}(h:Da K F v (BX r)):∃c,v=.ref c/\yH F c r:=by
 cases h with
 |tup h t =>
  cases t with
  |cons d t =>
   cases t with
   |cons e t=>cases t;obtain⟨a,rfl,i⟩:=OG d;obtain⟨b,rfl,j⟩:=OG e;exact⟨_,Z,a,b,h,i,j⟩
theorem wE{K:Fg}{r:YX}(h:yH F c r):Da K F (.ref c) (BX r):=by obtain⟨a,b,d,e,i⟩:=h;exact .tup d<|.cons (.tup e<|DaAll.ints _)<|.cons (.tup i<|DaAll.ints _) .nil
theorem qD{K:Fg}:ZX K (hW K yH Ly Lq) (o1 bO):=BG λG F σ H ρ x d Q Qd R q w k=>by
 cases d<;>first|exact w.elim|skip
 case list ds =>
  obtain⟨jb,e,L,w⟩:=w;subst e;obtain⟨a,us,rfl,M,t⟩:=q.list R.sub;have hl:=t.length;rw[j0]at hl;have y:∀v∈us,∃c r,v=.ref c/\yH F c r/\r∈jb:=λv j=>by obtain⟨d,hd,P⟩:=t.mem v j;obtain⟨r,Y,rfl⟩:=J0.mp hd;obtain⟨c,rfl,i⟩:=Oy P;exact⟨c,r,Z,i,Y⟩
  have up:∀{c:Eb}{r:YX},yH F c r->yH H c r:=λ{c r} ⟨a,b,q,h2,h3⟩=>⟨a,b,R.sub _ _ q,R.sub _ _ h2,R.sub _ _ h3⟩;have B:∀v∈us,Ly H v=Ly F v:=λv j=>by obtain⟨c,r,rfl,i,_⟩:=y v j;rw[JU F c r i,JU H c r<|up i]
  refine⟨a,us,Z,SqL.of M,le_of_eq_of_le hl L,λv j=>?_,λp l hp C I=>?_⟩
  .obtain⟨c,r,rfl,i,_⟩:=y v j;exact⟨c,r,Z,up i⟩
  .have em:us.map (Ly F)=jb:=by
    refine DaAll.map_eq (K:=K) (F:=F) (g:=BX) (λv a h=>?_) t;obtain⟨c,rfl,i⟩:=Oy h;exact JU F c a i
   have ee:l.map (Ly H)=l.map (Ly F):=S1 λv j=>B v<|C.mem_iff.mp j;rw[ee]at I;have m:DaAll K F l ((l.map<|Ly F).map BX):=by rw[O0];refine DaAll.map_of λv j=>?_;obtain⟨c,r,rfl,i,_⟩:=y v<|C.mem_iff.mp j;show Da K F (.ref c) (BX<|Ly F<|.ref c);rw[JU F c r i];exact wE i
   obtain⟨R',r'⟩:=R.newOw (o:=.lst l) (d:=.list _) hp m;exact k _ _ F _ (Sub.refl _) R' r'<|w _ (by rw[<-em];exact C.map _) I
theorem AV{K:Fg}(h:X.K=K)(a:X.A.units+2<Oc):nZ X (.builtin "sorted") (hW K yH Ly Lq):=by subst h;exact Mq a
theorem qj(us:List V){i:Int}(h:0<=i):QK us (O i) U=us.drop i.toNat:=by
 unfold QK;have a:HT.sIx us.length 0 (O i)=min i.toNat us.length:=by show (if i<0 then (i+(us.length:Int)).toNat else min i.toNat us.length)=_;rw[if_neg<|S8 h]
 rw[a];show (us.drop<|min i.toNat us.length).take (us.length-min i.toNat us.length)=_;rw[Y1<|by rw[K2];exact A0 _];by_cases z:i.toNat<=us.length
 .rw[J4 z]
 .rw[N7<|V0<|o5 z,B4<|A0 _,B4<|V0<|o5 z]
def fS(r:V->Yi Int->Yi Int->Hp->VK->Prop):R2:=λx z H Q=>∃j,z=.int j/\r x (O j) U H Q
noncomputable def kL:D->D->(Sl->Prop)->Prop
 | .tuple a,.int j,Q=>0<=j/\Q (.fz<|.tuple<|a.drop j.toNat)
 |_,_,_=>Al
theorem xE{K:Fg}:ZX K (VY<|fS<|Jy K) (o2 kL):=uF λG F σ H ρ x y d e Q L R i l w k=>by
 cases d<;>first|exact w.elim|(cases e<;>first|exact w.elim|skip)
 rename_i M j;obtain⟨c,w⟩:=w;cases l.int;obtain⟨a,us,rfl,m,q,t⟩:=i.tuple R.sub;have b:=t.drop j.toNat;refine⟨j,Z,a,us,Z,SqT.of q,λz=>?_,λp v=>?_⟩
 .rw[qj us c]at z;refine k _ H F (.fz _) (Sub.refl _) R (Da.tup m ?_) w;rw[z]at b;exact b
 .rw[qj us c];obtain⟨B,C,I⟩:=R.newTup v b;exact k _ _ _ (.fz _) B C I w
theorem IK{K:Fg}(c:X.K=K)(d:WE X e1 (uX K a))(e:WE X e2 (uX K b)):WE X (.Subscript e1 (.Slice (O e2) U U p2) pos) (lift K<|TK [a,b]<|o2 kL):=by subst c;exact⟨OW (ZK nj d.h (CY e.h) NV) λq=>NF (P:=λx z H=>fS (Jy X.K) x z H _)<|bV xE q⟩
end L3
namespace L2
theorem KU:fillsNumberSlot (.type "tuple") "mul"=pure false:=PySem.fillsNumberSlot_seq (id:="tuple.__mul__") (r:=O<|.builtin "tuple.__rmul__") PySem.F.slot_tuple_mul.lookup (by decide +kernel) PySem.F.slot_tuple_rmul.lookup (by decide +kernel)
theorem rj:seqRepeat? (.type "tuple")=pure (O<|.builtin "tuple.__mul__"):=by unfold seqRepeat?;rw[PySem.seqSlot_of (T:="tuple") (name:="__mul__") (id:="tuple.__mul__") PySem.F.slot_tuple_mul.lookup (by decide +kernel),PySem.seqSlot_of (T:="tuple") (name:="__rmul__") (id:="tuple.__rmul__") PySem.F.slot_tuple_rmul.lookup<|by decide +kernel];rfl
theorem CW(a:Int)(t:Tok)(l:Eb)(items:Zi Bb)(n:Nat)(b:Zi (Yi Bb)):Qi (Builtin.«int.__rmul__» ⟨[.int a t,.ref l],[]⟩) (λ_ R s=>s.heap.get? l=O {cls:=.type "tuple",dict:=U,data:=.seq items n,slots:=b}/\R (.ok<|.ret LQ) s):=
 .of_wp λprog w A R s h=>by
  obtain⟨c,g,d,e,os⟩:=s;obtain⟨hl,h⟩:=h
  wp_walk
  exact⟨_,Z,h⟩
theorem yE(l:Eb)(items:Zi Bb)(n:Nat)(q:Zi (Yi Bb))(k:Int)(t:Tok)(e:2<=k)(M:k<2 ^ 63)(i:items.isEmpty=Um)(j:items.size*k.toNat<=sizeLine):Qi (Builtin.«tuple.__mul__» ⟨[.ref l,.int k t],[]⟩) (λ_ R s=>s.heap.get? l=O {cls:=.type "tuple",dict:=U,data:=.seq items n,slots:=q} /\ R (.ok<|.ret<|.ref s.heap.objs.size) {s with heap:=s.heap.push {cls:=.type "tuple",data:=.seq<|N8 (λb c=>b++c) #[] (O1 k.toNat items)}}):=
 .of_wp λprog w A R s h=>by
  obtain⟨P,g,d,Y,os⟩:=s;obtain⟨hl,h⟩:=h;have v:(Uo (k < -2 ^ 63)||decide (k ≥ 2 ^ 63))=false:=by simp;lia
  have x:(items.isEmpty||k==1)=false:=by rw[i];simp;exact Int.ne_of_gt e
  have y:(Uo (k<=0)||items.isEmpty)=false:=by rw[i];simp;exact j9 e
  have B:((k.toNat:Nat):Int)=k:=by lia
  have C:(items.size:Int)*k<=(sizeLine:Nat):=by rw[<-B];exact_mod_cast j
  have hs:(sizeLine:Nat)<=(2 ^ 63-1) / 8:=by decide
  have F:¬((items.size:Int)*k > (2 ^ 63-1) / 8):=by omega
  wp_walk
  refine Ge (Qb<|by rw[v];exact X0) ?_
  wp_walk
  refine Ge (Qb<|by rw[x];exact X0) ?_
  wp_walk
  refine Ge (Qb<|by rw[y];exact X0) ?_
  wp_walk
  rw[if_neg F]
  wp_walk
  have G:Builtin.Tuple.tupleTooMany ((items.size:Int)*k)=false:=Qb<|S8 C;refine Ge (Qb<|by rw[G];exact X0) ?_;have I:(N8 (λb c=>b++c) #[] (O1 k.toNat items)).size<=sizeLine:=by
   have f0:∀(m:Nat) (a:Zi Bb),(N8 (λb c=>b++c) a<|O1 m items).size=a.size+m*items.size:=by
    intro m;induction m with
    |zero=>intro a;simp
    |succ m L=>intro a;rw[X4,Y7,L,Array.size_append,n8];lia
   rw[f0,pQ];simpa using j
  wp_walk
  exact⟨_,Z,h⟩
def Py:R2:=λx y H Q=>∃l k a,x=.ref l/\y=.int k/\H l=O (.tup a)/\a≠[]/\2<=k/\k<2 ^ 63/\a.length*k.toNat<=sizeLine/\∀p,H p=U->Q (.ref p) (kZ H p<|.tup (O1 k.toNat a).flatten)
theorem AE:OpR X (Rc .Mult) Py:=by
 intro gb s σ H x y v u Q I G L h;obtain⟨l,k,i,rfl,rfl,M,P,R,Y,j,q⟩:=h;cases G;obtain⟨t,rfl⟩:=L;obtain⟨z,its,r,⟨cls,dd,B,C⟩,e,c,m,d,dn⟩:=(show ObjOk X.prog X.w H s.heap l (.tup i) from I.hok l _ M);simp only at c d dn;subst c d dn;have hl:=r.length;have a:its.toArray.isEmpty=false:=by
  cases its with
  |nil=>exact absurd (k8.mp hl) P
  |cons=>rfl
 refine Zd (T:="tuple") (U:="int") (by decide) ⟨_,e,Z⟩ (λs'=>Ue s' k t) KU PySem.F.fills_int_mul PySem.F.slot_int_rmul rj PySem.F.slot_int_index.lookup
  (Zc PySem.F.slot_int_rmul (Ue s k t) PySem.F.entry_int_rmul (PySem.F.args_int_rmul_2 _ _) (CW k t l its.toArray m C)
    ⟨e,Z,⟨_,e,Z⟩,Zc PySem.F.slot_tuple_mul ⟨_,e,Z⟩ PySem.F.entry_tuple_mul (PySem.F.args_tuple_mul_2 _ _) (yE l its.toArray m C k t R Y a<|by rw[P0,<-hl];exact j) ⟨e,?_⟩⟩);have f0:N8 (λx1 x2=>x1++x2) #[] (O1 k.toNat its.toArray)=(O1 k.toNat its).flatten.toArray:=by
  have:=UW its k.toNat [];rw[a9]at this;exact this
 rw[f0];exact⟨.ref _,_,I.laid (t':=s.toks) (λb o e=>g0 _ e) (A0 _)<|show ObjOk X.prog X.w _ _ _ (.tup (O1 k.toNat i).flatten) from ⟨by rw[Jz,pQ];exact j,_,r.rep k.toNat,IsTupD.new _ _⟩,Z,q _ I.fresh⟩
end L2
namespace L3
open L2
end L3
namespace L2
section
variable {P:Cc}{w:Wb}{κ:Type}[DecidableEq κ]{kd:KeyKind P w κ}
def BKey(kd:KeyKind P w κ)(h:Dc)(k:List κ×List κ)(a:Eb):Prop:=∃o b c n,h.get? a=O o/\o.cls=.type "tuple"/\o.data=.seq #[.ref b,.ref c] n/\Jf kd h k.1 b/\Jf kd h k.2 c
theorem BKey.ty(x:BKey kd s.heap k a):s.TypeIs (.ref a) "tuple":=by obtain⟨o,_,_,_,e,c,_⟩:=x;exact⟨o,e,c⟩
theorem ZH(kk:∀b c,h.get? b=O c->h'.get? b=O c)(x:Jf kd h k a):Jf kd h' k a:=by obtain⟨o,its,n,e,r⟩:=x;exact⟨o,its,n,kk _ _ e,r⟩
theorem BKey.mono(kk:∀b d,h.get? b=O d->h'.get? b=O d)(x:BKey kd h k a):BKey kd h' k a:=by obtain⟨o,b,c,n,e,i,j,l,m⟩:=x;exact⟨o,b,c,n,kk _ _ e,i,j,ZH kk l,ZH kk m⟩
theorem BKey.inj(p:BKey kd h x a)(q:BKey kd h y a):x=y:=by
 obtain⟨o,b,c,n,e,_,d,i,j⟩:=p;obtain⟨k,l,m,M,t,_,v,B,C⟩:=q;have F:o=k:=Z1<|e.symm.trans t;subst F;have G:=d.symm.trans v;injection G with z _;have z:=Rb fX z;have I:b=l:=by injection z with z1 _;injection z1
 have L:c=m:=by injection z with _ z2;injection z2 with z2 _;injection z2
 subst I;subst L;exact Prod.ext (i.inj B)<|j.inj C
theorem BKey.stays(x:BKey kd h k a)(i:h.get? d=O o)(hd:o.data=.dict es ep)(j:E3 d h h'):BKey kd h' k a:=by
 obtain⟨m,b,c,n,e,q,l,t,v⟩:=x;have ne:a≠d:=λz=>by subst z;have y:=Z1<|e.symm.trans i;subst y;rw[hd]at l;cases l
 exact⟨m,b,c,n,(j.2 a ne).trans e,q,l,t.keeps i hd j,v.keeps i hd j⟩
noncomputable def Qy(kd:KeyKind P w κ)(k:List κ×List κ):Int:=Xh<|Q5 [tupleKeyHash kd k.1,tupleKeyHash kd k.2]
theorem cO{Q:Int->Gb->Prop}(j:A.units+4<Oc)(l:BKey kd s.heap k a)(q:Q (Qy kd k) {s with toks:=s.toks+(k.1.length+1+(k.2.length+1)+1)}):Hb (Kb P w) A (PySem.pyHash<|.ref a) Q E s:=by
 have i:=l.ty;obtain⟨o,b,c,n,y,_,hd,B,C⟩:=l;unfold PySem.pyHash;first|unfold pyHashByItsType|skip
 first|refine Ab (wpAny_cRoomFor_or (.inr<|R0 (B1 _ _) j) ?_)|skip
 refine Ab<|Fe i F.slot_tuple_hash.lookup ?_;show Hb _ _ (if (O (W9 "tuple.__hash__")==O b8)=Ul then _ else _) Q E s;rw[if_neg<|by rw[beq_builtin_none];decide];refine Ab<|Fe i F.slot_tuple_hash.lookup ?_;show Hb _ _ (callSpecialIfBoundUnlessNone? (.ref a) "__hash__" _ >>= _) Q E s;refine Ab<|wpAny_callSpecialIfBoundUnlessNone?_slot i F.slot_tuple_hash<|wpAny_call_entry F.slot_tuple_hash i F.entry_tuple_hash ?_<|F.args_tuple_hash_1 _;show Hb _ _ (J7 (.ref a) >>= _) _ _ s;refine Ab<|Mf y hd ?_;refine Ab ?_;rw[<-e8];have t:A.in1.units<Oc:=by show A.units+1<Oc;exact R0 (Q0 (i5 _ _) _) j
 refine Td _
  (λrest (r:Zi Int) s'=>(rest=[.ref b,.ref c]/\r.toList=[]/\s'=s)\/(rest=[.ref c]/\r.toList=[tupleKeyHash kd k.1]/\s'={s with toks:=s.toks+(k.1.length+1)}) \/
    (rest=[]/\r.toList=[tupleKeyHash kd k.1,tupleKeyHash kd k.2]/\s'={s with toks:=s.toks+(k.1.length+1)+(k.2.length+1)}))
  _ ?_ ?_ _ _ (.inl ⟨Z,Z,Z⟩)
 .rintro x rest r s' (⟨e,d,rfl⟩|⟨e,d,rfl⟩|⟨e,_⟩)
  .cases e;refine Ab<|wpAny_pyHash_tuple t B ?_;exact Db<|.inr<|.inl ⟨Z,by simp[d],Z⟩
  .cases e;refine Ab<|wpAny_pyHash_tuple t C ?_;exact Db<|.inr<|.inr ⟨Z,by simp[d],Z⟩
  .cases e
 .rintro r s' (⟨e,_⟩|⟨e,_⟩|⟨_,d,rfl⟩)
  .cases e
  .cases e
  show Hb _ _ (retInt<|Q5 r.toList) _ _ _;rw[d];refine wpAny_ret_mkInt ?_;unfold Qy Xh at q;generalize Q5 [tupleKeyHash kd k.1,tupleKeyHash kd k.2]=m at q;show Hb _ _ (if (Uo (-(2:Int) ^ 63<=m)&&Uo (m<2 ^ 63))=Ul then _ else _) Q E _;have G:s.toks+(k.1.length+1+(k.2.length+1)+1)=s.toks+(k.1.length+1)+(k.2.length+1)+1:=by lia
  rw[G]at q;by_cases v:(Uo (-(2:Int) ^ 63<=m)&&Uo (m<2 ^ 63))=Ul
  .rw[Ib v]at q ⊢;exact Db q
  .rw[if_neg v]at q ⊢;exact Ab<|Qc<|Db q
theorem gS(j:A.units<Oc)(hx:BKey kd s.heap x a)(hy:BKey kd s.heap y b)(h:R (.done<|.ret<|.bool<|decide<|x=y) s):Hb (Kb P w) A (Builtin.«tuple.__eq__» ⟨[.ref a,.ref b],[]⟩) R E s:=by
 have l:=hy.ty;obtain⟨M,m,k,Y,q,_,da,t,B⟩:=hx;obtain⟨ob,C,b2,nb,F,_,G,I,L⟩:=hy;show Hb _ _ (isInstance (.ref b) (.type "tuple") >>= _) _ _ s;refine Ab<|Ad l Re ?_;simp only[U7,U2,if_false];refine Ab<|Mf q da ?_;refine Ab<|Mf F G ?_;refine Ab ?_;refine Td _
  (λrest r s'=>r.1=U/\s'=s/\(rest=[(.ref m,.ref C),(.ref k,.ref b2)]\/(rest=[(.ref k,.ref b2)]/\x.1=y.1)\/(rest=[]/\x=y))) _ ?_ ?_ _ _ ⟨Z,Z,.inl Z⟩
 .rintro⟨u,v⟩ rest r s' ⟨i,rfl,e|⟨e,d⟩|⟨e,_⟩⟩
  .cases e;refine Ab<|wpAny_eqBool_tuple j t I ?_;by_cases c:x.1=y.1
   .rw[Sb c];exact Db ⟨Z,Z,.inr<|.inl ⟨Z,c⟩⟩
   .rw[Qb c];rw[Qb<|show ¬x=y from λz=>c<|by rw[z]]at h;exact Ab<|Db<|Db<|Db h
  .cases e;refine Ab<|wpAny_eqBool_tuple j B L ?_;by_cases c:x.2=y.2
   .rw[Sb c];exact Db ⟨Z,Z,.inr<|.inr ⟨Z,Prod.ext d c⟩⟩
   .rw[Qb c];rw[Qb<|show ¬x=y from λz=>c<|by rw[z]]at h;exact Ab<|Db<|Db<|Db h
  .cases e
 .rintro⟨r1,r2⟩ s' ⟨i,rfl,e|⟨e,_⟩|⟨_,d⟩⟩
  .cases e
  .cases e
  simp only at i;subst i;rw[Sb d]at h;exact Db h
theorem M'{Q:Bool->Gb->Prop}(i:A.units+4<Oc)(hx:BKey kd s.heap x a)(hy:BKey kd s.heap y b)(h:Q (decide<|x=y) s):Hb (Kb P w) A (PySem.eqBool (.ref a)<|.ref b) Q E s:=by
 unfold PySem.eqBool;try with_reducible refine Xb ?_
 show Hb _ _ (if (K4 a==K4 b)=Ul then _ else _) Q E s;by_cases c:(K4 a==K4 b)=Ul
 .rw[Ib c];have e:a=b:=by have:=eq_of_beq c;injection this
  subst e;have e:=hx.inj hy;subst e;rw[Sb Z]at h;exact Ab<|Qc<|Db h
 .rw[if_neg c];have d:A.in1.units<Oc:=by show A.units+1<Oc;lia
  exact Ab<|wpAny_richCompare_same_room (op:=.Eq) hx.ty hy.ty F.slot_tuple_eq
    (wpAny_call_entry F.slot_tuple_eq hx.ty F.entry_tuple_eq (gS d hx hy ⟨_,Z,(λe=>nomatch e),Xc h⟩)<|F.args_tuple_eq_2 _ _) (W6 d)
theorem sj{Q:Bool->Gb->Prop}(d:Jf kd s.heap k a)(h:Q Ul s):Hb (Kb P w) A (Gi (n+1)<|.ref a) Q E s:=by
 have e:=d.typeIs;obtain⟨o,its,m,j,_,hd,hi⟩:=d;unfold Gi;refine Ab<|Fe e F.slot_tuple_eq.lookup ?_;show Hb _ _ (isInstance (.ref a) (.type "tuple") >>= _) _ _ s;refine Ab<|Ad e Re ?_;simp only[U7,U2,if_false];refine Ab<|Jc j hd ?_;refine Ab ?_;show Hb _ _ (forIn its _ _) _ _ s;rw[<-e8];refine Td _ (λrest r s'=>r.1=U/\s'=s/\∀v∈rest,carriedByValue v=Ul) _ ?_ ?_ _ _ ⟨Z,Z,hi.byValue⟩
 .rintro v rest r s' ⟨b,rfl,i⟩;rw[eqIsQuiet_byValue _<|i v u0];exact Ab<|Db<|Db ⟨Z,Z,λu c=>i u<|i0 _ c⟩
 .rintro⟨l,q⟩ s' ⟨b,rfl,_⟩;simp only at b;subst b;exact Db h
theorem BE{Q:Bool->Gb->Prop}(i:BKey kd s.heap k a)(h:Q Ul s):Hb (Kb P w) A (Gi 8<|.ref a) Q E s:=by
 have j:=i.ty;obtain⟨o,b,c,n,q,_,hd,t,x⟩:=i;unfold Gi;refine Ab<|Fe j F.slot_tuple_eq.lookup ?_;show Hb _ _ (isInstance (.ref a) (.type "tuple") >>= _) _ _ s;refine Ab<|Ad j Re ?_;simp only[U7,U2,if_false];refine Ab<|Jc q hd ?_;refine Ab ?_;show Hb _ _ (forIn #[K4 b,K4 c] _ _) _ _ s;rw[<-e8];refine Td _ (λrest r s'=>r.1=U/\s'=s/\∀v∈rest,v=.ref b\/v=.ref c) _ ?_ ?_ _ _ ⟨Z,Z,λv y=>by simpa using y⟩
 .rintro v rest r s' ⟨d,rfl,l⟩;have m:∀v∈rest,v=.ref b\/v=.ref c:=λu e=>l u<|i0 _ e;rcases l v u0 with rfl|rfl
  .exact Ab (sj t<|Db ⟨Z,Z,m⟩)
  .exact Ab (sj x<|Db ⟨Z,Z,m⟩)
 .rintro⟨B,C⟩ s' ⟨d,rfl,_⟩;simp only at d;subst d;exact Db h
noncomputable def LU(kd:KeyKind P w κ):HeapKind P w (List κ×List κ) where
 is:=BKey kd
 hash:=Qy kd
 draws:=λk=>k.1.length+1+(k.2.length+1)+1
 room:=λA=>A.units+4<Oc
 inj:=λp q=>p.inj q
 keeps:=λx c hd d=>x.stays c hd d
 pyHash:=λa b h=>cO a b h
 eqBool:=λa hx hy h=>M' a hx hy h
 quiet:=λb h=>BE b h
end
end L2
namespace L3
open L2
section
variable {K:Fg}{e e1:Vb}{a:AD}{p pos p2:Pos}
theorem IJ(b:Room k A):A.units+6<Oc:=R0 (Q0 (by decide:6<=64) _) b.units
end
end L3
namespace L2
section
variable {w:Wb}
end
theorem tj{R:α->β->Prop}{m:List β}(p:Paired R l m):∀{i:Nat}{x:α},l[i]?=O x->∃y,m[i]?=O y/\R x y:=by
 induction p with
 |nil=>intro i x h;cases h
 |cons r t a =>
  intro i x h;cases i with
  |zero=>cases h;exact⟨_,Z,r⟩
  |succ i=>exact a h
section
variable {hs:κ->Int}
theorem Ry(e:ObjOk P w H h d (JZ hs d' ep xs)):d'=d:=by
 obtain⟨f,⟨o,l⟩,st⟩:=e;by_cases z:d'=d
 .exact z
 exfalso;obtain⟨⟨m,t,v,x,b,y,B,C⟩,_⟩:=id f;obtain⟨⟨c,_,o2,i,a,g2,_⟩,_⟩:=st h (h.update d' λ_=>{cls:=.type "tuple",data:=.seq #[]}) f λq j=>by rw[G4 _ d d' _<|U3 z];exact j
 have k:(h.update d' λ_=>{cls:=.type "tuple",data:=.seq #[]}).get? d'=O {cls:=.type "tuple",data:=.seq #[]}:=l7 _ b Z;rw[k]at a;injection a with a;rw[<-a]at g2;exact absurd g2.1 (by decide)
theorem ext_at(I:Inv X gb σ H s)(e:H d=O (JZ hs d' ep xs)):∃(b:List (κ×Eb×Bb)) (o:Obj) (a:Zi DictEntry),Paired (λx v=>x.1=v.1/\x.2.1=v.2.1/\RelV x.2.2 v.2.2) xs b/\s.heap.get? d=O o/\o.ExactDict/\o.data=.dict a ep/\(a.toList=b.map λx=>⟨hs x.1,.ref x.2.1,x.2.2⟩)/\a.size=xs.length/\(xs.map (·.1)).Nodup/\xs.length<=sizeLine/\(d==Ac)=false:=by
 have j:=Ry<|show ObjOk X.prog X.w H s.heap d (JZ hs d' ep xs) from I.hok d _ e;subst j;obtain⟨⟨⟨b,c,o,a,k,l,m,i⟩,q,hl,t⟩,_⟩:=(show ObjOk X.prog X.w H s.heap d' (JZ hs d' ep xs) from I.hok d' _ e);refine⟨b,o,a,c,k,l,m,i,?_,q,hl,t⟩;have:=Rb U4 i;rw[j0,<-c.length]at this;simpa using this
end
def y_(K:B0):List V->Hp->VK->Prop:=λc a Q=>∃(d:Kd) (l1:Eb) (e:Kd) (l2:Eb) (b:List (Ql×Eb×V)),c=[.ref l1,.ref l2]/\Sq d K a l1 (b.map λx=>V.ref x.2.1)/\Sq e K a l2 (b.map λx=>x.2.2) /\
 (∀x∈b,a x.2.1=O (.tup<|x.1.map V.int))/\(b.map (·.1)).Nodup/\∀l i,a l=U->Q (.ref l) (kZ a l<|JZ hL l i b)
def Ma(K:B0)(a:TA):TE:=λσ H Q=>a σ H λb c=>y_ K b c Q
theorem DW{P:Cc}{w:Wb}:∀{ks:Ql}{us:Up},Vals (ks.map V.int) us->ItemsAre (Yd P w) ks us
 |[],_,r=>by cases r;exact .nil
 |k::ks,_,r=>by
  cases r with
  |cons h t=>obtain⟨a,rfl⟩:=h;exact .cons (by show CQ k (.int k a)=Ul;simp[CQ])<|DW t
theorem MU{R:α->β->Prop}{x:α}{y:β}{l:List α}{m:List β}(p:Paired R l m)(r:R x y):Paired R (l++[x]) (m++[y]):=by
 induction p with
 |nil=>exact .cons r .nil
 |cons a t b=>exact .cons a b
theorem CJ{a:List (κ×Eb×V)}{b:List (κ×Eb×Bb)}(p:Paired (λx v=>x.1=v.1/\x.2.1=v.2.1/\RelV x.2.2 v.2.2) a b):b.map (·.1)=a.map (·.1):=by
 induction p with
 |nil=>rfl
 |cons r t c=>simp only[E1,c,r.1]
theorem QG{R:α->β->Prop}{l:List α}{m:List β}(p:Paired R l m):l.length=m.length:=by
 induction p with
 |nil=>rfl
 |cons _ t a=>rw[U1,U1,a]
theorem EW{R:α->β->Prop}{l:List α}{m:List β}(p:Paired R l m):∀y∈m,∃x∈l,R x y:=by
 induction p with
 |nil=>intro y h;cases h
 |cons r t a =>
  intro y h;rcases T0.mp h with z|z
  .subst z;exact⟨_,u0,r⟩
  .obtain⟨x,hx,b⟩:=a y z;exact⟨x,i0 _ hx,b⟩
theorem Uy[DecidableEq κ]{a:List (κ×Eb×Bb)}{k:κ}(h:k∉a.map (·.1)):atKey a k=none:=atKey_none_of_get λj p e=>h<|J0.mpr ⟨_,P2 e,Z⟩
theorem rD{l:List α}{x:α}(h:l[i]?=O x):l.take (i+1)=l.take i++[x]:=by have hi:=(L1.mp h).1;have e:=(L1.mp h).2;rw[O9,h];rfl
theorem aG{a:List (κ×Eb×V)}{x:κ×Eb×V}(d:(a.map (·.1)).Nodup)(h:a[i]?=O x):x.1∉(a.take i).map (·.1):=λz=>by
 obtain⟨y,hy,e⟩:=J0.mp z;obtain⟨j,b⟩:=m7.mp hy;rw[List.getElem?_take]at b;split at b
 .rename_i k;have c:(a.map (·.1))[j]?=O x.1:=by rw[G1,b,m6,e]
  have l:(a.map (·.1))[i]?=O x.1:=by rw[G1,h];rfl
  have:=(T9 (L1.mp c).1 d).mp<|c.trans l.symm;exact j4 _<|v0 k<|A1 this.symm
 .cases b
theorem iS{p:Pos}(hcm:X.calm=Ul)(hu:X.A.units+2<Oc)(hg0:Gl X "dict")(hm0:X.mg "dict"=U)(hv0:Gc "dict"=O (.type "dict"))(hg:Gl X "zip")(hm:X.mg "zip"=U)(ha:PA X [a,b] ta)(hs:Pb [a,b] X.env=(Um,Wc a X.env)::Pb [b] X.env) (jc:(Sc pos<|Pb [b] X.env).any (·.1)=Um)(Y:Pb [.Call (.Name "zip" p) [a,b] [] pos] X.env=(Um,Wc (.Call (.Name "zip" p) [a,b] [] pos) X.env)::Pb [] X.env) (hpl0:(Sc pos0<|Pb [] X.env).any (·.1)=Um):PE X (.Call (.Name "dict" p0) [.Call (.Name "zip" p) [a,b] [] pos] [] pos0) (Ma X.K ta):=by
 intro gb s σ H Q I h;refine Cd (TJ I hg0 hm0 hv0 ?_ (by decide)<|by decide);refine W3 ?_ Y hpl0;rw[Y];show Hb _ _ (spliced ((Um,Wc (.Call (.Name "zip" p) [a,b] [] pos) X.env)::Sc pos0 (Pb [] X.env))) _ _ s;refine Calls.spliced_cons ?_;refine Call_<|TJ I hg hm boot_zip<|W3 (xZ (ha pos gb s σ H _ I h) λus d ⟨C,H1,P,r1,q1⟩=>?_) hs jc;obtain⟨j,l1,B,l2,G,e,q1,q2,hky,dg,q⟩:=q1;subst e;obtain rfl:us=[.ref l1,.ref l2]:=by cases r1 with|cons r rr=>cases r;cases rr with|cons r rr=>cases r;cases rr;rfl
 obtain⟨fm,rv1,p1,z1⟩:=P.sq q1;obtain⟨be,rv2,p2,z2⟩:=P.sq q2;have lt:∀{k:Kd}{l:Eb}{G:Zi Bb},SqAt k d.heap l G->l<d.heap.objs.size:=λ{k l G} p=>by
  cases k with
  |l=>obtain⟨o,e,_⟩:=p;exact G0 e
  |t=>obtain⟨o,e,_⟩:=p;exact G0 e
 refine Tg F.called_zip (by decide) (F.typeCall_zip_2 _ _) (F.newCall_zip_2 _ _) (λobj=>F.args_object_init_3 obj _ _) F.entry_zip_new (GF j B l1 l2 fm.toArray be.toArray) ⟨p1,p2,?_⟩;have zI:(Ex d.heap j B l1 l2).objs.size=d.heap.objs.size+2:=by simp[u3]
 have zT:(Fx d.heap j B l1 l2).objs.size=d.heap.objs.size+3:=by simp[u3]
 have zO:(Gx d.heap j B l1 l2).objs.size=d.heap.objs.size+4:=by simp[u3]
 have zZ:(RK d.heap j B l1 l2).objs.size=d.heap.objs.size+5:=by simp[u3]
 have gZ:(RK d.heap j B l1 l2).get? (Gx d.heap j B l1 l2).objs.size=O _:=L0 _ Z;have gO:(RK d.heap j B l1 l2).get? (Fx d.heap j B l1 l2).objs.size=O _:=g0 _<|L0 _ Z;have gT:(RK d.heap j B l1 l2).get? (Ex d.heap j B l1 l2).objs.size=O _:=g0 _<|g0 _<|L0 _ Z;have g1:(RK d.heap j B l1 l2).get? d.heap.objs.size=O (UZ j l1):=g0 _ (g0 _<|g0 _<|g0 _<|L0 _<|by cases j<;>rfl);have g2:(RK d.heap j B l1 l2).get? (d.heap.push<|UZ j l1).objs.size=O (UZ B l2):=g0 _ (g0 _<|g0 _<|L0 _<|by cases B<;>rfl);have zz2:(d.heap.push<|UZ j l1).objs.size=d.heap.objs.size+1:=by simp[u3]
 rw[zO,zT,zI]at gZ;rw[zI,zz2]at gT;rw[zT]at gO;rw[zz2]at g2;show _/\_;rw[zO];have kp:∀b o,d.heap.get? b=O o->(RK d.heap j B l1 l2).get? b=O o:=λb o e=>g0 _<|g0 _<|g0 _<|g0 _<|g0 _<|e;refine⟨⟨_,gZ,Z⟩,Calls.spliced_nil ?_⟩;have len1:=rv1.length;have len2:=rv2.length;have DD:=FP d.heap.objs.size l1 l2 (lt p1)<|lt p2;have hxl:fm.length=G.length:=by rw[<-len1,j0]
 have hxl2:be.length=G.length:=by rw[<-len2,j0]
 have key:∀{x:Ql×Eb×V}{h':Dc},x∈G->(∀b ob,d.heap.get? b=O ob->h'.get? b=O ob)->(Je<|Yd X.prog X.w).is h' x.1 x.2.1:=λ{x h'} hx kk=>by obtain⟨_,its,r,o,h1,h2,n,h3,_⟩:=(show ObjOk X.prog X.w H1 d.heap x.2.1 (.tup<|x.1.map V.int) from P.hok _ _<|hky x hx);exact⟨o,its.toArray,n,kk _ _ h1,h2,h3,by simpa using DW r⟩
 have hb:(d.heap.objs.size+5==Ac)=false:=beq_eq_false_iff_ne.mpr<|U3<|U0<|v0 P.big<|B1 _ _;have hz5:G.length<=sizeLine:=by lia
 refine xH (s:={d with heap:=RK d.heap j B l1 l2}) (xs1:=fm.toArray) (xs2:=be.toArray) (n:=G.length) (λi h=>(∀b ob,d.heap.get? b=O ob->h.get? b=O ob)/\∃C:List (Ql×Eb×Bb),Paired (λx v=>x.1=v.1/\x.2.1=v.2.1/\RelV x.2.2 v.2.2) (G.take i) C/\∃o L M,h.get? (d.heap.objs.size+5)=O o/\o.ExactDict/\o.data=.dict L M/\L.toList=C.map λx=>⟨hL x.1,.ref x.2.1,x.2.2⟩)
  (P.ok.hd hcm) DD (by simp only[P0];exact A1 hxl.symm) (by simp only[P0];exact A1 hxl2.symm) (.inl<|by simp;exact A1 hxl) gZ gT gO (ItAt.new j g1) (ItAt.new B g2)
  (p1.at λo e=>kp _ _ e) (p2.at λo e=>kp _ _ e) (by show l1<(RK d.heap j B l1 l2).objs.size;rw[zZ];exact v0 (lt p1)<|B1 _ _) (by show l2<(RK d.heap j B l1 l2).objs.size;rw[zZ];exact v0 (lt p2)<|B1 _ _) ?_ ?_ ?_ ?_
 .intro h' kk e;dsimp only at e;rw[zZ]at e;exact⟨λb o x=>kk b o<|kp b o x,[],.nil,_,#[],0,e,⟨Z,Z,Z⟩,Z,Z⟩
 .rintro i h1 h2 ⟨kk,C,m,R,L,M,ho,rest⟩ k3;have far:∀{b:Eb},b<d.heap.objs.size->b≠d.heap.objs.size+4/\b≠d.heap.objs.size+3/\b≠d.heap.objs.size/\b≠d.heap.objs.size+1:=λ{b} z=>⟨sY 4 z,sY 3 z,sY 0 z,sY 1 z⟩;refine⟨λb o x=>?_,C,m,R,L,M,?_,rest⟩
  .obtain⟨f1,f2,f3,f4⟩:=far<|G0 x;exact k3 b o f1 f2 f3 f4<|kk b o x
  .refine k3 _ _ ?_ ?_ ?_ ?_ ho<;>(show ¬(@Eq Nat _ _))<;>lia
 .rintro i x y s' Q' E' hi hx hy ⟨kk,C,m,R,L,M,ho,a1,a2,a3⟩ fi;dsimp only at fi ⊢;rw[zZ]at fi ⊢;obtain⟨y1,ey1,ry1⟩:=rv1.getV (by simpa using hx);obtain⟨y2,ey2,ry2⟩:=rv2.getV (by simpa using hy);obtain⟨⟨k,b,v⟩,ko⟩:∃x,G[i]?=O x:=⟨_,M0 hi⟩;rw[G1,ko]at ey1 ey2;cases ey1;cases ey2;cases ry1;have hxm:(k,b,v)∈G:=P2 ko;have hvl:=QG m;rw[E2]at hvl;have zf:C.length<=sizeLine:=by lia
  have vd:=aG dg ko;rw[<-CJ m]at vd;have vo:(C.map (·.1)).Nodup:=by rw[CJ m,X9];exact dg.sublist<|v8 _ _
  refine wpAny_dictSet_heap (hsz:=zf) (knd:=Je<|Yd X.prog X.w) hu (key hxm kk) ⟨R,L,M,ho,a1,a2,a3,λu hu'=>?_,vo⟩ λh' pi sb=>fi h' _ ⟨λc o e=>?_,C++[(k,b,y)],?_,?_⟩ sb
  .obtain⟨x',ye,r1,r2,_⟩:=EW m u hu';have:=key (v4 ye) kk;rw[r1,r2]at this;exact this
  .have hc:c<d.heap.objs.size:=G0 e;exact(sb.2 c<|sY 5 hc).trans<|kk c o e
  .rw[rD ko];exact MU m ⟨Z,Z,ry2⟩
  .obtain⟨q,L,M,hq,h2,h3,h4,_,h5⟩:=pi;rw[storedH_new<|Uy vd]at h4;exact⟨q,L,M,hq,h2,h3,h4⟩
 .rintro h' tk ⟨kk,C,m,R,L,M,f1,f2,f3,f4⟩;rw[Y1<|A0 _]at m;have vd:H1 (d.heap.objs.size+5)=none:=P.hok.fresh<|B1 _ _;dsimp only;rw[zZ];refine⟨.ref<|d.heap.objs.size+5,_,P.laid (t':=tk) kk (B1 _ _)<|show ObjOk X.prog X.w _ h' _ (JZ hL (d.heap.objs.size+5) M G) from ⟨⟨⟨C,m,R,L,f1,f2,f3,f4⟩,dg,hz5,hb⟩,⟨R,f1⟩,λh1 h2 z k=>?_⟩,Z,q _ M vd⟩;obtain⟨⟨C,r,o,L,g1,g2⟩,g3⟩:=z;exact⟨⟨C,r,o,L,k _ g1,g2⟩,g3⟩
def BK(H:Hp)(y:V)(k:Ql×Ql):Prop:=∃b c e:Eb,y=.ref b/\H b=O (.tup [.ref c,.ref e])/\H c=O (.tup<|k.1.map V.int)/\H e=O (.tup<|k.2.map V.int)
theorem Nq(I:Inv X gb σ H s){b:Eb}{a:List V}(e:H b=O (.tup a)):∃its,Vals a its/\∃o,s.heap.get? b=O o/\o.cls=.type "tuple"/\∃n,o.data=.seq its.toArray n:=by obtain⟨_,its,r,o,c,d,n,i,_⟩:=(show ObjOk X.prog X.w H s.heap b (.tup a) from I.hok b _ e);exact⟨its,r,o,c,d,n,i⟩
theorem uj(I:Inv X gb σ H s){ks:Ql}{b:Eb}(e:H b=O (.tup<|ks.map V.int)):Jf (Yd X.prog X.w) s.heap ks b:=by obtain⟨its,r,o,a,c,n,d⟩:=Nq I e;exact⟨o,its.toArray,n,a,c,d,by simpa using DW r⟩
theorem SV(I:Inv X gb σ H s){k:Ql×Ql}{b c e:Eb}(a:H b=O (.tup [.ref c,.ref e]))(d:H c=O (.tup<|k.1.map V.int))(i:H e=O (.tup<|k.2.map V.int)):BKey (Yd X.prog X.w) s.heap k b:=by obtain⟨its,r,o,j,l,n,m⟩:=Nq I a;obtain⟨v,x,rfl,q,t⟩:=NK r;cases q;cases t;exact⟨o,c,e,n,j,l,m,uj I d,uj I i⟩
def vj(K:B0):List V->Hp->VK->Prop:=λb H Q=>∃(p:Eb) (ys:List V) (a:List ((Ql×Ql)×Eb×V)),b=[.ref p]/\SqL K H p ys/\ys.length=a.length /\
 (∀(i:Nat) x,a[i]?=O x->∃q,ys[i]?=O (.ref q)/\H q=O (.tup [.ref x.2.1,x.2.2]))/\(∀x∈a,∃c e,H x.2.1=O (.tup [.ref c,.ref e])/\H c=O (.tup<|x.1.1.map V.int)/\H e=O (.tup<|x.1.2.map V.int)) /\
 (a.map (·.1)).Nodup/\∀l d,H l=U->Q (.ref l) (kZ H l<|JZ hB l d a)
theorem sD(hc:X.calm=Ul)(hu:X.A.units+6<Oc):nZ X (.type "dict") (vj X.K):=by
 intro gb s σ H d us Q I r h;obtain⟨p,ys,t,rfl,R,hyl,hp,hk,Y,q⟩:=h;obtain⟨u,rfl,rx⟩:=iJ r;cases rx;obtain⟨its,r',⟨o,n,e1,e2,e3,e4⟩,hz⟩:=I.list R;have ub:=r'.length;have C:∀{x:(Ql×Ql)×Eb×V}{h':Dc},x∈t->(∀b L,s.heap.get? b=O L->h'.get? b=O L)->BKey (Yd X.prog X.w) h' x.1 x.2.1:=λ{x h'} hx kk=>by obtain⟨c,e,g1,g2,g3⟩:=hk x hx;exact(SV I g1 g2 g3).mono kk
 have hb:(s.heap.objs.size==Ac)=false:=beq_eq_false_iff_ne.mpr<|U3<|U0 I.big;have hz5:t.length<=sizeLine:=by lia
 refine OK (λi h=>∃d:List ((Ql×Ql)×Eb×Bb),Paired (λx v=>x.1=v.1/\x.2.1=v.2.1/\RelV x.2.2 v.2.2) (t.take i) d/\∃o j l,h.get? s.heap.objs.size=O o/\o.ExactDict/\o.data=.dict j l/\j.toList=d.map λx=>⟨hB x.1,.ref x.2.1,x.2.2⟩) (I.ok.hd hc) e1 e2 e4 e3 ?_ ?_ ?_ ?_
 .intro h' _ e;exact⟨[],.nil,_,#[],0,e,⟨Z,Z,Z⟩,Z,Z⟩
 .rintro i h1 F ⟨d,a,B,j,l,ho,rest⟩ kp;exact⟨d,a,B,j,l,kp _ _ (Z3 _) ho,rest⟩
 .rintro i v s' Q' E' hv ⟨d,a,B,j,l,ho,a1,a2,a3⟩ kk fi;have hi:i<its.length:=(L1.mp<|by simpa using hv).1;obtain⟨⟨k,b,w'⟩,M⟩:∃x,t[i]?=O x:=⟨_,M0<|by lia⟩;obtain⟨qq,ey,eq⟩:=hp i _ M;obtain⟨y,G,ry⟩:=r'.getV (by simpa using hv);rw[ey]at G;cases G;cases ry;have hxm:(k,b,w')∈t:=P2 M;obtain⟨be,r2,L,h1,F,m,h3⟩:=Nq I eq;obtain⟨u1,u2,rfl,ru1,ru2⟩:=NK r2;cases ru1;have hvl:=QG a;rw[E2]at hvl;have zf:d.length<=sizeLine:=by lia
  have P:=aG Y M;rw[<-CJ a]at P;have vo:(d.map (·.1)).Nodup:=by rw[CJ a,X9];exact Y.sublist<|v8 _ _
  refine⟨qq,.ref b,u2,Z,⟨L,kk _ _ h1,F,m,h3⟩,wpAny_dictSet_heap (hsz:=zf) (knd:=LU<|Yd X.prog X.w) (show X.A.units+1+1+4<Oc by lia) (C hxm kk) ⟨B,j,l,ho,a1,a2,a3,λu hu'=>?_,vo⟩ λh' pi sb=>fi h' _ ⟨d++[(k,b,u2)],?_,?_⟩ sb⟩
  .obtain⟨x',ye,r1,r2,_⟩:=EW a u hu';have:=C (v4 ye) kk;rw[r1,r2]at this;exact this
  .rw[rD M];exact MU a ⟨Z,Z,ru2⟩
  .obtain⟨q,j,l,R,F,h3,h4,_,h5⟩:=pi;rw[storedH_new<|Uy P]at h4;exact⟨q,j,l,R,F,h3,h4⟩
 .rintro h' tk ⟨d,a,B,j,l,f1,f2,f3,f4⟩ kp;have et:t.take its.toArray.size=t:=by rw[Y1];simp only[P0];lia
  rw[et]at a;have P:H s.heap.objs.size=none:=I.hok.fresh<|A0 _;refine⟨.ref s.heap.objs.size,_,I.laid (t':=tk) kp (A0 _)<|show ObjOk X.prog X.w _ h' _ (JZ hB s.heap.objs.size l t) from ⟨⟨⟨d,a,B,j,f1,f2,f3,f4⟩,Y,hz5,hb⟩,⟨B,f1⟩,λh1 F z k=>?_⟩,Z,q _ l P⟩;obtain⟨⟨d,r,o,j,g1,g2⟩,g3⟩:=z;exact⟨⟨d,r,o,j,k _ g1,g2⟩,g3⟩
def lL:R2:=λx y H Q=>∃(d i:Eb) (j:Nat) (a:List ((Ql×Ql)×Eb×V)) (k:Ql×Ql) (b:Eb) (v:V),x=.ref d/\H d=O (JZ hB i j a)/\(∀x∈a,∃c e,H x.2.1=O (.tup [.ref c,.ref e])/\H c=O (.tup<|x.1.1.map V.int)/\H e=O (.tup<|x.1.2.map V.int))/\BK H y k/\(k,b,v)∈a/\Q v H
def jS(a ty:TE):TE:=λσ H Q=>a σ H λx b=>ty σ b λy c=>lL x y c Q
theorem EE{o:Vb}(hu:X.A.units+6<Oc)(P:PE X o td)(hi:PE X i ty)(R:Rw i):PE X (.Subscript o i pos) (jS td ty):=by
 intro gb s σ H Q I h;refine Mz PySem.F.slot_dict_getitem.lookup R<|xZ (P gb s σ H _ I h) λu Y ⟨x,H1,I1,rx,q1⟩=>xZ (hi gb Y σ H1 _ I1 q1) λiv s2 ⟨y,H2,l,ry,q2⟩=>?_;obtain⟨d,d',ep,xs,k,b,v,ex,hd,hk,⟨bb,c,e,ey,g1,g2,g3⟩,hm,q⟩:=q2;subst ex;subst ey;obtain rfl:u=K4 d:=rx;obtain rfl:iv=K4 bb:=ry;obtain⟨t,B,es,m,C,G,e3,e4,hz,dg,_,_⟩:=ext_at l hd;refine⟨⟨B,C,G.1⟩,?_⟩;obtain⟨j,hj⟩:=m7.mp hm;obtain⟨⟨k',b',w'⟩,hv,a,L,r3⟩:=tj m hj;have a:k=k':=a;subst a;have M:(t.map (·.1)).Nodup:=by rw[CJ m];exact dg
 have cf:∀x∈t,(LU<|Yd X.prog X.w).is s2.heap x.1 x.2.1:=λx hx=>by obtain⟨x',ye,a,L,_⟩:=EW m x hx;obtain⟨c,e,f1,f2,f3⟩:=hk x' ye;have:=SV l f1 f2 f3;rw[a,L]at this;exact this
 refine wpAny_getItem_heap (knd:=LU<|Yd X.prog X.w) (show X.A.units+1+4<Oc by lia) (SV l g1 g2 g3) ⟨B,es,ep,C,G,e3,e4,cf,M⟩ (atKey_of_get M hv) ?_;exact⟨v,H2,l.tok _,r3,q⟩
end L2
namespace L3
open L2
noncomputable abbrev tI(k:Ql):D:=.tuple<|k.map n0
noncomputable abbrev b2(k:Ql×Ql):D:=.tuple [tI k.1,tI k.2]
section
variable {K:Fg}{F:Hp}
theorem xj:∀{ks:Ql}{a:List V},DaAll K F a (ks.map n0)->a=ks.map V.int
 |[],_,h=>by cases h;rfl
 |k::ks,_,h=>by
  cases h with
  |cons h t=>rw[xj t];cases h;rfl
theorem Vy(h:Da K F v (tI k)):∃b,v=.ref b/\F b=O (.tup<|k.map V.int):=by
 cases h with
 |tup e t=>have:=xj t;subst this;exact⟨_,Z,e⟩
theorem Wy(h:Da K F v (b2 k)):∃b c e,v=.ref b/\F b=O (.tup [.ref c,.ref e])/\F c=O (.tup<|k.1.map V.int)/\F e=O (.tup<|k.2.map V.int):=by
 cases h with
 |tup e t =>
  cases t with
  |cons a t =>
   cases t with
   |cons d t=>cases t;obtain⟨c,rfl,i⟩:=Vy a;obtain⟨g,rfl,j⟩:=Vy d;exact⟨_,c,g,Z,e,i,j⟩
theorem Xy(h:tI a=tI b):a=b:=by injection h with h;exact(g8<|λx y z=>by injection z).mp h
theorem dO(h:b2 a=b2 b):a=b:=by injection h with h;injection h with h1 h2;injection h2 with h2 _;exact Prod.ext (Xy h1)<|Xy h2
theorem At.mark{c:D}(h:At K F H v (.dict [(.bool Um,c)]))(hd:∀L,c≠.list L):Da K F v (.dict [(.bool Um,c)])\/∃a l m d i,v=.ref a/\H a=O (JZ hB l m d)/\DaBd K F d i/\j8 [(.bool Um,c)]=tK i:=by
 rcases h with h|⟨a,o,rfl,_,e,h⟩
 .exact .inl h
 .cases o<;>first|exact h.elim|(rcases h.ext with⟨l,m,d,i,z,b,t⟩|⟨l,m,d,i,z,b,t⟩;(injection b with b;injection b with b _;injection b with _ b;exact absurd b<|hd _);exact .inr ⟨a,l,m,d,i,rfl,by rw[<-z];exact e,t,b⟩)|skip
  .have h:DaKV K F _ [(Y3 Um,c)]:=h;generalize j:([(Y3 Um,c)]:List (D×D))=es at h;cases h with
   |nil=>cases j
   |@cons k _ _ _ _ _ _=>cases k<;>cases j
  .have h:DaKT K F _ [(Y3 Um,c)]:=h;generalize j:([(Y3 Um,c)]:List (D×D))=es at h;cases h with
   |nil=>cases j
   |cons _ _=>cases j
theorem yj{b:D}(h:Da K F v (.dict [(.bool Um,b)])):(∃a,v=.ref a/\b=.none/\F a=O (KP a))\/(∃a j l c e,v=.ref a/\F a=O (JZ hL j l c)/\DaPd K F c e/\b=.list (e.map λp=>.tuple [tI p.1,p.2])) \/ ∃a j l c e,v=.ref a/\F a=O (JZ hB j l c)/\DaBd K F c e/\b=.tuple (e.map λp=>.tuple [b2 p.1,p.2]):=by
 generalize e0:(j8 [(.bool Um,b)])=d at h;cases h with
 |opq q=>cases e0;exact .inl ⟨_,Z,Z,q⟩
 |pd q t=>injection e0 with e0;injection e0 with e0 _;injection e0 with _ e0;exact .inr<|.inl ⟨_,_,_,_,_,Z,q,t,e0⟩
 |bd q t=>injection e0 with e0;injection e0 with e0 _;injection e0 with _ e0;exact .inr<|.inr ⟨_,_,_,_,_,Z,q,t,e0⟩
 |dk q t =>
  injection e0 with e0;subst e0;generalize i:([(Y3 Um,b)]:List (D×D))=es at t;cases t with
  |nil=>cases i
  |@cons k _ _ _ _ _ _=>cases k<;>cases i
 |dt q t =>
  injection e0 with e0;subst e0;generalize i:([(Y3 Um,b)]:List (D×D))=es at t;cases t with
  |nil=>cases i
  |cons _ _=>cases i
 |_=>cases e0
theorem DaBd.find:∀{a:List ((Ql×Ql)×Eb×V)}{c:List ((Ql×Ql)×D)},DaBd K F a c->∀{k:Ql×Ql}{d:D},(k,d)∈c->∃b v,(k,b,v)∈a/\Da K F v d
 |_,_,.nil,k,d,h=>by cases h
 |_,_,.cons e i j h t,k,d,z=>by
  rcases T0.mp z with z|z
  .cases z;exact⟨_,_,u0,h⟩
  .obtain⟨b,v,m,g⟩:=DaBd.find t z;exact⟨b,v,i0 _ m,g⟩
theorem DaBd.keys:∀{a:List ((Ql×Ql)×Eb×V)}{b:List ((Ql×Ql)×D)},DaBd K F a b->∀x∈a,∃c e,F x.2.1=O (.tup [.ref c,.ref e])/\F c=O (.tup<|x.1.1.map V.int)/\F e=O (.tup<|x.1.2.map V.int)
 |_,_,.nil,x,h=>by cases h
 |_,_,.cons d i j h t,x,z=>by
  rcases T0.mp z with z|z
  .subst z;exact⟨_,_,d,i,j⟩
  .exact DaBd.keys t x z
theorem Rel.newE{G:Gh}{σ:L2.St}{a:Eb}{o:HO}(R:Rel K G F σ H ρ)(h:H a=U)(d:stk o=false:=by rfl):Sub F (kZ F a o)/\Rel K G (kZ F a o) σ (kZ H a o) ρ:=by have j:Rel K G F σ (kZ H a o) ρ:=R.laid h;refine j.grow (a:=a) (o:=o) (R.h0 h) OX (λi s e w z=>?_) d;obtain⟨k,l,b,m,c,q⟩:=R.ow i s e w;rw[z]at b;cases b;rw[h]at c;cases c
end
def z_:D->D->(Sl->Prop)->Prop:=λd e Q=>∃a:List (Ql×D),xT d=O (a.map λp=>tI p.1)/\xT e=O (a.map (·.2))/\(a.map (·.1)).Nodup/\Q (.fz<|wG a)
theorem Yy{K:Fg}{F:Hp}:∀{c:List (Ql×D)}{i j:List V},DaAll K F i (c.map λp=>tI p.1)->DaAll K F j (c.map (·.2)) -> ∃a:List (Ql×Eb×V),a.map (·.1)=c.map (·.1)/\i=a.map (λx=>V.ref x.2.1)/\j=a.map (λx=>x.2.2)/\(∀x∈a,F x.2.1=O (.tup<|x.1.map V.int))/\DaPd K F a c
 |[],_,_,d,e=>by cases d;cases e;exact⟨[],Z,Z,Z,λx hx=>(by cases hx),.nil⟩
 |p::c,_,_,d,e=>by
  cases d with
  |@cons v _ _ _ d l =>
   cases e with
   |@cons u _ _ _ e m =>
    obtain⟨a,q,t,w,y,B⟩:=Yy l m;obtain⟨b,rfl,k⟩:=Vy d;refine⟨(p.1,b,u)::a,by simp[q],by simp[t],by simp[w],λx hx=>?_,.cons k e B⟩;rcases T0.mp hx with z|z
    .subst z;exact k
    .exact y x z
theorem mS{K:Fg}:ZX K (y_ K) (o2 z_):=by
 intro G F σ H ρ vs a Q Qd R m w k;rcases a with _|⟨d,_|⟨e,_|⟨e3,a⟩⟩⟩<;>first|exact w.elim|skip
 .obtain⟨v1,v2,rfl,q,t⟩:=m.two;obtain⟨v,y,B,C,w⟩:=w;obtain⟨I,l1,vg,rfl,b,L⟩:=q.seq R.sub y;obtain⟨M,l2,xg,rfl,c,P⟩:=t.seq R.sub B;obtain⟨i,Y,g2,g3,g4,g5⟩:=Yy L P;rw[g2]at b;rw[g3]at c;refine⟨I,l1,M,l2,i,Z,b,c,λx hx=>R.sub _ _<|g4 x hx,by rw[Y];exact C,λl ep hl=>?_⟩;obtain⟨j,R'⟩:=R.newE (o:=JZ hL l ep i) hl;exact k _ _ _ (.fz<|wG v) j R' (Da.pd OX<|g5.mono j) w
noncomputable def zj:D->(Sl->Prop)->Prop
 | .list b,Q=>∃a:List ((Ql×Ql)×D),(b=a.map λp=>.tuple [b2 p.1,p.2])/\(a.map (·.1)).Nodup/\Q (.fz<|tK a)
 |_,_=>Al
theorem Zy{K:Fg}{F:Hp}:∀{d:List ((Ql×Ql)×D)}{ys:List V},DaAll K F ys (d.map λp=>.tuple [b2 p.1,p.2]) -> ∃a:List ((Ql×Ql)×Eb×V),a.map (·.1)=d.map (·.1)/\ys.length=a.length/\(∀(i:Nat) x,a[i]?=O x->∃q,ys[i]?=O (.ref q)/\F q=O (.tup [.ref x.2.1,x.2.2]))/\DaBd K F a d
 |[],_,h=>by cases h;exact⟨[],Z,Z,λi x e=>by simp at e,.nil⟩
 |p::d,_,h=>by
  cases h with
  |@cons v _ _ _ h t =>
   obtain⟨a,j,k,l,m⟩:=Zy t;cases h with
   |@tup q us _ eq tt =>
    cases tt with
    |@cons y _ _ _ hy tt =>
     cases tt with
     |@cons u _ _ _ w tt =>
      cases tt;obtain⟨b,c,e,rfl,B,C,G⟩:=Wy hy;refine⟨(p.1,b,u)::a,by simp[j],by simp[k],λi x ex=>?_,.cons B C G w m⟩;cases i with
      |zero=>cases ex;exact⟨q,Z,eq⟩
      |succ i=>exact l i x ex
theorem xk{K:Fg}:ZX K (vj K) (o1 zj):=BG λG F σ H ρ x d Q Qd R y w k=>by
 cases d<;>first|exact w.elim|skip
 rename_i ds;obtain⟨B,e,C,w⟩:=w;subst e;obtain⟨a,us,rfl,I,L⟩:=y.list R.sub;obtain⟨m,M,g2,P,t⟩:=Zy L;refine⟨a,us,m,Z,SqL.of I,g2,λi x ex=>?_,λx hx=>?_,by rw[M];exact C,λl Y hl=>?_⟩
 .obtain⟨q,b,j⟩:=P i x ex;exact⟨q,b,R.sub _ _ j⟩
 .obtain⟨c,e,b,j,z3⟩:=t.keys x hx;exact⟨c,e,R.sub _ _ b,R.sub _ _ j,R.sub _ _ z3⟩
 .obtain⟨v,R'⟩:=R.newE (o:=JZ hB l Y m) hl;exact k _ _ _ (.fz<|tK B) v R' (Da.bd OX<|t.mono v) w
def mL:D->D->(Sl->Prop)->Prop:=λd e Q=>∃(a:List ((Ql×Ql)×D)) (k:Ql×Ql) (r:D),d=tK a/\e=b2 k/\(k,r)∈a/\Q (.fz r)
theorem FW:∀{b c:List ((Ql×Ql)×D)},(b.map λp=>J1 [b2 p.1,p.2])=(c.map λp=>J1 [b2 p.1,p.2])->b=c
 |[],[],_=>rfl
 |[],_::_,h=>by cases h
 |_::_,[],h=>by cases h
 |p::b,q::c,h=>by simp only[E1,List.cons.injEq]at h;obtain⟨a,d⟩:=h;injection a with a;injection a with a h3;injection h3 with h3 _;rw[Prod.ext (dO a) h3,FW d]
theorem At.b2{K:Fg}{F:Hp}{v:V}{k:Ql×Ql}(s:Sub F H)(h:At K F H v (b2 k)):BK H v k:=by obtain⟨a,us,rfl,d,m,i⟩:=h.tuple s;obtain⟨b,c,e,z,j,g2,l⟩:=Wy<|Da.tup d i;cases z;exact⟨_,c,e,Z,s _ _ j,s _ _ g2,s _ _ l⟩
theorem FE{K:Fg}:ZX K (VY lL) (o2 mL):=uF λG F σ H ρ x y d e Q Qd R B I w k=>by
 obtain⟨M,kk,r,rfl,rfl,P,w⟩:=w;have Y:∃a l j i,x=.ref a/\H a=O (JZ hB l j i)/\DaBd K F i M:=by
  rcases B.mark (λL z=>by cases z) with B|⟨a,l,j,i,C,rfl,t,q,z⟩
  .rcases yj B with⟨a,_,z,_⟩|⟨a,_,j,i,C,_,_,_,z⟩|⟨a,l,j,i,C,rfl,t,q,z⟩
   .cases z
   .cases z
   .injection z with z;have:=FW z;subst this;exact⟨a,l,j,i,Z,R.sub _ _ t,q⟩
  .injection z with z;injection z with z _;injection z with _ z;injection z with z;have:=FW z;subst this;exact⟨a,l,j,i,Z,t,q⟩
 obtain⟨a,l,j,i,rfl,t,q⟩:=Y;obtain⟨b,v,m,dv⟩:=q.find P;refine⟨a,l,j,i,kk,b,v,Z,t,λx hx=>?_,I.b2 R.sub,m,k _ H F (.fz _) (Sub.refl _) R dv w⟩;obtain⟨c,e,z1,z2,z3⟩:=q.keys x hx;exact⟨c,e,R.sub _ _ z1,R.sub _ _ z2,R.sub _ _ z3⟩
section
variable {K:Fg}{e e1 e2:Vb}{a b:AD}{p pos p2 ve ae lc:Pos}
theorem O'(d:X.K=K)(i:X.calm=Ul)(j:X.A.units+2<Oc)(k:X.mg "dict"=U)(l:Gc "dict"=O (.type "dict"))(m:X.mg "zip"=U)(t:WA X [e1,e2] (MX<|[a,b].map (uX K)))(v:Gl X "dict":=by rfl)(w:Gl X "zip":=by rfl)(x:NX e1=true:=by rfl)(c:NX e2=true:=by rfl) :
  WE X (.Call (.Name "dict" p) [.Call (.Name "zip" p2) [e1,e2] [] md] [] pos) (lift K<|TK [a,b]<|o2 z_):=by
 subst d;exact⟨OW (iS i j v k l w m t.h (DX x) (DZ<|by simp[c]) (DX Z)<|DZ Z) λq=>bV mS q⟩
theorem tD(c:X.K=K)(d:X.calm=Ul)(i:X.A.units+6<Oc)(j:X.mg "dict"=U)(k:Gc "dict"=O (.type "dict"))(l:WA X [e] (MX<|[a].map (uX K)))(m:Gl X "dict":=by rfl)(q:NX e=true:=by rfl) :
  WE X (.Call (.Name "dict" p) [e] [] pos) (lift K<|TK [a]<|o1 zj):=by
 subst c;exact yJ xk (sD d i) j k l m (by decide) (by decide) q Z
theorem nV(c:X.A.units+6<Oc)(d:WE X e1 (uX K a))(i:WE X e2 (uX K b))(j:Rw e2:=by exact λ_ _=>rfl):WE X (.Subscript e1 e2 pos) (lift K<|TK [a,b]<|o2 mL):=⟨YO FE<|EE c d.h i.h j⟩
end
end L3
namespace L2
end L2
namespace L3
open L2
theorem DaPd.at{K:Fg}{F:Hp}:∀{xs:List (Ql×Eb×V)}{a:List (Ql×D)},DaPd K F xs a->∀z∈xs,F z.2.1=O (.tup<|z.1.map V.int)
 |_,_,.nil,z,h=>by cases h
 |_,_,.cons e _ t,z,h=>by
  rcases T0.mp h with q|q
  .subst q;exact e
  .exact DaPd.at t z q
section
variable {K:Fg}{e e1 e2:Vb}{a:AD}{td:TD}{pos:Pos}
end
end L3
namespace L2
end L2
namespace L3
open L2
theorem nS{K:Fg}{L:List D}(s:Sub F H)(m:At K F H v (.dict [(.bool Um,.list L)])):∃(b x:Eb) (i:Nat) (ys:List (Ql×Eb×V)) (e:List (Ql×D)),v=.ref b/\H b=O (JZ hL x i ys)/\DaPd K F ys e/\L=e.map λp=>.tuple [tI p.1,p.2]:=by
 rcases m with m|⟨b,o,rfl,w,g2,l⟩
 .rcases yj m with⟨_,_,z,_⟩|⟨c,q,i,ys,e,rfl,y,w,z⟩|⟨_,_,_,_,_,_,_,_,z⟩
  .cases z
  .injection z with z;exact⟨c,q,i,ys,e,Z,s _ _ y,w,z⟩
  .cases z
 .cases o with
  |ext B =>
   rcases l.ext with⟨q,i,ys,e,z,a,t⟩|⟨_,_,_,_,_,a,_⟩
   case inr=>injection a with a;injection a with a _;injection a with _ a;cases a
   rw[z]at g2;refine⟨b,q,i,ys,e,Z,g2,t,?_⟩;injection a with a;injection a with a _;injection a with _ a;injection a
  |dK d =>
   exfalso;have h:DaKV K F d [(Y3 Um,X3 L)]:=l;generalize j:[(Y3 Um,X3 L)]=es at h;cases h with
   |nil=>cases j
   |@cons k _ _ _ _ _ _=>cases k<;>cases j
  |dT d =>
   exfalso;have h:DaKT K F d [(Y3 Um,X3 L)]:=l;generalize j:[(Y3 Um,X3 L)]=es at h;cases h with
   |nil=>cases j
   |cons _ _=>cases j
  |_=>exact l.elim
noncomputable abbrev rwD(jb:List (Ql×Int)):D:=wG<|jb.map λq=>(q.1,n0 q.2)
theorem eO(a:wG ps=wG b):ps=b:=by
 have c:ps.map (λp=>J1 [J1<|p.1.map n0,p.2])=b.map (λp=>J1 [J1<|p.1.map n0,p.2]):=by injection a with a;injection a with a _;injection a with _ a;injection a
 exact(g8<|λx y q=>by injection q with q;injection q with q1 q2;injection q2 with q2 _;injection q1 with q1;exact Prod.ext ((g8<|λx y z=>by injection z).mp q1) q2).mp c
section
variable {K:Fg}{p p1 p2 p3 p4 pos:Pos}{f a x y:Str}
end
end L3
namespace L2
noncomputable abbrev Bk:=Ql×Ql
def KB(H:Hp)(b:Eb)(k:Bk):Prop:=∃c e:Eb,H b=O (.tup [.ref c,.ref e])/\H c=O (.tup<|k.1.map V.int)/\H e=O (.tup<|k.2.map V.int)
noncomputable def QY{α:Type}(a:List (Bk×Eb×α))(k:Bk)(b:Eb)(v:α):List (Bk×Eb×α):=if k∈a.map (·.1) then a.map (λx=>if x.1=k then (x.1,x.2.1,v) else x) else a++[(k,b,v)]
theorem uD:storedH vs k b u=QY vs k b u:=by
 unfold storedH QY;have e:(atKey vs k).isSome=Ul↔k∈vs.map (·.1):=by
  unfold atKey;rw[Option.isSome_map,List.find?_isSome];constructor
  .rintro⟨x,hx,e⟩;exact J0.mpr ⟨x,hx,Ob e⟩
  .intro h;obtain⟨x,hx,e⟩:=J0.mp h;exact⟨x,hx,Sb e⟩
 by_cases z:k∈vs.map (·.1)
 .rw[Ib<|e.mpr z,Ib z];rfl
 .rw[if_neg<|λy=>z<|e.mp y,if_neg z]
theorem au(a:List (Bk×Eb×α))(k:Bk)(b:Eb)(v:α):(QY a k b v).length<=a.length+1:=by
 unfold QY;split
 .rw[j0];omega
 .rw[N0];simp
theorem Oq{d:List (Bk×Eb×α)}{v:α}(h:(d.map (·.1)).Nodup):((QY d k b v).map (·.1)).Nodup:=by
 unfold QY;split
 .rw[O0];have e:((λx:Bk×Eb×α=>x.1)∘λx=>if x.1=k then (x.1,x.2.1,v) else x)=λx=>x.1:=by
   funext x;show (if x.1=k then (x.1,x.2.1,v) else x).1=x.1;split<;>rfl
  rw[e];exact h
 .rename_i z;rw[Q3,N6];refine⟨h,by simp,λa i b c e=>?_⟩;have c:b=k:=by simpa using c
  rw[e,c]at i;exact z i
theorem bu(h:Paired (λx v=>x.1=v.1/\x.2.1=v.2.1/\RelV x.2.2 v.2.2) xs vs)(r:RelV v u):Paired (λx v=>x.1=v.1/\x.2.1=v.2.1/\RelV x.2.2 v.2.2) (QY xs k b v) (QY vs k b u):=by
 unfold QY;rw[CJ h];split
 .rename_i z;clear z;induction h with
  |nil=>exact .nil
  |@cons x y l m e t i =>
   refine .cons ?_ i;obtain⟨a,d,j⟩:=e;by_cases z:x.1=k
   .have c:y.1=k:=a.symm.trans z;dsimp only;rw[Ib z,Ib c];exact⟨a,d,r⟩
   .have c:¬y.1=k:=λq=>z<|a.trans q;dsimp only;rw[if_neg z,if_neg c];exact⟨a,d,j⟩
 .exact MU h ⟨Z,Z,r⟩
theorem Pq{a:List (Bk×Eb×V)}{Q:Unit->Gb->Prop}(hu:X.A.units+6<Oc)(I:Inv X gb σ H s)(e:H d=O (JZ hB d' P a)) (l:∀x∈a,KB H x.2.1 x.1) (R:KB H b k) (Y:RelV v u) (hl:a.length<sizeLine)(q:∀ci s',Inv X gb σ (kZ H d<|JZ hB d ci<|QY a k b v) s'->Q () s'):Hb (Kb X.prog X.w) X.A (Bi (.ref d) (.ref b) u) Q E s:=by
 obtain⟨vs,o,es,j,e1,e2,e3,e4,hz,F,_,hm⟩:=ext_at I e;have i:∀{k:Bk}{b:Eb},KB H b k->(LU<|Yd X.prog X.w).is s.heap k b:=λ{k b} ⟨c,e,G,L,h3⟩=>SV I G L h3;have hvl:=QG j;refine wpAny_setItem_heap (hsz:=by omega) (knd:=LU<|Yd X.prog X.w) (show X.A.units+1+4<Oc by omega) (i R) ⟨o,es,P,e1,e2,e3,e4,λx hx=>?_,by rw[CJ j];exact F⟩ λh' pi sb=>?_
 .obtain⟨y,hy,r1,r2,_⟩:=EW j x hx;have:=i<|l y hy;rw[r1,r2]at this;exact this
 .obtain⟨o2,m,t,B,g2,g3,M,_,g5⟩:=pi;rw[uD]at M;have ub:=au a k b v;refine q t _<|Lz I (by rw[e];exact True.intro) sb ⟨o2,B⟩ ⟨⟨⟨QY vs k b u,bu j Y,o2,m,B,g2,g3,M⟩,Oq F,by omega,hm⟩,⟨o2,B⟩,λG L z k'=>?_⟩;obtain⟨⟨C,r',o',mi,f1,f2⟩,f3⟩:=z;exact⟨⟨C,r',o',mi,k' _ f1,f2⟩,f3⟩
def nL(e ty i:TE):TS:=λE σ H=>i σ H λv j=>e σ j λx l=>ty σ l λy a=>∃(d m b:Eb) (q:Nat) (c:List (Bk×Eb×V)) (k:Bk),x=.ref d/\y=.ref b/\a d=O (JZ hB m q c)/\(∀z∈c,KB a z.2.1 z.1) /\
 KB a b k/\c.length<sizeLine/\∀t,E.nx σ (kZ a d<|JZ hB d t<|QY c k b v)
theorem HE{o:Vb}(a:X.A.units+6<Oc)(c:PE X o td)(hi:PE X i ty)(e:PE X value tv)(j:Ff value (O<|.Subscript o i md) pos.line X.env=pure Um):PS X (.Assign [.Subscript o i md] value pos) (nL td ty tv):=by
 intro gb s σ H D I h;refine wpAny_Assign_Subscript (xZ (e gb s σ H _ I h) λr l ⟨v,m,q,t,w⟩=>xZ (c gb l σ m _ q w) λu B ⟨x,C,F,G,L⟩=>xZ (hi gb B σ C _ F L) λM s3 ⟨y,H3,P,R,d,d',b,ep,xs,k,ex,Y,e1,e2,e3,e4,q3⟩=>?_) j;subst ex Y;obtain rfl:u=K4 d:=G;obtain rfl:M=K4 b:=R;exact Pq a P e1 e2 e3 t e4 λci s4 I4=>⟨σ,_,I4,q3 ci⟩
def cu:TE:=λ_ H Q=>∀p,H p=U->Q (.ref p) (kZ H p<|JZ hB p 0 [])
theorem du:PE X (.Dict [] [] pos) cu:=λgb s σ H Q I h =>
 wpAny_Dict_empty ⟨.ref s.heap.objs.size,_,I.laid (a:=s.heap.objs.size) (o:=JZ hB s.heap.objs.size 0 []) (t':=s.toks) (λ_ _ q=>g0 _ q) (A0 _)
   ⟨⟨⟨[],.nil,_,#[],L0 _ Z,⟨Z,Z,Z⟩,Z,Z⟩,List.nodup_nil,V2 _,beq_eq_false_iff_ne.mpr<|U3<|U0 I.big⟩,⟨_,L0 _ Z⟩,λi j z k=>by obtain⟨⟨b,r,o,c,d,g2⟩,e⟩:=z;exact⟨⟨b,r,o,c,k _ d,g2⟩,e⟩⟩,Z,h _<|I.hok.fresh<|A0 _⟩
end L2
namespace L3
open L2
noncomputable def NU(a:List (Bk×D))(k:Bk)(d:D):List (Bk×D):=if k∈a.map (·.1) then a.map (λx=>if x.1=k then (x.1,d) else x) else a++[(k,d)]
theorem DaBd.names{K:Fg}{F:Hp}:∀{a:List (Bk×Eb×V)}{b:List (Bk×D)},DaBd K F a b->a.map (·.1)=b.map (·.1)
 |_,_,.nil=>rfl
 |_,_,.cons _ _ _ _ t=>by simp only[E1,DaBd.names t]
theorem DaBd.snoc{K:Fg}{F:Hp}{k:Bk}{b:Eb}{v:V}{d:D}(a:KB F b k)(c:Da K F v d):∀{e:List (Bk×Eb×V)}{i:List (Bk×D)},DaBd K F e i->DaBd K F (e++[(k,b,v)]) (i++[(k,d)])
 |_,_,.nil=>let ⟨_,_,h1,h2,h3⟩:=a;.cons h1 h2 h3 c .nil
 |_,_,.cons j l m h t=>.cons j l m h<|DaBd.snoc a c t
theorem DaBd.repl{K:Fg}{F:Hp}{k:Bk}{v:V}{d:D}(c:Da K F v d):∀{a:List (Bk×Eb×V)}{b:List (Bk×D)},DaBd K F a b->DaBd K F (a.map λx=>if x.1=k then (x.1,x.2.1,v) else x) (b.map λx=>if x.1=k then (x.1,d) else x)
 |_,_,.nil=>.nil
 |_,_,@DaBd.cons _ _ m q _ _ w y a b e i j h t=>by
  have l:=DaBd.repl (k:=k) c t;rw[E1,E1];by_cases z:m=k
  .dsimp only;rw[Ib z,Ib z];exact .cons e i j c l
  .dsimp only;rw[if_neg z,if_neg z];exact .cons e i j h l
theorem DaBd.put{K:Fg}{a:List (Bk×Eb×V)}{c:List (Bk×D)}(h:DaBd K F a c)(i:KB F b k)(e:Da K F v d):DaBd K F (QY a k b v) (NU c k d):=by
 unfold QY NU;rw[h.names];split
 .exact h.repl e
 .exact h.snoc i e
theorem fO{K:Fg}{o:HO}{i:List (Bk×D)}(h:Own1 K F o (tK i)):∃d e ys,o=JZ hB d e ys/\DaBd K F ys i:=by
 cases o with
 |ext j =>
  rcases h.ext with⟨_,_,_,_,_,a,_⟩|⟨d,e,ys,l,z,a,t⟩
  .injection a with a;injection a with a _;injection a with _ a;cases a
  .injection a with a;injection a with a _;injection a with _ a;injection a with a;have:=FW a;subst this;exact⟨d,e,ys,z,t⟩
 |dK b =>
  exfalso;have h:DaKV K F b [(Y3 Um,_)]:=h;generalize c:[(Y3 Um,_)]=es at h;cases h with
  |nil=>cases c
  |@cons k _ _ _ _ _ _=>cases k<;>cases c
 |dT b =>
  exfalso;have h:DaKT K F b [(Y3 Um,_)]:=h;generalize c:[(Y3 Um,_)]=es at h;cases h with
  |nil=>cases c
  |cons _ _=>cases c
 |_=>exact h.elim
noncomputable def pL(j:Nat)(i:AD)(l:TD):gY:=λE ρ=>l ρ λr b=>match b[j]? with
 |some (O _)=>WZ [i] b λe a=>match yZ a e with
  |true=>Al
  |false=>rZ a e λm=>match a[j]? with
   |some (O s)=>∃(k:Bk) (c:List (Bk×D)),m=[b2 k]/\s.d=tK c/\uZ s=Ul/\c.length<sizeLine/\E.nx (a.set j<|O<|s.put<|tK<|NU c k r.d)
   |_=>Al
 |_=>Al
theorem iO{K:Fg}{E:Ends}(h:EX K (pL j ak te) E σ H):nL (XY j) (uX K ak) (lift K te) E σ H:=by
 obtain⟨G,F,ρ,D,R,w,n,r,b,c⟩:=h;refine⟨G,F,ρ,_,R,w,λv H1 F1 x ρ1 s1 R1 r1 I=>?_⟩;obtain⟨F2,s2,R2,d2⟩:=r1.frz R1;split at I
 .rename_i s0 e0;obtain⟨u,L⟩:=R2.bound e0;refine⟨u,L,MF (P:=λy l=>∃(d d' b:Eb) (M:Nat) (C:List (Bk×Eb×V)) (k:Bk),u=.ref d/\y=.ref b/\l d=O (JZ hB d' M C)/\(∀z∈C,KB l z.2.1 z.1) /\
    KB l b k/\C.length<sizeLine/\∀Y,E.nx σ<|kZ l d<|JZ hB d Y<|QY C k b v)<|LZ R2 I λvs l F3 C ρ3 s3 B o3 i=>?_⟩;split at i
  .exact i.elim
  rename_i m;obtain⟨ds,ha,i⟩:=GZ B m o3 i;split at i
  .rename_i s e;obtain⟨k,ps,rfl,p1,p2,p3,i⟩:=i;cases ha with
   |cons hk ht=>cases ht;obtain⟨kb,kc,ke,rfl,qm,ef,hb3⟩:=Wy hk;have hb:KB F3 kb k:=⟨kc,ke,qm,ef,hb3⟩;obtain⟨a,o,g1,g2,g3,g4⟩:=B.ow j s e p2;rw[L]at g1;cases g1;rw[p1]at g4;obtain⟨a',M,ys,rfl,t⟩:=fO g4;have up:∀{b:Eb}{k:Bk},KB F3 b k->KB l b k:=λ{b k} ⟨c,e,h1,h2,h3⟩=>⟨c,e,B.sub _ _ h1,B.sub _ _ h2,B.sub _ _ h3⟩;refine⟨_,Z,a,a',kb,M,ys,k,Z,Z,g3,λq hq=>up<|t.keys q hq,up hb,by have:=Rb U4 t.names;rw[j0,j0]at this;omega,λY=>?_⟩;have R4:=B.change (o':=JZ hB a Y<|QY ys k kb v) (d':=tK<|NU ps k x.d) e p2 L<|Own1.bd<|t.put hb<|d2.mono s3;exact n σ _ F3 _ (s1.trans<|s2.trans s3) R4 i
  .exact i.elim
 .exact I.elim
def qL:TD:=λρ Q=>Q (.ow<|tK []) ρ
theorem jO{K:Fg}{Q:VK}(h:lift K qL σ H Q):cu σ H Q:=by obtain⟨G,F,ρ,e,R,w,k⟩:=h;intro p a;obtain⟨b,c⟩:=R.newOw (o:=JZ hB p 0 []) (d:=tK []) a<|Own1.bd .nil;exact k _ _ F _ ρ (Sub.refl _) b c w
section
variable {K:Fg}{e e1 e2:Vb}{a:AD}{td:TD}{pos:Pos}
theorem Qq{j:Nat}(b:X.A.units+6<Oc)(c:WE X e1 (uX K<|.inl j))(hi:WE X e2 (uX K a))(d:WE X e (lift K td))(i:HY e=true:=by rfl):WS X (.Assign [.Subscript e1 e2 md] e pos) (EX K<|pL j a td):=⟨Wx (HE b c.h hi.h d.h<|vW i) iO⟩
theorem IE:WE X (.Dict [] [] pos) (lift K qL):=⟨OW du jO⟩
end
end L3
namespace L2
def fu:V->V->Hp->VK->Prop:=λx y H Q=>∃(p:Eb) (a:List V) (k:Int) (v:V),x=.ref p/\y=.int k/\0<=k/\H p=O (.lst a)/\a[k.toNat]?=O v/\Q v H
theorem JE:kP X fu:=by intro gb s σ H o i x y Q I b c h;obtain⟨p,d,k,v,rfl,rfl,h0,e,a,q⟩:=h;cases b;obtain⟨t,rfl⟩:=c;obtain⟨its,r,j,B⟩:=I.list<|SqL.of e;obtain⟨w,l,m⟩:=r.get a;have hl:=r.length;have C:=YV;have F:k.toNat<d.length:=(L1.mp a).1;exact wpAny_getItem_list j.isList h0 (by omega) (by simpa using l) ⟨v,H,I,m,q⟩
end L2
namespace L3
open L2
noncomputable def Rq(j:Nat)(e:AD)(n:Int):gY:=λE ρ=>match ρ[j]? with
 |some (O _)=>WZ [e] ρ λi b=>rZ b i λl=>match l,b[j]? with
  |[.int k],O (O s)=>match s.d,uZ s with
   | .list c,Ul=>∃a:Int,0<=k/\c[k.toNat]?=O (.int a)/\E.nx (b.set j<|O<|s.put<|.list<|c.set k.toNat<|.int<|a+n)
   |_,_=>Al
  |_,_=>Al
 |_=>Al
theorem ME{K:Fg}{E:Ends}(h:EX K (Rq j ai m) E σ H):BI (XY j) (uX K ai) (tC<|.int m) fu (jA λi j=>i+j) KH E σ H:=by
 obtain⟨G,F,ρ,D,R,w,n,r,b,c⟩:=h;unfold Rq at w;split at w
 .rename_i s0 e0;obtain⟨u,q⟩:=R.bound e0;refine⟨u,q,MF (P:=λi H2=>fu u i H2 λx y=>jA (λi j=>i+j) x (.int m) y λz H5=>KH u i z H5 λH6=>E.nx σ H6)<|LZ R w λvs y B xs ρ3 s3 t o3 d=>?_⟩;obtain⟨ds,ha,d⟩:=AJ t o3 d;split at d
  .rename_i k s e;obtain⟨iv,rfl,hi⟩:=ha.one;cases hi.int;split at d
   .rename_i C p1 I;obtain⟨x,h0,w4,w5⟩:=d;obtain⟨a,o,L,g2,M,l⟩:=t.ow j s e I;rw[q]at L;cases L;rw[p1]at l;have hl:∃us,o=.lst us/\DaAll K B us C:=by cases o<;>first|exact l.elim|exact⟨_,rfl,l⟩
    obtain⟨us,rfl,l⟩:=hl;obtain⟨v,Y,dv⟩:=l.get w4;cases Dy dv;have hk:k.toNat<us.length:=(L1.mp Y).1;refine⟨_,Z,a,us,k,_,Z,Z,h0,M,Y,x,m,Z,Z,a,us,k,k.toNat,Z,Z,M,?_,?_⟩
    .unfold Jw;rw[Ib h0,Ib<|by omega]
    have R4:=t.change (o':=.lst<|us.set k.toNat<|.int<|x+m) (d':=.list<|C.set k.toNat<|.int<|x+m) e I q<|l.set (.int _) k.toNat;exact n σ _ B _ s3 R4 w5
   .exact d.elim
  .exact d.elim
 .exact w.elim
theorem OE{K:Fg}{e d:Vb}{a:AD}{j:Nat}{m:Int}{kd}{pos p:Pos}(i:WE X e (uX K<|.inl j))(hi:WE X d (uX K a))
  (k:∀b c new,augStore d b c new=(do Ud [new,b,c] (Bi b c new);release [new,b,c] [];pure .next):=by intros;rfl):WS X (.AugAssign (.Subscript e d md) .Add (.Constant (.int m) kd p) pos) (EX K<|Rq j a m) :=
 ⟨Wx (RB i.h hi.h JE gJ dM DF k) ME⟩
theorem gu(I:Inv X gb σ H s){a:Eb}(h:Rd H a (.dK [])\/Rd H a (.dT [])):∃as,Oi s.heap (.ref a) (.dict []) as/\Ac∉as:=by
 have get:∀{u:HO},Rd H a u->ObjOk X.prog X.w H s.heap a u:=λ{u} h=>h.ok I.hok;obtain⟨d,o,b,e,i,j,k,c⟩:(a==Ac)=Um/\∃o b e,s.heap.get? a=O o/\o.ExactDict/\o.data=.dict b e/\b.toList=[]:=by
  rcases h with h|h
  .obtain⟨_,d,q,l,o,b,e,i,j,k,_,c,_⟩:=get h;cases l;exact⟨d,o,b,e,i,j,k,by cases h:b.toList with|nil=>rfl|cons _ _=>rw[h]at c;cases c⟩
  .obtain⟨_,d,t,m,o,b,e,i,j,k,c,_⟩:=get h;cases m;exact⟨d,o,b,e,i,j,k,by simpa using c⟩
 refine⟨a::[]++[],.dict (kvs:=[]) i j.1 k (by rw[c];exact .nil) (by rw[c];exact .nil),λz=>?_⟩;have z:Ac=a:=by simpa using z
 rw[z]at d;simp at d
section
variable {σ:L2.St}{F:Hp}
theorem OU:∀{k:Ql}{us:Up},Vals (k.map V.int) us->We h us (k.map n0) []
 |[],_,.nil=>.nil
 |i::k,_,.cons r t=>by obtain⟨t',rfl⟩:=r;have:=ReadsAll.cons (Reads.int (h:=h) i t')<|OU t;exact this
theorem yk(I:Inv X gb σ H s){b:Eb}{k:Ql}(h:H b=O (.tup<|k.map V.int)):Oi s.heap (.ref b) (tI k) []:=by obtain⟨its,a,⟨o,e,c,n,q⟩,_⟩:=I.tuple<|SqT.of h;exact .tuple e c q (by simpa using OU a)
end
end L3
namespace L2
abbrev aK(h:Dc)(e it:Eb)(i:Int)(T:Eb)(fl:Bool)(x:Bb):Prop:=h.get? e=O {cls:=.type "enumerate",dict:=U,data:=.fields #[Le T,.bool fl,.ref it,Le i,.none,x],slots:=#[]}
theorem RG:Te (.type "enumerate") "keys"=pure none:=by rw[He,Fd];kernel_rfl
theorem GV:Te (.type "enumerate") "__getattr__"=pure none:=by rw[He,Fd];kernel_rfl
theorem mK:entryFor table "enumerate.__getattribute__"=O Builtin.«object.__getattribute__»:=entryFor_alias (id':="object.__getattribute__") (by kernel_rfl) (by decide +kernel) (by decide +kernel) (by kernel_rfl)
theorem PU(a:Eb)(fs:Zi Bb)(e:Zi (Yi Bb))(u:Tok):Qi (Builtin.«object.__getattribute__» ⟨[.ref a,.str "keys" u],[]⟩) (λA R s=>s.heap.get? a=O {cls:=.type "enumerate",dict:=U,data:=.fields fs,slots:=e}/\raisesAttr (.ref a) "keys" A R s):=.of_wp λprog w A R s b=>by
 obtain⟨i,g,d,j,os⟩:=s;obtain⟨hx,b⟩:=b;have l:(⟨i,g,d,j,os⟩:Gb).TypeIs (.ref a) "enumerate":=⟨_,hx,Z⟩;have c:=RG;have k:(["__module__","__name__","__qualname__","__doc__","__annotations__"]:Us).contains "keys"=false:=by decide +kernel
 unfold Builtin.«object.__getattribute__»;repeat (any_goals (first|assumption|wp_step))
 all_goals (try simp only[k,U2,if_false])
 repeat (any_goals (first|assumption|wp_step))
 exact Hh b.1 b.2 (attrMsg_fits (by decide +kernel)<|by size_fits)
section
variable {w:Wb}
theorem QU{Q:Yi Bb->Gb->Prop}(hx:s.heap.get? a=O {cls:=.type "enumerate",dict:=U,data:=.fields fs,slots:=l})(m:A.handled=U)(h:∀h' c,(∀b o,s.heap.get? b=O o->h'.get? b=O o)->Q U {s with heap:=h',toks:=c}):Hb (Kb prog w) A (Wg (.ref a) "keys") Q E s:=by
 obtain⟨q,g,d,c,os⟩:=s;have i:∀j,(⟨q,g,d,j,os⟩:Gb).TypeIs (.ref a) "enumerate":=λ_=>⟨_,hx,Z⟩;have t:=Nf;have v:=F.slot_enumerate_getattribute.lookup;have x:=F.slot_enumerate_getattribute.bind<|.ref a;have y:=GV;unfold Wg getAttrBy? getAttrBy;repeat (any_goals (first|assumption|exact i _|((with_reducible show Hb _ _ (call (W9 "enumerate.__getattribute__") _ _) _ _ _);refine Zc F.slot_enumerate_getattribute (i _) mK (F.args_enumerate_getattribute_2 _ _) (PU a fs l _) ⟨hx,m,λh' j e k=>?_⟩)|wp_step))
 obtain⟨t',B,C⟩:=k.there;show Hb _ _ (Ed _ _ _ _ _ _ _) _ _ _;unfold Ed;repeat (any_goals (first|assumption|wp_step))
 exact h _ _ k.keeps
theorem iu{Q:Bool->Gb->Prop}(d:aK s.heap e it i T fl x)(j:s.heap.get? T=O ot)(h:∀a,aK a e it i T Ul x->E3 e s.heap a->Q Um {s with heap:=a}):Hb (Kb prog w) A (G2<|.ref e) Q E s:=by
 unfold G2;refine Ab<|Yb d Z (x:=Le T) Z ?_;show Hb _ _ (Ji T >>= _) _ _ _;refine Ab<|OI j ?_;rw[if_neg<|show ¬((O ot).isNone=Ul) from X0];refine Ab<|Yb d Z (x:=.bool fl) Z ?_;cases fl with
 |true=>rw[if_neg<|by decide];exact Db<|h s.heap d ⟨Z,λ_ _=>rfl⟩
 |false=>rw[Ib<|by decide];exact Ab<|Lc d (by simp) λa b c=>Db<|h a b c
theorem Tq(si:e≠it)(hTe:T≠e)(hTi:T≠it)(he:aK s.heap e it (i:Nat) T fl x0) (hT:s.heap.get? T=O ot) (h1:ItAt k s.heap it l i) (hl:SqAt k s.heap l xs) (hx:xs[i]?=O x)(hQ:∀h' I,aK h' e it ((i+1:Nat):Int) T Ul x0->ItAt k h' it l (i+1)->BZ h' s.heap.objs.size (.int (i:Nat) I) x->h'.objs.size=s.heap.objs.size+1 ->(∀c o,c≠e->c≠it->s.heap.get? c=O o->h'.get? c=O o)->Q (.ref s.heap.objs.size) {s with heap:=h',toks:=I+1}):Hb (Kb prog w) A (Builtin.«enumerate.__next__» ⟨[.ref e],[]⟩) (λfin s'=>∃v,fin=.done (.ret v)/\Q v s') E s:=by
 obtain⟨M,g,d,I,os⟩:=s;show Hb _ _ (Of (.ref e) 2 >>= _) _ _ _;refine Ab<|Yb he Z (x:=.ref it) Z ?_;show Hb _ _ (T2 (.ref it) >>= _) _ _ _;refine Ab<|cJ h1 hl hx λb L j=>?_
 replace j:E3 it M b:=j
 have B:aK b e it (i:Nat) T fl x0:=(j.2 e si).trans he;show Hb _ _ (Of (.ref e) 3 >>= _) _ _ ⟨b,g,d,I,os⟩;refine Ab<|Yb B Z (x:=Le (i:Nat)) Z ?_;show Hb _ _ (Of (.ref e) 4 >>= _) _ _ ⟨b,g,d,I,os⟩;refine Ab<|Yb B Z (x:=.none) Z ?_;show Hb _ _ (mkInt (i:Nat) >>= _) _ _ ⟨b,g,d,I,os⟩;refine Ab<|wpAny_mkInt ?_;show Hb _ _ (setField (.ref e) 3 (Le<|(i:Int)+1) >>= _) _ _ ⟨b,g,d,I+1,os⟩;refine Ab<|Lc B (by simp) λG C m=>?_
 replace m:E3 e b G:=m
 replace C:aK G e it ((i:Int)+1) T fl x0:=C
 show Hb _ _ (setField (.ref e) 4 .none >>= _) _ _ ⟨G,g,d,I+1,os⟩;refine Ab<|Lc C (by simp) λa F t=>?_
 replace t:E3 e G a:=t
 replace F:aK a e it ((i:Int)+1) T fl x0:=F
 show Hb _ _ (newTuple [.int (i:Nat) I,x] >>= _) _ _ ⟨a,g,d,I+1,os⟩;refine Ab<|Me (hsz:=by show 2<=sizeLine;decide) ?_;have hsz:a.objs.size=M.objs.size:=by rw[t.1,m.1,j.1]
 have Y:∀c o,c≠e->c≠it->M.get? c=O o->a.get? c=O o:=λc o c1 c2 q=>t.extBut c o c1<|m.extBut c o c1<|j.extBut c o c2 q;have hT':M.get? T=O ot:=hT;have P:ItAt k a it l (i+1):=(L.at λo q=>m.extBut _ o (U3 si) q).at λo q=>t.extBut _ o (U3 si) q;show Hb _ _ (G2 (.ref e) >>= _) _ _ _;refine Ab<|iu (T:=T) (fl:=fl) (x:=x0) (it:=it) (i:=(i:Int)+1) (g0 _ F) (g0 _<|Y T ot hTe hTi hT') λh₅ R y=>?_;simp only[U2,if_false];refine Db ⟨_,Z,?_⟩;show Q (.ref a.objs.size) _;rw[hsz];have xn:e<M.objs.size:=G0 he;have ne5:(M.objs.size:Nat)≠e:=X2 xn;refine hQ h₅ I (by simpa using R) ((P.at λo q=>g0 _ q).at λo q=>y.extBut _ o (U3 si) q) ?_ ?_ λc o c1 c2 q=>y.extBut _ o c1<|g0 _<|Y c o c1 c2 q
 .refine y.extBut _ _ ne5 ?_;show (a.push _).get? M.objs.size=_;rw[<-hsz];exact L0 _ Z
 .rw[y.1];show (a.push _).objs.size=_;rw[u3,hsz]
def ESt(h:Dc)(e it S l:Eb)(k:Kd)(i:Nat):Prop:=ItAt k h it l i/\((∃a,IsEnum h e it (i:Nat) a)\/∃T fl x ot,aK h e it (i:Nat) T fl x/\h.get? T=O ot/\T≠e/\T≠it/\T≠S)
theorem Uq{Q:Yi Bb->Gb->Prop}(hA:A.in1.handled=U)(j:e≠it)(ah:l≠e)(m:l≠it)(hS:S<s.heap.objs.size)(st:ESt s.heap e it S l k i) (hl:SqAt k s.heap l xs) (hx:xs[i]?=O x)(M:∀h' a,ESt h' e it S l k (i+1)->BZ h' s.heap.objs.size (.int (i:Nat) a) x->h'.objs.size=s.heap.objs.size+1 ->(∀c o,c≠e->c≠it->s.heap.get? c=O o->h'.get? c=O o)->Q (O<|.ref s.heap.objs.size) {s with heap:=h',toks:=a+1}):Hb (Kb prog w) A (Md<|.ref e) Q E s:=by
 obtain⟨q,hz⟩:=st;obtain⟨o1,g1,_⟩:=q.obj;have t:it<s.heap.objs.size:=G0 g1;rcases hz with⟨wg,b⟩|⟨T,fl,y,ot,b,P,B,C,t3⟩
 .have xn:e<s.heap.objs.size:=G0 b;refine Jg (lD (A:=A.in1) hA m (k:=k) (xs:=xs)) b ⟨q,hl⟩ ((Array.getElem?_eq_some_iff.mp hx).1) j (by simp[j,U3 ah]) λG h' a d I b2 R b4 L=>?_;have ex:G=x:=by
   have d:xs[i]?=O G:=d;rw[hx]at d;exact(Z1 d).symm
  subst ex;exact M h' a ⟨b2.1,.inr ⟨s.heap.objs.size,Um,G,_,I,R,X2 xn,X2 t,X2 hS⟩⟩ R b4 L
 .have Y:s.TypeIs (.ref e) "enumerate":=⟨_,b,Z⟩;unfold Md;exact Ab<|Od<|Zb (name:=Str.ofString "__next__") Y F.slot_enumerate_next
    (wpAny_call_entry F.slot_enumerate_next Y F.entry_enumerate_next (wpAny_mono (Tq (Q:=λv s'=>Q (O v) s') j B C b P q hl hx λh' a I c1 L b6 b7=>M h' a ⟨c1,.inr ⟨T,Ul,y,ot,I,b7 T _ B C P,B,C,t3⟩⟩ L b6 b7) (λfin s' z=>by obtain⟨v,rfl,z⟩:=z;exact⟨_,Z,Db z⟩) λ_ _ z=>z)<|F.args_enumerate_next_1 _)
theorem zH{Q:Yi Bb->Gb->Prop}(j:A.in1.handled=U)(st:ESt s.heap e it S l k i) (hl:SqAt k s.heap l xs) (m:xs[i]?=U)(t:∀h',(∀c o,c≠e->c≠it->s.heap.get? c=O o->h'.get? c=O o)->Q U {s with heap:=h'}):Hb (Kb prog w) A (Md<|.ref e) Q E s:=by
 obtain⟨v,B⟩:=st;have C:∃fs:Zi Bb,s.heap.get? e=O {cls:=.type "enumerate",dict:=U,data:=.fields fs,slots:=#[]}/\fs[2]?=O (.ref it):=by
  rcases B with⟨R,a⟩|⟨T,fl,y,ot,a,_⟩
  .exact⟨_,a,Z⟩
  .exact⟨_,a,Z⟩
 obtain⟨fs,a,G⟩:=C;have d:s.TypeIs (.ref e) "enumerate":=⟨_,a,Z⟩;unfold Md;refine Ab<|Od<|Zb (name:=Str.ofString "__next__") d F.slot_enumerate_next<|wpAny_call_entry F.slot_enumerate_next d F.entry_enumerate_next ?_<|F.args_enumerate_next_1 _;show Hb _ _ (Of (.ref e) 2 >>= _) _ _ _;refine Ab<|Yb a Z (x:=.ref it) G ?_;refine Ab<|rJ j v hl m λh' x kp I=>?_;obtain⟨o,L,M⟩:=I;refine Ab<|Ad (T:="StopIteration") (b:=Ul) ⟨o,L,M⟩ Lf ?_;exact Db<|t h' λc o Y P q=>kp c o P q
theorem ESt.keep(x:ESt h e it S l k i)(a:∀b o,b≠S->h.get? b=O o->h'.get? b=O o)(n1:e≠S)(j:it≠S):ESt h' e it S l k i:=by
 obtain⟨m,t⟩:=x;refine⟨m.at λo q=>a _ o j q,?_⟩;rcases t with⟨v,c⟩|⟨T,fl,y,ot,c,B,C,F,d⟩
 .exact .inl ⟨v,a _ _ n1 c⟩
 .exact .inr ⟨T,fl,y,ot,a _ _ n1 c,a _ _ d B,C,F,d⟩
end
section
variable {w:Wb}{R:Ui->Gb->Prop}
theorem zk(hh:A.in1.handled=U)(v:A.in1.in1.handled=U)(si:e≠it)(ah:l≠e)(y:l≠it)(n1:e≠d)(n2:it≠d)(n3:l≠d)(J:Nat->Dc->Prop)(vd:∀i h h',J i h->(∀b o,b≠e->b≠it->h.get? b=O o->h'.get? b=O o)->J i h')(step:∀(i:Nat) (a:Tok) (x:Bb) (s:Gb) (Q:Unit->Gb->Prop) (E:Bb->Gb->Prop),m[i]?=O x->J i s.heap ->(∀h' t,J (i+1) h'->E3 d s.heap h'->Q () {s with heap:=h',toks:=t})->Hb (Kb prog w) A.in1 (Pf d (.int (i:Nat) a) x) Q E s):∀(j i:Nat) (s:Gb) (F:Tok),m.size-i=j->i<=m.size->ESt s.heap e it d l k i->SqAt k s.heap l m->J i s.heap->d<s.heap.objs.size -> (∀h' a,J m.size h'->R (.ok<|.ret .none) {s with heap:=h',toks:=a}) -> Ef (Kb prog w) A (.builtin "dict.update.loop" ⟨[.ref d,.ref e,.int i F,.none],[]⟩) R s:=by
 intro j;induction j with
 |zero=>intro i s F B hi G C I hd L;have kf:i=m.size:=iT B hi;subst kf;refine Wd FZ ?_;rw[Around.under_plainId PX _];show Hb _ A.in1 (Md (.ref e) >>= _) _ _ s;refine Ab<|zH (A:=A.in1) v G C (Array.getElem?_eq_none<|A0 _) λh' he=>?_;show Hb _ _ (W7 d [] >>= _) _ _ _;exact Ab<|Db<|Db<|L h' s.toks<|vd _ _ _ I he
 |succ j ih=>intro i s F B hi G C I hd L;have gc:i<m.size:=K8 B;obtain⟨x,hx⟩:∃p,m[i]?=O p:=⟨m[i],S5 gc⟩;refine Wd FZ ?_;rw[Around.under_plainId PX _];show Hb _ A.in1 (Md (.ref e) >>= _) _ _ s;refine Ab<|Uq (A:=A.in1) (S:=d) v si ah y hd G C hx λh' a al M hz mf=>?_;have P:=vd _ _ _ I mf;show Hb _ A.in1 (Ud [.ref s.heap.objs.size] _ >>= _) _ _ _;refine Ab<|Xb ?_;refine Ab<|Dh ?_;unfold F8;refine Ab<|Jd (T:="tuple") ⟨_,M,Z⟩ ?_;rw[Ib<|by decide];refine Ab<|Jc M rfl<|Db ?_;show Hb _ A.in1 (Ud [.int (i:Nat) a,x]<|Pf d (.int (i:Nat) a) x) _ _ _;refine Xb<|wpAny_mono (step i a x {s with heap:=h',toks:=a+1} (λ_ xf=>∃c t,xf={s with heap:=c,toks:=t}/\J (i+1) c/\E3 d h' c) (λ_ _=>Al) hx P λc t j Y=>⟨c,t,Z,j,Y⟩) (λ_ xf z=>?_) λ_ _ z=>z.elim;obtain⟨c,t,rfl,j,Y⟩:=z;have kp:∀b o,b≠d->h'.get? b=O o->c.get? b=O o:=λb o nb e=>(Y.2 b nb).trans e;refine Db ⟨De PX _,?_⟩;refine ih (i+1) {s with heap:=c,toks:=t} 0 (aA B) gc (al.keep kp n1 n2) (C.at λo q=>kp _ _ n3<|mf _ o ah y q) j ?_ λh3 tk3 j3=>L h3 tk3 j3;have:BZ c s.heap.objs.size (.int (i:Nat) a) x:=kp _ _ (X2 hd) M;exact L7 hd<|G0 this
end
theorem RU(J:Nat->Dc->Prop)(B:A.handled=U)(M:e≠it)(P:l≠e)(C:l≠it)(d:IsEnum s.heap e it 0 .none) (I:ItAt k s.heap it l 0) (hl:SqAt k s.heap l xs) (R:l<s.heap.objs.size)(h0:∀h',(∀b a,s.heap.get? b=O a->h'.get? b=O a)->h'.get? s.heap.objs.size=O {cls:=.type "dict",data:=.dict #[]}->J 0 h')(Y:∀i h h',J i h->(∀b o,b≠e->b≠it->h.get? b=O o->h'.get? b=O o)->J i h')(step:∀(i:Nat) (m:Tok) (x:Bb) (s':Gb) (L:Unit->Gb->Prop) (E':Bb->Gb->Prop),xs[i]?=O x->J i s'.heap ->(∀h' ue,J (i+1) h'->E3 s.heap.objs.size s'.heap h'->L () {s' with heap:=h',toks:=ue})->Hb (Kb prog w) A.in1.in1 (Pf s.heap.objs.size (.int (i:Nat) m) x) L E' s')(h:∀h' m,J xs.size h'->Q (.ref s.heap.objs.size) {s with heap:=h',toks:=m}):Hb (Kb prog w) A (call (.type "dict") [.ref e]) Q E s:=by
 refine Fh (Q₁:=λobj c=>obj=.ref s.heap.objs.size/\c={s with heap:=s.heap.push {cls:=.type "dict",data:=.dict #[]}}) F.kt_called_dict (F.kt_typeCall_dict_1 _) F.entry_dict_init (Ig _ ⟨Z,Z⟩) ?_;rintro obj c ⟨rfl,rfl⟩;have q:(s.heap.push {cls:=.type "dict",data:=.dict #[]}).get? s.heap.objs.size=O {cls:=.type "dict",data:=.dict #[]}:=L0 _ Z;have t:∀b a,s.heap.get? b=O a->(s.heap.push {cls:=.type "dict",data:=.dict #[]}).get? b=O a:=λb a e=>g0 _ e;refine⟨⟨_,q,Z⟩,F.args_dict_init_2 _ _,?_⟩;unfold Builtin.«dict.__init__»;refine Ab ?_;unfold X7;refine Ab<|Pe ⟨_,q,Z⟩ ?_;show Hb _ _ (pure (s.heap.objs.size,[K4 e])) _ _ _;refine Db ?_;show Hb _ _ (E5 "dict.__init__" s.heap.objs.size (.ref e) [] .none) _ _ _;unfold E5;refine Ab<|Jd (T:="enumerate") ⟨_,t _ _ d,Z⟩ ?_;rw[Ib<|by decide];refine Ab<|QU (t _ _ d) B λv G y=>?_;simp only[B9,if_true];refine Ab<|Qc ?_;refine Ab<|Uf (s:={s with heap:=v,toks:=G}) (y _ _<|t _ _ d) ?_;have kp:∀b a,s.heap.get? b=O a->v.get? b=O a:=λb a e=>y b a<|t b a e;obtain⟨o1,g1,_⟩:=I.obj;have gc:s.heap.objs.size<v.objs.size:=G0<|y _ _ q;refine Db ⟨De PX _,zk (A:=A.in1) B B M P C (U0<|G0 d) (U0<|G0 g1) (U0 R) J Y step xs.size 0 _ 0 Z (V2 _)
   ⟨I.at λo e=>kp _ _ e,.inl ⟨_,kp _ _ d⟩⟩ (hl.at λo e=>kp _ _ e) (h0 v kp<|y _ _ q) gc λh' m j=>⟨Z,h h' m j⟩⟩
noncomputable def IZ(ys:List V):List (wZ×V):=ys.zipIdx.map λp=>(.inl (p.2:Nat),p.1)
theorem Vq{i:Nat}(h:ys[i]?=O y):(IZ ys)[i]?=O (.inl (i:Nat),y):=by unfold IZ;rw[G1,X8,h];simp
theorem SU(ys:List V):(IZ ys).length=ys.length:=by simp[IZ]
def Na(K:B0)(b:TA):TE:=λσ H Q=>b σ H λc a=>∃(k:Kd) (l:Eb) (ys:List V),c=[.ref l]/\Sq k K a l ys/\∀p,a p=U->Q (.ref p) (kZ a p<|.dK<|OZ<|IZ ys)
theorem oS{p:Pos}(M:X.calm=Ul)(P:Gl X "dict")(R:X.mg "dict"=U)(Y:Gc "dict"=O (.type "dict"))(hg:Gl X "enumerate")(hm:X.mg "enumerate"=U)(ha:PA X [a] ta)(hs:Pb [a] X.env=(Um,Wc a X.env)::Pb [] X.env) (jc:(Sc pos<|Pb [] X.env).any (·.1)=Um)(v:Pb [.Call (.Name "enumerate" p) [a] [] pos] X.env=(Um,Wc (.Call (.Name "enumerate" p) [a] [] pos) X.env)::Pb [] X.env) (y:(Sc pos0<|Pb [] X.env).any (·.1)=Um):PE X (.Call (.Name "dict" p0) [.Call (.Name "enumerate" p) [a] [] pos] [] pos0) (Na X.K ta):=by
 intro gb s σ H Q I h;refine Cd (TJ I P R Y ?_ (by decide)<|by decide);refine W3 ?_ v y;rw[v];show Hb _ _ (spliced ((Um,Wc (.Call (.Name "enumerate" p) [a] [] pos) X.env)::Sc pos0 (Pb [] X.env))) _ _ s;refine Calls.spliced_cons ?_;refine Call_<|TJ I hg hm boot_enumerate<|W3 (xZ (ha pos gb s σ H _ I h) λus d ⟨m,H1,B,r1,q1⟩=>?_) hs jc;obtain⟨k,l,ys,e,q1,q⟩:=q1;subst e;obtain rfl:us=[.ref l]:=by cases r1 with|cons r rr=>cases r;cases rr;rfl
 obtain⟨its,rv,C,z1⟩:=B.sq q1;have lt:l<d.heap.objs.size:=by
  cases k with
  |l=>obtain⟨o,e,_⟩:=C;exact G0 e
  |t=>obtain⟨o,e,_⟩:=C;exact G0 e
 refine Tg F.called_enumerate (by decide) (F.typeCall_enumerate_1 _) (F.newCall_enumerate_1 _) (λobj=>F.args_object_init_2 obj _) F.entry_enumerate_new (mD k l its.toArray) ⟨C,?_⟩;have zI:(d.heap.push<|UZ k l).objs.size=d.heap.objs.size+1:=by simp[u3]
 have gE:(Fy d.heap k l).get? (d.heap.push<|UZ k l).objs.size=O _:=L0 _ Z;have g1:(Fy d.heap k l).get? d.heap.objs.size=O (UZ k l):=g0 _ (L0 _<|by cases k<;>rfl);have G:(Fy d.heap k l).objs.size=d.heap.objs.size+2:=by simp[u3]
 rw[zI]at gE;show _/\_;rw[zI];have kp:∀b o,d.heap.get? b=O o->(Fy d.heap k l).get? b=O o:=λb o e=>g0 _<|g0 _ e;refine⟨⟨_,gE,Z⟩,Calls.spliced_nil ?_⟩;have n1:(d.heap.objs.size+1:Nat)≠d.heap.objs.size:=X2<|Z3 _;have n2:l≠d.heap.objs.size:=U0 lt;have n3:l≠(d.heap.objs.size+1:Nat):=U0<|v7 lt;have hb:(d.heap.objs.size+2==Ac)=false:=beq_eq_false_iff_ne.mpr<|U3<|U0<|v0 B.big<|B1 _ _;have ub:=rv.length;have hz5:(IZ ys).length<=sizeLine:=by rw[SU];omega
 have hk:=FK<|IZ ys;refine RU (s:={d with heap:=Fy d.heap k l}) (xs:=its.toArray) (λi h=>(∀b ob,d.heap.get? b=O ob->h.get? b=O ob)/\∃m,KV (OZ<|(IZ ys).take i) m/\h.DictOf (jZ X.prog X.w) (d.heap.objs.size+2) m)
  (B.ok.hd M) n1 n3 n2 gE (ItAt.new k g1) (C.at λo e=>kp _ _ e) (by show l<(Fy d.heap k l).objs.size;rw[G];exact v0 lt<|B1 _ _) ?_ ?_ ?_ ?_
 .intro h' kk e;dsimp only at e;rw[G]at e;obtain⟨o',es,ep,L,rest⟩:=uQ (knd:=jZ X.prog X.w) d.heap;rw[L0 _ Z]at L;cases L;exact⟨λb o x=>kk b o<|kp b o x,[],.nil,_,es,ep,e,rest⟩
 .rintro i h1 h2 ⟨kk,m,j,o',es,ep,L,rest⟩ k3;have far:∀{b:Eb},b<d.heap.objs.size->b≠d.heap.objs.size+1/\b≠d.heap.objs.size:=λ{b} z=>⟨sY 1 z,sY 0 z⟩;refine⟨λb o x=>?_,m,j,o',es,ep,?_,rest⟩
  .obtain⟨f1,f2⟩:=far<|G0 x;exact k3 b o f1 f2<|kk b o x
  .refine k3 _ _ ?_ ?_ L<;>(show ¬(@Eq Nat _ _))<;>omega
 .rintro i tk x s' Q' E' hx ⟨kk,m,j,dd⟩ fi;dsimp only at fi ⊢;rw[G]at fi ⊢;obtain⟨y1,ey1,ry1⟩:=rv.getV (by simpa using hx);have zf:m.length<=sizeLine:=by
   have a1:=Paired.length j;have a2:=FK<|(IZ ys).take i;have a3:((IZ ys).take i).length<=(IZ ys).length:=by simp only[E2];exact O7 _ _
   omega
  refine Lh (hsz:=zf) (Kz (k:=.inl (i:Nat)) ⟨tk,Z⟩) dd λh' pi sb=>fi h' _ ⟨λc o e=>?_,_,?_,pi⟩ sb
  .have hc:c<d.heap.objs.size:=G0 e;exact(sb.2 c<|sY 2 hc).trans<|kk c o e
  .rw[wV<|Vq ey1];exact j.put _ ry1
 .rintro h' tk ⟨kk,m,j,rest⟩;have et:(IZ ys).take its.toArray.size=IZ ys:=by rw[Y1];rw[SU];simp only[P0];omega
  rw[et]at j;have vd:H1 (d.heap.objs.size+2)=none:=B.hok.fresh<|B1 _ _;dsimp only;rw[G];exact⟨.ref<|d.heap.objs.size+2,_,B.laid (t':=tk) kk (B1 _ _)<|show ObjOk X.prog X.w _ h' _ (.dK<|OZ<|IZ ys) from ⟨q0 hk hz5,hb,m,j,rest⟩,Z,q _ vd⟩
end L2
namespace L3
open L2
noncomputable def rL(a:List D):List (D×D):=a.zipIdx.map λp=>(.int (p.2:Nat),p.1)
theorem bG{K:Fg}{F:Hp}:∀{ys:List V}{a:List D} (n:Nat),DaAll K F ys a->DaKV K F ((ys.zipIdx n).map λp=>(.inl ((p.2:Nat):Int),p.1)) ((a.zipIdx n).map λp=>(n0 (p.2:Nat),p.1))
 |_,_,_,.nil=>.nil
 |_,_,n,.cons h t=>by simp only[gQ,E1];exact DaKV.cons (k:=.inl (n:Int)) h<|bG (n+1) t
theorem UG(ys:List V):((IZ ys).map (·.1)).Nodup:=by
 have e:(IZ ys).map (·.1)=(S2 ys.length).map λn:Nat=>(Sum.inl (n:Int):wZ):=by
  refine A8 λi=>?_;simp only[IZ,O0,G1,X8,Option.map_map,List.getElem?_range'];by_cases h:i<ys.length
  .rw[M0 h,List.getElem?_range h];simp
  .rw[M8<|by omega,M8<|by simp;omega];rfl
 rw[e];exact J3.mpr (List.nodup_range.imp λh e=>h<|by injection e with e;exact Y9 e)
def A_(d:D)(Q:Sl->Prop):Prop:=∃a,xT d=O a/\Q (.ow<|.dict<|rL a)
def Oa(K:Fg):List V->Hp->VK->Prop:=λb a Q=>∃(k:Kd) (l:Eb) (ys:List V),b=[.ref l]/\Sq k K a l ys/\∀p,a p=U->Q (.ref p) (kZ a p<|.dK<|OZ<|IZ ys)
theorem pS{K:Fg}:ZX K (Oa K) (o1 A_):=BG λG F σ H ρ x d Q v R b w k=>by obtain⟨c,e,w⟩:=w;obtain⟨i,l1,a,rfl,j,m⟩:=b.seq R.sub e;refine⟨i,l1,a,Z,j,λl hl=>?_⟩;rw[GG _<|UG a];obtain⟨q,t⟩:=R.newOw (o:=.dK<|IZ a) (d:=.dict<|rL c) hl<|bG 0 m;exact k _ _ F _ (Sub.refl _) q t w
section
variable {K:Fg}{e e1:Vb}{a:AD}{p pos p2:Pos}
theorem qS(b:X.K=K)(c:X.calm=Ul)(d:X.mg "dict"=U)(i:Gc "dict"=O (.type "dict"))(j:X.mg "enumerate"=U)(k:WA X [e1] (MX<|[a].map (uX K)))(l:Gl X "dict":=by rfl)(m:Gl X "enumerate":=by rfl)(t:NX e1=true:=by rfl) :
  WE X (.Call (.Name "dict" p) [.Call (.Name "enumerate" p2) [e1] [] md] [] pos) (lift K<|TK [a]<|o1 A_):=by
 subst b;exact⟨OW (oS c l d i m j k.h (DX t) (by rfl) (DX Z)<|DZ Z) λq=>bV pS q⟩
end
noncomputable def Aj:D->(Sl->Prop)->Prop
 | .list c,Q=>∃a:List (wZ×D),c=a.map v_/\∀b:List (wZ×D),(∀q∈b,q∈a)->b.length<=a.length->Q (.ow<|.dict<|b.map aj)
 |_,_=>Al
theorem ju{qs:List (wZ×D)}:∃a:List (wZ×D),Uz (qs.map aj) k d=a.map aj/\(∀q∈a,q∈qs\/q=(k,d))/\a.length<=qs.length+1:=by
 unfold Uz;split
 .refine⟨qs.map λq=>if q.1=k then (q.1,d) else q,?_,λq b=>?_,by simp⟩
  .rw[O0,O0];refine S1 λq _=>?_;simp only[Function.comp,aj,uW,Option.some.injEq];split<;>rfl
  .obtain⟨c,h,rfl⟩:=J0.mp b;split
   .rename_i e;rw[e];exact .inr Z
   .exact .inl h
 .exact⟨qs++[(k,d)],by simp,λq b=>by simpa using b,by simp⟩
theorem cG{K:Fg}{F:Hp}:∀{l m:List (wZ×V)}{c qs:List (wZ×D)},DaKV K F l (c.map aj)->DaKV K F m (qs.map aj)->∃a:List (wZ×D),DaKV K F (l.foldl (λm j=>UJ m j.1 j.2) m) (a.map aj)/\(∀q∈a,q∈qs\/q∈c)/\a.length<=qs.length+c.length
 |_,_,[],qs,h,i=>by cases h;exact⟨qs,i,λq h=>.inl h,by simp⟩
 |_,_,p::c,qs,h,i=>by
  generalize b:(p::c).map aj=w at h;cases h with
  |nil=>cases b
  |@cons k v d x w h t =>
   rw[E1]at b;injection b with e1 e2;injection e1 with e1 e3;have y:p.1=k:=by have:=Rb EG e1;rw[uW,uW]at this;exact Z1 this
   subst e2;subst y;subst e3;obtain⟨M,B,C,P⟩:=ju (qs:=qs) (k:=p.1) (d:=p.2);have e:=i.put (k:=p.1) h;rw[B]at e;obtain⟨G,I,g2,R⟩:=cG t e;refine⟨G,I,λq L=>?_,by simp only[U1];omega⟩;rcases g2 q L with z|z
   .rcases C q z with z|z
    .exact .inl z
    .exact .inr (by rw[z];exact u0)
   .exact .inr (i0 _ z)
theorem Ak{K:Fg}:ZX K (cy K) (o1 Aj):=BG λG F σ H ρ x d Q L R i w k=>by
 cases d<;>first|exact w.elim|skip
 rename_i M;obtain⟨P,e,w⟩:=w;subst e;obtain⟨a,us,rfl,j,l⟩:=i.list R.sub;obtain⟨b,Y,g2,m,t⟩:=dy R.sub l;refine⟨a,us,b,Z,SqL.of j,g2,m,λp v=>?_⟩;obtain⟨c,y,B,hl⟩:=cG t<|show DaKV K F [] (([]:List (wZ×D)).map aj) from .nil;obtain⟨C,I⟩:=R.newOw (o:=.dK<|OZ b) (d:=.dict<|c.map aj) v y;exact k _ _ F _ (Sub.refl _) C I (w c (λq h=>(B q h).elim (λz=>nomatch z) id)<|by simpa using hl)
section
variable {K:Fg}{e e1:Vb}{a:AD}{p pos p2:Pos}
theorem vD(b:X.K=K)(c:X.calm=Ul)(d:X.mg "dict"=U)(i:Gc "dict"=O (.type "dict"))(j:WA X [e] (MX<|[a].map (uX K)))(k:Gl X "dict":=by rfl)(l:NX e=true:=by rfl) :
  WE X (.Call (.Name "dict" p) [e] [] pos) (lift K<|TK [a]<|o1 Aj):=by
 subst b;exact yJ Ak (zq c) d i j k (by decide) (by decide) l Z
end
mutual
noncomputable def JJ:D->Bool
 | .none=>Ul
 | .bool _=>Ul
 | .int _=>Ul
 | .str _=>Ul
 | .list _=>Um
 | .tuple a=>tupGs a
 | .dict b=>tupGk b
noncomputable def tupGs:List D->Bool
 |[]=>Ul
 |x::a=>JJ x&&tupGs a
noncomputable def tupGk:List (D×D)->Bool
 |[]=>Ul
 |(k,v)::a=>(EG k).isSome&&JJ v&&tupGk a
end
theorem ku(c:s.heap.get? a=O o)(j:o.cls=.type "list")(q:o.data=.seq vs n)(v:We s.heap vs.toList xs as)(L:(X3 xs).showable=Ul) (M:Ac∉as) (P:A.guards=O []) (R:A.units+((X3 xs).depth+1)<Oc) (B:(X3 xs).shown.length<=sizeLine)(k:∀h' u C,(∀b o,s.heap.get? b=O o->h'.get? b=O o)->Q (.str (X3 xs).shown u) {s with heap:=h',toks:=C}):Hb (Kb prog w) A (call (.builtin "repr") [.ref a]) Q E s:=by
 have d:(listText<|g7 xs).length<=sizeLine:=by simpa only[t8]using B
 obtain⟨bs,Y,m⟩:=ReprAllK.of_readsAll (prog:=prog) (w:=w) v (by simpa [t6]using L) (λ_=>M)<|λt ht=>q0 (listText_mem_le ht) d;have G:a∉bs:=not_mem_of_deeper (.list c j q v) (by simp only[P4];omega) Y;refine call_repr_slot (by omega) ⟨o,c,j⟩ F.slot_list_repr.toG ?_;simp only[P4]at R;simp only[t8]at k;obtain⟨l⟩:=vs;cases l with
 |nil=>have I:We s.heap [] xs _:=v;cases I;simp only[g7,listText_nil]at k;exact call_list_repr_empty ⟨o,c,j⟩ c q ⟨_,_,Z,k s.heap _ _ λ_ _ e=>e⟩
 |cons x l=>exact call_list_reprK c j q G (by simpa using m.length_eq) (λi y e=>m.item i y<|by simpa using e) P (λb _=>Clear.nil b) (by show A.units+1+_<Oc;omega) (λ_ _ e=>e) (λh' u C m=>⟨_,_,Z,k h' u C m⟩) d
section
variable {σ:L2.St}{F:Hp}
theorem Ck{P:Cc}{w:Wb}{k:wZ}(e:(jZ P w).is k u=Ul):Oi h u (qW k) []:=by
 rcases pZ e with⟨i,t,rfl,rfl⟩|⟨x,t,rfl,rfl⟩
 .exact .int i t
 .exact .str x t
mutual
theorem Da.readsG(I:Inv X gb σ H s)(a:Sub F H):∀{v:V}{d:D}{u:Bb},Da X.K F v d->JJ d=Ul->RelV v u->∃as,Oi s.heap u d as/\Ac∉as
 |_,_,_,.non,_,r=>by cases r;exact⟨_,.none,by simp⟩
 |_,_,_,.bl b,_,r=>by cases r;exact⟨_,.bool b,by simp⟩
 |_,_,_,.int i,_,r=>by obtain⟨t,rfl⟩:=r;exact⟨_,.int i t,by simp⟩
 |_,_,_,.str x,_,r=>by obtain⟨t,rfl⟩:=r;exact⟨_,.str x t,by simp⟩
 |_,_,_,.lst e t,z,_=>by simp[JJ]at z
 |_,_,_,.tup e t,z,r=>by cases r;obtain⟨its,k,⟨o,e,c,n,q⟩,_⟩:=I.tuple<|SqT.of<|a _ _ e;obtain⟨as,l,ns⟩:=DaAll.readsG I a t (by simpa [JJ]using z) k;exact⟨_,.tuple e c q (by simpa using l),ns⟩
 |_,_,_,.dk h t,z,r=>by
  cases r;obtain⟨_,j,M,m,o,P,R,w,y,B,_,C,_⟩:=Qw I.hok<|a.rd h;obtain⟨bs,G,L,ns⟩:=DaKV.readsG I a t (by simpa [JJ]using z) m C;refine⟨_,.dict w y.1 B G L,λz=>?_⟩;rcases W0.mp z with z|z
  .rw[Y0]at z;rw[<-z]at j;simp at j
  .exact ns z
 |_,_,_,.dt h t,z,r=>by
  cases r;cases t with
  |nil=>exact gu I<|.inr<|a.rd h
  |cons _ _=>simp[JJ,tupGk,EG]at z
 |_,_,_,.scr _,z,_=>by simp[JJ,SK,tupGk,EG]at z
 |_,_,_,.exc _,z,_=>by simp[JJ,LP,tupGk,EG]at z
 |_,_,_,.opq _,z,_=>by simp[JJ,MP,tupGk,EG]at z
 |_,_,_,.pd _ _,z,_=>by simp[JJ,wG,tupGk,EG]at z
 |_,_,_,.bd _ _,z,_=>by simp[JJ,tK,tupGk,EG]at z
theorem DaAll.readsG(I:Inv X gb σ H s)(d:Sub F H):∀{e:List V}{c:List D}{us:Up},DaAll X.K F e c->tupGs c=Ul->Vals e us->∃as,We s.heap us c as/\Ac∉as
 |_,_,_,.nil,_,.nil=>⟨_,.nil,by simp⟩
 |_,_,_,.cons h t,z,.cons r i=>by simp[tupGs]at z;obtain⟨as,a,n1⟩:=Da.readsG I d h z.1 r;obtain⟨bs,b,j⟩:=DaAll.readsG I d t z.2 i;exact⟨_,.cons a b,λz=>(W0.mp z).elim n1 j⟩
theorem DaKV.readsG(I:Inv X gb σ H s)(i:Sub F H):∀{b:List (wZ×V)}{c:List (D×D)}{j:List (wZ×Bb)}{d:List DictEntry},DaKV X.K F b c->tupGk c=Ul->KV b j->Pairs (jZ X.prog X.w) d j->∃bs,We s.heap (d.map (·.key)) (c.map (·.1)) []/\We s.heap (d.map (·.val)) (c.map (·.2)) bs/\Ac∉bs
 |_,_,_,_,.nil,_,.nil,.nil=>⟨_,.nil,.nil,by simp⟩
 |_,_,_,_,.cons (k:=k) h t,z,.cons q l,.cons m v x=>by
  simp only[tupGk,X1]at z;obtain⟨e,r⟩:=q;obtain⟨as,a,n1⟩:=Da.readsG I i h z.1.2 r;obtain⟨bs,y,b2,B⟩:=DaKV.readsG I i t z.2 l x;refine⟨as++bs,?_,?_,λz=>(W0.mp z).elim n1 B⟩
  .have e:k=_:=e;rw[E1,E1];exact ReadsAll.cons (as:=[]) (bs:=[]) (Ck<|by rw[e];exact m) y
  .rw[E1,E1];exact ReadsAll.cons (by rw[v];exact a) b2
end
theorem Bj(I:Inv X gb σ H s){b:Eb}{k:Ql}(h:H b=O (.tup<|k.map V.int)):Oi s.heap (.ref b) (.tuple<|k.map n0) []:=yk I h
theorem kO(I:Inv X gb σ H s){b c e:Eb}{k:Ql×Ql}(h:H b=O (.tup [.ref c,.ref e]))(d:H c=O (.tup<|k.1.map V.int))(i:H e=O (.tup<|k.2.map V.int)):Oi s.heap (.ref b) (.tuple [.tuple<|k.1.map n0,.tuple<|k.2.map n0]) []:=by
 obtain⟨its,j,⟨o,e0,l,n,q⟩,_⟩:=I.tuple<|SqT.of h;refine .tuple e0 l q ?_;cases j with
 |cons r a =>
  cases r;cases a with
  |cons r a=>cases r;cases a;have:=ReadsAll.cons (Bj I d)<|ReadsAll.cons (Bj I i) .nil;simpa using this
noncomputable abbrev bxD(k:Ql×Ql):D:=.tuple [.tuple<|k.1.map n0,.tuple<|k.2.map n0]
theorem lu(I:Inv X gb σ H s)(b:Sub F H):∀{e:List ((Ql×Ql)×Eb×V)}{c:List ((Ql×Ql)×D)}{d:List ((Ql×Ql)×Eb×Bb)},DaBd X.K F e c->(∀p∈c,JJ p.2=Ul)->Paired (λx v=>x.1=v.1/\x.2.1=v.2.1/\RelV x.2.2 v.2.2) e d -> ∃bs,We s.heap (d.map λv=>.ref v.2.1) (c.map λp=>bxD p.1) []/\We s.heap (d.map λv=>v.2.2) (c.map (·.2)) bs/\Ac∉bs
 |_,_,_,.nil,_,.nil=>⟨_,.nil,.nil,by simp⟩
 |_,_,_,.cons j k l m t,z,.cons r q=>by
  obtain⟨L,i,w⟩:=r;obtain⟨bs,y,B,C⟩:=lu I b t (λp G=>z p<|i0 _ G) q;obtain⟨as,a,n1⟩:=Da.readsG I b m (z _ u0) w;dsimp only at i;refine⟨as++bs,?_,?_,λz=>(W0.mp z).elim n1 C⟩
  .rw[E1,E1,<-i];exact ReadsAll.cons (kO I (b _ _ j) (b _ _ k)<|b _ _ l) y
  .rw[E1,E1];exact ReadsAll.cons a B
end
noncomputable def dB(a:List ((Ql×Ql)×D)):Fb:=.dict<|a.map λp=>(bxD p.1,p.2)
noncomputable def Pa:D->D×D
 | .tuple [k,v]=>(k,v)
 |_=>(.none,.none)
noncomputable def wF:D->D
 | .dict [(.bool Um,.tuple L)]=>.dict<|L.map Pa
 |d=>d
theorem ou(a:List ((Ql×Ql)×D)):wF (tK a)=dB a:=by show j8 _=j8 _;rw[O0];rfl
theorem dG(h:TX d=Ul):wF d=d:=by cases d<;>first|rfl|simp[TX]at h
theorem Cj(h:JJ d=Ul):wF d=d:=by
 unfold wF;split
 .simp[JJ,tupGk,EG]at h
 .rfl
noncomputable def S':D->Bool
 | .list a=>tupGs a
 |_=>Um
def lO(d:D):Prop:=TX d=Ul\/JJ d=Ul\/S' d=Ul\/∃a:List ((Ql×Ql)×D),d=tK a/\∀p∈a,JJ p.2=Ul
def qu(K:Fg):List V->Hp->VK->Prop:=λa H Q=>∃(x:V) (d:D) (F:Hp),a=[x]/\Sub F H/\Da K F x d/\lO d/\(wF d).showable=Ul/\(wF d).depth+1<=64/\(wF d).shown.length<=sizeLine/\Q (.str (wF d).shown) H
theorem sL{K:Fg}(h:Da K F v (tK ps)):∃a i c b,v=.ref a/\F a=O (JZ hB i c b)/\DaBd K F b ps:=by
 generalize hd:tK ps=d at h;cases h<;>first|(cases hd;done)|skip
 case dk t =>
  cases t with
  |nil=>cases hd
  |@cons k _ _ _ _ _ _=>cases k<;>cases hd
 case dt t=>cases t<;>cases hd
 case bd a c b j e t=>injection hd with hd;injection hd with hd;injection hd with _ hd;injection hd with hd;have:ps=j:=FW hd;subst this;exact⟨_,_,_,_,Z,e,t⟩
theorem TU{K:Fg}(G:X.K=K)(l:Room k X.A):nZ X (.builtin "repr") (qu K):=by
 intro gb s σ H xs us Q I r h;obtain⟨x,d,F,rfl,m,hd,c,j,v,hl,q⟩:=h;rcases c with c|c|c|⟨ps,rfl,c⟩
 .rw[dG c]at j v hl q;exact vq G l gb s σ H _ us Q I r ⟨x,d,Z,hd.is m c,j,yW c,v,hl,q⟩
 .rw[Cj c]at j v hl q;subst G;obtain⟨u,rfl,B⟩:=iJ r;obtain⟨as,y,R⟩:=hd.readsG I m c B;have L:=l.units;have fin:∀{a:Eb},u=.ref a->Hb (Kb X.prog X.w) X.A (call (.builtin "repr") [u]) (EP X gb σ Q) X.xe s:=λ{a} e=>by
   subst e;exact Kf y j (λ_=>R) l.gd (by omega) (λ_ _ e=>e) (λh' u tk C=>⟨.str _,H,I.kept C,⟨u,Z⟩,q⟩) hl
  cases y with
  |none=>exact PySem.P.repr_of_none ⟨.str _,H,I.tok _,⟨_,Z⟩,q⟩
  |bool b=>exact PySem.P.repr_of_bool ⟨.str _,H,I.tok _,⟨_,Z⟩,by cases b<;>exact q⟩
  |int i t=>exact PySem.P.repr_of_int (by simpa [t6]using j) ⟨.str _,H,I.tok _,⟨_,Z⟩,q⟩
  |str x t=>exact PySem.P.repr_of_str ⟨.str _,H,I.tok _,⟨_,Z⟩,q⟩ hl
  |list=>exact fin Z
  |tuple=>exact fin Z
  |dict=>exact fin Z
 .subst G;obtain⟨u,rfl,B⟩:=iJ r;have L:=l.units;cases hd with
  |lst e t=>cases B;obtain⟨its,rv,⟨o,n,Y,e2,e3,M⟩,_⟩:=I.list<|SqL.of<|m _ _ e;obtain⟨as,y,R⟩:=DaAll.readsG I m t c rv;exact ku Y e2 M (by simpa using y) j R l.gd (R0 (Q0 v _) L) hl λh' u tk C=>⟨.str _,H,I.kept C,⟨u,Z⟩,q⟩
  |_=>cases c
 .rw[ou]at j v hl q;subst G;obtain⟨u,rfl,B⟩:=iJ r;have L:=l.units;obtain⟨a,a',ep,xs,rfl,e,t⟩:=sL hd;cases B;obtain⟨vs,o,es,pr,Y,e2,e3,M,_,_,_,hm⟩:=ext_at I<|m _ _ e;obtain⟨bs,a1,a2,n2⟩:=lu I m t c pr;have y:=Reads.dict (kvs:=ps.map λp=>(bxD p.1,p.2)) (as:=[]) (bs:=bs) Y e2.1 e3 (by rw[M,O0,O0];exact a1) (by rw[M,O0,O0];exact a2);refine Kf y j (λ_ z=>?_) l.gd (R0 (Q0 v _) L) (λ_ _ e=>e) (λh' u tk C=>⟨.str _,H,I.kept C,⟨u,Z⟩,q⟩) hl;rcases W0.mp z with z|z
  .have z:Ac=a:=by simpa using z
   rw[<-z]at hm;simp at hm
  .exact n2 z
theorem At.da0{K:Fg}(c:Sub F H)(h:At K F H v d):∃i,Sub i H/\Da K i v d:=by
 rcases h with h|⟨a,o,rfl,n,e,h⟩
 .exact⟨F,c,h⟩
 .have j:Sub F (kZ F a o):=λb u z=>by
   by_cases q:b=a
   .subst q;rw[n]at z;cases z
   .rw[zX q];exact z
  refine⟨kZ F a o,λb u z=>?_,(h.mono j).da OX⟩;by_cases q:b=a
  .subst q;rw[OX]at z;rw[e];exact z
  .rw[zX q]at z;exact c _ _ z
def mO(d:D)(Q:Sl->Prop):Prop:=lO d/\(wF d).showable=Ul/\(wF d).depth+1<=64/\(wF d).shown.length<=sizeLine/\Q (.fz<|.str (wF d).shown)
theorem wD{K:Fg}:ZX K (qu K) (o1 mO):=BG λG F σ H ρ x d Q m R a w k=>by obtain⟨b,c,e,i,w⟩:=w;obtain⟨j,l,da⟩:=a.da0 R.sub;exact⟨x,d,j,Z,l,da,b,c,e,i,k _ H F (.fz _) (Sub.refl _) R (Da.str _) w⟩
end L3
namespace L2
def tu(K:B0):List V->Hp->VK->Prop:=λb H Q=>cD K b H Q\/∃(a c:Eb) (d:Nat) (ys:List ((Ql×Ql)×Eb×V)) (T:Ki),b=[.ref a,.ty T.nm]/\H a=O (JZ hB c d ys)/\Q (.bl<|Ki.dct.sub T) H
theorem Dk:nZ X (.builtin "isinstance") (tu X.K):=by
 intro gb s σ H d us Q I r h;rcases h with h|⟨a,v,w,ys,T,rfl,hd,q⟩
 .exact TH gb s σ H d us Q I r h
 .obtain⟨u,e,rfl,i,j⟩:=NK r;obtain rfl:e=.type T.nm:=j;cases i;obtain⟨x,o,y,B,k,l,C,F,_⟩:=ext_at I hd;have c:s.TypeIs (.ref a) Ki.dct.nm:=⟨o,k,l.1⟩;cases b:Ki.dct.sub T with
  |true=>rw[b]at q;exact Ic (Vg (Tx:=Ki.dct.nm) (YZ T)<|by rw[YW,b]) ⟨c,.bl Ul,H,I,Z,q⟩
  |false =>
   rw[b]at q;have m:Kh (.type Ki.dct.nm) (.type T.nm)=pure false:=by rw[YW,b]
   have t:=Zw Ki.dct T b;have fin:EP X gb σ Q (.bool Um) {s with toks:=s.toks+1}:=⟨.bl Um,H,I.tok _,Z,q⟩;exact Ic (Qe t (YZ T) m) ⟨c,fin⟩
end L2
namespace L3
open L2
def tL(T:Ki)(d:D)(Q:Sl->Prop):Prop:=gy T d Q\/∃a:List ((Ql×Ql)×D),d=tK a/\Q (.fz<|.bool<|Ki.dct.sub T)
theorem rS{K:Fg}(j:Sub F H)(h:At K F H v (tK ps)):∃a b c d,v=.ref a/\H a=O (JZ hB b c d):=by obtain⟨k,i,da⟩:=h.da0 j;obtain⟨a,b,c,d,e,h,_⟩:=sL da;exact⟨a,b,c,d,e,i _ _ h⟩
theorem QE{K:Fg}{T:Ki}:ZX K (λc H Q=>∃x,c=[x]/\tu K [x,.ty T.nm] H Q) (o1<|tL T):=BG λG F σ H ρ x d Q i R a w k=>by
 rcases w with w|⟨t,rfl,w⟩
 .obtain⟨j,e,q⟩:=cj (T:=T) G F σ H ρ [x] [d] Q i R (.cons a .nil) w k;exact⟨j,e,.inl q⟩
 .obtain⟨b,l,m,ys,rfl,hd⟩:=rS R.sub a;exact⟨_,Z,.inr ⟨b,l,m,ys,T,Z,hd,k _ H F (.fz _) (Sub.refl _) R (Da.bl _) w⟩⟩
section
variable {K:Fg}{e e1:Vb}{a:AD}{p pos p2:Pos}
theorem nO(T:Ki)(i:X.K=K)(j:X.mg "isinstance"=U){y:Str}(k:X.mg y=U)(b:Gc y=O (.type T.nm))(l:WE X e1 (uX K a))(m:Gl X "isinstance":=by rfl)(t:Gl X y:=by rfl)(hy:y ≠ "__name__":=by decide)(c:(y==("__debug__":Str))=false:=by decide)(d:NX e1=true:=by rfl) :
  WE X (.Call (.Name "isinstance" p) [e1,.Name y p2] [] pos) (lift K<|TK [a]<|o1<|tL T):=by
 subst i;exact⟨OW (bU Dk m j boot_isinstance (wK l.h (wK (zz t k b (v:=.ty T.nm) Z hy c) aU<|DX Z)<|DX d) (by decide) (by decide) (DX d)<|DZ Z) λq=>MF (P:=λx w=>tu X.K [x,.ty T.nm] w _)<|bV QE q⟩
end
def oO(j:TD)(l:Con):TD:=λρ Q=>j ρ λr b=>∃(a:List D) (c:Ql),r.d=.list a/\c.length=a.length /\
 (∀(i:Nat) (d:D) (k:Int),a[i]?=O d->c[i]?=O k->l [.fz d] λm _=>m=.fz (.int k)) /\
 ∀e:List (Int×D),e.Perm (c.zip a)->e.Pairwise (λp q=>p.1<=q.1)->Q (.ow (.list (e.map (·.2)))) b
theorem RE{K:Fg}{k:Nat}{x:Str}{j:Us}{P:Con}{e:Vb}{Y kp p pos:Pos}{td:TD}(hK:X.K=K)(C:Cal X.prog X.w X.K X.mg X.base k x j (tX K P))(hr:Room (k+2) X.A)(hm:X.mg "sorted"=U)(he:WE X e (lift K td))
  (hgx:Gl X x:=by rfl) (bh:(x==("__debug__":Str))=false:=by decide) (hg:Gl X "sorted":=by rfl)
  (yf:Pb [e] X.env=(Um,Wc e X.env)::Pb [] X.env:=by rfl) (ef:Sc pos (Pb [e] X.env)=(Um,Wc e X.env)::Sc pos (Pb [] X.env):=by rfl) (jc:(Sc pos<|Pb [e] X.env).any (·.1)=false:=by rfl) :
  WE X (.Call (.Name "sorted" p) [e] [⟨O "key",.Name x Y,kp⟩] pos) (lift K<|oO td P):=by
 subst hK;refine⟨λgb s σ H Q I h=>?_⟩;obtain⟨G,F,ρ,Qd,R,w,kk⟩:=h;refine Cd<|TJ I hg hm (show Gc "sorted"=O (.builtin "sorted") from by first|rfl|decide) ?_;refine callWith_kw (env:=X.env) (e:=e) (rest:=[]) (kws:=[⟨O "key",.Name x Y,kp⟩]) ?_ ef jc Z Z;have P1:PA X [e] (Cz (lift X.K td) VB):=wK he.h aU yf;refine xZ (P1 pos gb s σ H (λvs H1=>∃(v:V) (m:Hp) (a:Ev) (ds:List D) (kz:Ql),vs=[v]/\Sub F m/\Rel X.K G m σ H1 a/\Da X.K m v (.list ds)/\kz.length=ds.length /\
     (∀(i:Nat) (d:D) (k:Int),ds[i]?=O d->kz[i]?=O k->P [.fz d] λr' _=>r'=.fz (.int k))/\∀j:List (Int×D),j.Perm (kz.zip ds)->j.Pairwise (λp q=>p.1<=q.1)->Qd (.ow (.list (j.map (·.2)))) a) I ⟨G,F,ρ,_,R,w,λv H1 m r a s1 R1 r1 w1=>?_⟩) λus s1 ⟨vs,H1,I1,rv,q1⟩=>?_
 .obtain⟨ds,kz,e1,e2,e3,e4⟩:=w1;obtain⟨F2,s2,R2,d2⟩:=r1.frz R1;rw[e1]at d2;exact⟨v,F2,a,ds,kz,Z,s1.trans s2,R2,d2,e2,e3,e4⟩
 obtain⟨v,m,a,ds,kz,rfl,sb1,R1,d1,ub,t,qe⟩:=q1;obtain⟨l,xs,rfl,fl,dx⟩:=lE d1;obtain⟨u,rfl,ru⟩:=iJ rv;cases ru;obtain⟨f,fd,Fk,hmx,mf,hb⟩:=C.ex;refine kws_cons ?_;refine yz I1 hgx hmx ?_ bh;refine kws_nil ?_;show Hb (Kb X.prog X.w) X.A (call (.builtin "sorted") [.ref l] [(Str.ofString "key",.ref f)]) (EP X gb σ Q) X.xe s1;have hxl:=dx.length;have hs:SqL X.K H1 l xs:=.inl<|.inl<|R1.sub _ _ fl;refine Hq (vs:=xs) (kz:=kz) I1 hs (by lia) (λi H'=>∃c,Sub m c/\Rel X.K G c σ H' a) ⟨m,Sub.refl _,R1⟩ (λi v u kv gb s H hv hk ru I ⟨c,y,R⟩=>?_)<|λH' Dd j ⟨c,y,R⟩ hn p1 Y=>?_
 .obtain⟨d,hd,dv⟩:=(dx.mono y).getV hv;have kb:=t i d kv hd hk;have q:tX X.K P [v] H (λr H'=>r=.int kv/\∃c,Sub m c/\Rel X.K G c σ H' a) E0 :=
   ⟨⟨H,c,λ_=>U⟩,c,[.fz d],_,sU (vs:=[v]) (ds:=[d]) R.sub R.tb<|.cons dv .nil,kb,λv' H3 F3 r3 ρ3 s3 R3 B e3=>by subst e3;have kp:∀b o,(∀z∈TB X.K,z.1≠b)->H b=O o->H3 b=O o:=λb o n e=>R3.keep b o e (λi z=>by cases z) n;exact⟨Dy B,F3,y.trans s3,R.grown s3 R3.sub (λb o e=>R3.fn b o e) kp R3.tb⟩⟩;have hl:[u].length=j.length:=by
   have:=Fk.len _ _ _ _ q;exact this
  have L:=hb s [u] I.kIn (by rw[B3];exact hl);rw[B3]at L;refine wpAny_call<|Rg (Fk.run X.A.in1.in1 X.stack s H ⟨[u],[]⟩ [u] [v] _ E0 hr.in1.in1 I.env0 L (.cons ru .nil) q) λr s' M=>?_;cases r with
  |error e=>exact False.elim M
  |ok fl =>
   cases fl with
   |ret u=>exact I.after M
   |next=>exact False.elim M
   |brk=>exact False.elim M
   |cont=>exact False.elim M
 .obtain⟨qs,q1,q2⟩:=yV p1 (dx.mono y).zip;obtain⟨q3,q4⟩:=Iq q2;obtain⟨R',r'⟩:=R.newOw (o:=.lst (j.map λp:Int×V=>p.2)) (d:=.list (qs.map λp:Int×D=>p.2)) hn<|show DaAll X.K c _ _ from q4;refine kk _ _ c _ a (sb1.trans y) R' r'<|qe qs q1 ?_;have:(qs.map (·.1)).Pairwise (·<=·):=by
   rw[q3,J3];exact Y
  rw[J3]at this;exact this
end L3
namespace L2
theorem uu(l:Eb)(items:Zi Bb)(n:Nat)(b:Zi (Yi Bb))(k:Int)(t:Tok)(a:k=1):Qi (Builtin.«tuple.__mul__» ⟨[.ref l,.int k t],[]⟩) (λ_ R s=>s.heap.get? l=O {cls:=.type "tuple",dict:=U,data:=.seq items n,slots:=b}/\R (.ok<|.ret<|.ref l) s):=
 .of_wp λprog w A R s h=>by
  obtain⟨e,g,d,i,os⟩:=s;obtain⟨hl,h⟩:=h;have c:(Uo (k < -2 ^ 63)||decide (k ≥ 2 ^ 63))=false:=by subst a;decide
  have j:(items.isEmpty||k==1)=true:=by subst a;simp
  clear a
  wp_walk
  refine Ge (Qb<|by rw[c];exact X0) ?_
  wp_walk
  exact⟨_,Z,h⟩
def wu:R2:=λx y H Q=>∃l a,x=.ref l/\y=.int 1/\H l=O (.tup a)/\Q (.ref l) H
theorem SE:OpR X (Rc .Mult) wu:=by
 intro gb s σ H x y v u Q I i j h;obtain⟨l,k,rfl,rfl,B,q⟩:=h;cases i;obtain⟨t,rfl⟩:=j;obtain⟨z,its,r,⟨C,G,a,b⟩,e,c,m,d,dn⟩:=(show ObjOk X.prog X.w H s.heap l (.tup k) from I.hok l _ B);simp only at c d dn;subst c d dn;refine Zd (T:="tuple") (U:="int") (by decide) ⟨_,e,Z⟩ (λs'=>Ue s' 1 t) KU PySem.F.fills_int_mul PySem.F.slot_int_rmul rj PySem.F.slot_int_index.lookup
  (Zc PySem.F.slot_int_rmul (Ue s 1 t) PySem.F.entry_int_rmul (PySem.F.args_int_rmul_2 _ _) (CW 1 t l its.toArray m b)
    ⟨e,Z,⟨_,e,Z⟩,Zc PySem.F.slot_tuple_mul ⟨_,e,Z⟩ PySem.F.entry_tuple_mul (PySem.F.args_tuple_mul_2 _ _) (uu l its.toArray m b 1 t Z) ⟨e,?_⟩⟩);exact⟨.ref l,H,I,Z,q⟩
theorem VG:OpR X (Rc .Mult) (L3.rAny Py wu):=by
 intro gb s σ H x y v u Q I a b h;rcases h with h|h
 .exact AE gb s σ H x y v u Q I a b h
 .exact SE gb s σ H x y v u Q I a b h
end L2
namespace L3
open L2
noncomputable def sS:D->D->(Sl->Prop)->Prop
 | .tuple a,.int k,Q=>a≠[]/\1<=k/\k<2 ^ 63/\a.length*k.toNat<=sizeLine/\Q (.fz<|.tuple (O1 k.toNat a).flatten)
 |_,_,_=>Al
theorem XG{K:Fg}:ZX K (VY<|rAny Py wu) (o2 sS):=uF λG F σ H ρ x y d e Q P R j l w k=>by
 cases d<;>first|exact w.elim|(cases e<;>first|exact w.elim|skip)
 rename_i c n;obtain⟨m,Y,q,t,w⟩:=w;cases l.int;obtain⟨a,us,rfl,v,i,b⟩:=j.tuple R.sub;have hl:=b.length;by_cases B:n=1
 .subst B;have e:(O1 (1:Int).toNat c).flatten=c:=by simp
  rw[e]at w;exact .inr ⟨a,us,Z,Z,i,k _ H F (.fz _) (Sub.refl _) R (Da.tup v b) w⟩
 .refine .inl ⟨a,n,us,Z,Z,i,λz=>m (by rw[z]at hl;exact k8.mp hl.symm),by omega,q,by rw[hl];exact t,λp C=>?_⟩;obtain⟨I,L,M⟩:=R.newTup C<|b.rep n.toNat;exact k _ _ _ (.fz _) I L M w
end L3
namespace L2
def uL:R2:=λx y H Q=>∃(d e b:Eb) (i:Nat) (a:List (Ql×Eb×V)) (k:Ql) (c:Eb) (v:V),x=.ref d/\y=.ref b/\H d=O (JZ hL e i a)/\(∀z∈a,H z.2.1=O (.tup<|z.1.map V.int))/\H b=O (.tup<|k.map V.int)/\(k,c,v)∈a/\Q v H
theorem UE{o:Vb}(hu:X.A.units+6<Oc)(ho:PE X o td)(hi:PE X i ty)(hs:Rw i):PE X (.Subscript o i pos) (CI uL td ty):=by
 intro gb s σ H Q I h;refine Mz PySem.F.slot_dict_getitem.lookup hs<|xZ (ho gb s σ H _ I h) λu s1 ⟨x,H1,I1,rx,q1⟩=>xZ (hi gb s1 σ H1 _ I1 q1) λiv l ⟨y,m,t,ry,q2⟩=>?_;obtain⟨d,d',b,ep,xs,k,c,v,ex,ey,hd,hk,B,hm,q⟩:=q2;subst ex ey;obtain rfl:u=K4 d:=rx;obtain rfl:iv=K4 b:=ry;obtain⟨G,L,es,C,M,P,e3,e4,hz,dg,_,_⟩:=ext_at t hd;have a:∀{k:Ql}{b:Eb},m b=O (.tup<|k.map V.int)->(Je<|Yd X.prog X.w).is l.heap k b:=λ{k b} B=>by obtain⟨_,its,r,o,h1,h2,n,h3,_⟩:=(show ObjOk X.prog X.w m l.heap b (.tup<|k.map V.int) from t.hok _ _ B);exact⟨o,its.toArray,n,h1,h2,h3,by simpa using DW r⟩
 refine⟨⟨L,M,P.1⟩,?_⟩;obtain⟨j,hj⟩:=m7.mp hm;obtain⟨⟨k',b',w'⟩,hv,e,R,r3⟩:=tj C hj;have e:k=k':=e;subst e;have Y:(G.map (·.1)).Nodup:=by rw[CJ C];exact dg
 have cf:∀x∈G,(Je<|Yd X.prog X.w).is l.heap x.1 x.2.1:=λx hx=>by obtain⟨x',ye,e,R,_⟩:=EW C x hx;have:=a<|hk x' ye;rw[e,R]at this;exact this
 exact wpAny_getItem_heap (knd:=Je<|Yd X.prog X.w) (tupleKind_room_in1<|show X.A.units+1<Oc by exact R0 (Q0 (i5 _ _) _) hu) (a B) ⟨L,es,ep,M,P,e3,e4,cf,Y⟩ (atKey_of_get Y hv) ⟨v,m,t.tok _,r3,q⟩
end L2
namespace L3
open L2
noncomputable def xu:D->D->(Sl->Prop)->Prop
 | .dict [(.bool Um,.list L)],.tuple b,Q=>∃(a:List (Ql×D)) (k:Ql) (d:D),L=a.map (λp=>.tuple [tI p.1,p.2])/\b=k.map n0/\(k,d)∈a/\Q (.fz d)
 |_,_,_=>Al
theorem DaPd.has{K:Fg}(h:DaPd K F a ps)(z:(k,d)∈ps):∃b v,(k,b,v)∈a/\Da K F v d:=by
 induction a generalizing ps with
 |nil=>cases h;cases z
 |cons x a c =>
  cases h with
  |cons e h t =>
   rcases T0.mp z with q|q
   .cases q;exact⟨_,_,u0,h⟩
   .obtain⟨b,v,i,j⟩:=c t q;exact⟨b,v,i0 _ i,j⟩
theorem VE{K:Fg}:ZX K (VY uL) (o2 xu):=uF λG F σ H ρ x y d e Q Qd R j l w k=>by
 unfold xu at w;split at w
 rotate_left
 .exact w.elim
 rename_i L ds w;obtain⟨m,kk,q,a,rfl,B,w⟩:=w;obtain⟨b,C,I,ys,M,rfl,P,t,Y⟩:=nS R.sub j;have e3:m=M:=eO (by unfold wG;rw[<-a,Y]);subst e3;obtain⟨c,us,rfl,hc1,i,hd⟩:=l.tuple R.sub;rw[hd.intsV]at i;obtain⟨b0,v,hv,dv⟩:=t.has B;exact⟨b,C,c,I,ys,kk,b0,v,Z,Z,P,λz hz=>R.sub _ _<|t.at z hz,i,hv,k _ _ F (.fz q) (Sub.refl _) R dv w⟩
section
variable {K:Fg}{e1 e2:Vb}{a b:AD}{pos:Pos}
theorem pO(c:X.A.units+6<Oc)(d:WE X e1 (uX K a))(e:WE X e2 (uX K b))(i:Rw e2:=by exact λ_ _=>rfl):WE X (.Subscript e1 e2 pos) (lift K<|TK [a,b]<|o2 xu):=⟨YO VE<|UE c d.h e.h i⟩
end
section
variable {K:Fg}{e e1 e2:Vb}{es:Bl}{a b:AD}{as:List AD}{td te:TD}{tc:ZW}{t:gY}{p pos:Pos}{x y:Str}
theorem xX:WE X (.Constant (.int i) k pos) (uX K<|.inr<|dC<|.int i):=wx UX
theorem KZ(i:Nat)(c:WA X es (MX<|as.map<|uX K))(hN:X.N[i]?=O x:=by rfl)(d:xI X.env.scope x:=by first|exact Or.inl rfl|exact Or.inr (Or.inl rfl)|exact Or.inr<|Or.inr rfl)(hd:(x==("__debug__":Str))=false:=by decide)(j:(x==("__classdict__":Str))=false:=by decide):WA X (.Name x pos::es) (MX<|(Sum.inl i::as).map<|uX K):=QV (wn i hN d hd j) c
theorem RX(i:Nat)(hN:X.N[i]?=O x:=by rfl)(c:xI X.env.scope x:=by first|exact Or.inl rfl|exact Or.inr (Or.inl rfl)|exact Or.inr<|Or.inr rfl)(hd:(x==("__debug__":Str))=false:=by decide)(d:(x==("__classdict__":Str))=false:=by decide):WA X [.Name x pos] (MX<|[Sum.inl i].map (uX K)):=QV (wn i hN c hd d) HZ
theorem yX(h:WE X e (lift K td))(c:WA X es (MX<|as.map<|uX K))(d:NX e=true:=by rfl):WA X (e::es) (MX<|(Sum.inr td::as).map<|uX K):=QV (wx h) c d
theorem rX(h:WE X e (lift K td))(c:NX e=true:=by rfl):WA X [e] (MX<|[Sum.inr td].map (uX K)):=QV (wx h) HZ c
theorem XE{k:Nat}(c:Room k X.A)(d:WE X e1 (uX K a))(i:WE X e2 (uX K b))(j:X.K=K:=by rfl):WT X (.Compare e1 [.Eq] [e2] pos) (LX K<|OF<|TK [a,b]<|o2 LA):=pJ uU (dW j c.units) d i
theorem Ek{k:Nat}(c:Room k X.A)(d:WE X e1 (uX K a))(i:WE X e2 (uX K b))(j:X.K=K:=by rfl):WT X (.Compare e1 [.NotEq] [e2] pos) (LX K<|OF<|TK [a,b]<|o2 MA):=pJ tR (xN j c.units) d i
theorem VJ(c:X.mg "len"=U)(d:WA X (e::es) (MX<|as.map<|uX K))(i:X.K=K:=by rfl)(j:Gl X "len":=by rfl)(k:NX e=true:=by rfl)(l:es.all NX=true:=by rfl):WE X (.Call (.Name "len" p) (e::es) [] pos) (lift K<|TK as<|o1 cR):=eZ bN (Jx i) c boot_len d j (by decide) (by decide) k l
theorem Gk(c:X.mg "tuple"=U)(d:WA X (e::es) (MX<|as.map<|uX K))(i:X.K=K:=by rfl)(j:Gl X "tuple":=by rfl)(k:NX e=true:=by rfl)(l:es.all NX=true:=by rfl):WE X (.Call (.Name "tuple" p) (e::es) [] pos) (lift K<|TK as<|o1 Dv):=yJ Fv (LF i) c Yh d j (by decide) (by decide) k l
theorem vZ(h:WE X e (lift K td)):WSs X [.Return (O e) pos] (EX K<|qC td):=iZ<|AR h
theorem Hk(i:Nat)(hN:X.N[i]?=O x:=by rfl)(c:xI X.env.scope x:=by first|exact Or.inl rfl|exact Or.inr (Or.inl rfl)|exact Or.inr<|Or.inr rfl)(hd:(x==("__debug__":Str))=false:=by decide)(d:(x==("__classdict__":Str))=false:=by decide):WSs X [.Return (O<|.Name x p) pos] (EX K<|QF i):=iZ<|DN<|wn i hN c hd d
theorem qZ(i:Nat)(hN:Uo X.N.Nodup=true:=by kernel_rfl)(hi:X.N[i]?=O x:=by rfl)(hx:IB X.env.scope x:=by first|exact Or.inl rfl|exact Or.inr rfl)(c:X.fn x=Ul\/X.env.scope.names.lookup x=O .local:=by first|exact .inl rfl|exact .inr rfl|assumption):WG X (.Name x pos) (oZ K<|Vk i):=CN (Ob hN) hi hx c
theorem fZ(i:Nat)(c:WE X e (lift K td))(hN:Uo X.N.Nodup=true:=by kernel_rfl)(hi:X.N[i]?=O x:=by rfl)(hx:IB X.env.scope x:=by first|exact Or.inl rfl|exact Or.inr rfl)(d:HY e=true:=by rfl)(j:X.fn x=Ul\/X.env.scope.names.lookup x=O .local:=by first|exact .inl rfl|exact .inr rfl|assumption):WS X (.Assign [.Name x md] e pos) (EX K<|Kx i td):=DR (Ob hN) hi hx c d j
section
variable {ti:RD}{g:UK}
theorem yu(own:Us)(fr:Bm)(hi:WI X tg cc (NZ K ti))(c:∀C s H ex,WG (IX X own fr sc C s H ex) tg<|oZ K g)(d:∀C s H ex,WE (IX X own fr sc C s H ex) we<|lift K te)(S:ZY X.env.scope X.N fr sc=true:=by kernel_rfl)(i:X.calm=true:=by rfl)(j:fr.Nodup:=by decide)(k:lY cc=true:=by rfl):WE X (.ListComp we [⟨tg,cc,[],0⟩] sc pos) (lift K<|mY ti own fr g PF te):=wq i S hi c (λ_ _ _ _=>wT) d j k
theorem LK(own:Us)(fr:Bm)(hi:WI X (.Name x p) cc (NZ K ti))(c:∀C s H ex,WE (IX X own fr sc C s H ex) we<|lift K te)(d:∀C s H ex,WG (IX X own fr sc C s H ex) (.Name x p) (oZ K<|Vk 0):=by exact λ_ _ _ _=>qZ 0)(S:ZY X.env.scope X.N fr sc=true:=by kernel_rfl)(i:X.calm=true:=by rfl)(j:fr.Nodup:=by decide)(k:lY cc=true:=by rfl):WE X (.ListComp we [⟨.Name x p,cc,[],0⟩] sc pos) (lift K<|mY ti own fr (Vk 0) PF te):=wq i S hi d (λ_ _ _ _=>wT) c j k
theorem qO(own:Us)(fr:Bm)(hi:WI X (.Name x p) cc (NZ K ti))(c:∀C s H ex,WIf (IX X own fr sc C s H ex) ff<|LX K tc)(d:∀C s H ex,WE (IX X own fr sc C s H ex) we<|lift K te)(i:∀C s H ex,WG (IX X own fr sc C s H ex) (.Name x p) (oZ K<|Vk 0):=by exact λ_ _ _ _=>qZ 0)(S:ZY X.env.scope X.N fr sc=true:=by kernel_rfl)(j:X.calm=true:=by rfl)(k:fr.Nodup:=by decide)(l:lY cc=true:=by rfl):WE X (.ListComp we [⟨.Name x p,cc,ff,0⟩] sc pos) (lift K<|mY ti own fr (Vk 0) tc te):=wq j S hi i c d k l
theorem nK{body:List Be}(ks:Bm)(hi:WI X tg cc (NZ K ti))(c:WG X tg (oZ K g))(d:WSs X body (EX K t))(hx:X.xe=(λ_ _=>Al):=by rfl)(i:X.calm=true:=by rfl)(j:lY cc=true:=by rfl):WS X (.For tg cc body [] pos) (EX K<|aD ks ti g t):=BR ks (hx ▸ PassesOwn.never) i hi c d j
end
theorem HX(c:WE X e1 (uX K a))(d:WE X e2 (uX K b))(i:X.K=K:=by rfl)(j:nG e2:=by exact λ_ _=>rfl):WE X (.Subscript e1 e2 pos) (lift K<|TK [a,b]<|o2 EA):=QA i c d j
theorem JX(c:WE X e1 (uX K a))(d:WE X e2 (uX K b)):WE X (.BinOp e1 .Add e2 pos) (lift K<|TK [a,b]<|o2 aR):=w_bin ZM QC c d
theorem xD(c:WE X e1 (uX K a))(d:WE X e2 (uX K b)):WE X (.BinOp e1 .Mult e2 pos) (lift K<|TK [a,b]<|o2 bR):=w_bin aN RC c d
theorem YG(c:WE X e1 (uX K a))(d:WE X e2 (uX K b)):WE X (.BinOp e1 .Sub e2 pos) (lift K<|TK [a,b]<|o2<|CB λi j=>.int<|i-j):=w_bin wN kM c d
end
end L3
namespace R16
open L2 L3
abbrev Vl(K:Fg)(x:Str)(st:Stmt)(f:Addr)(fd:FuncData):=Fun K x x st f fd
noncomputable abbrev Zt(d:D):Yi Sl:=O<|.fz d
noncomputable abbrev Yt(d:D):Yi Sl:=O<|.ow d
noncomputable def top(i:Nat):Be:=PySem.Challenge.pw_boxsums_k16_what_is_no_halves.main.body.getD i<|.Pass ⟨0,0,0,0⟩
structure Txt(mg:Str->Yi Bb):Prop where
 Qm:mg "len"=U
 Qn:mg "abs"=U
 Qo:mg "max"=U
 Qr:mg "min"=U
 Qs:mg "zip"=U
 Qt:mg "int"=U
 Xl:mg "bool"=U
 Xm:mg "range"=U
 Xn:mg "repr"=U
 Xo:mg "sorted"=U
 Xp:mg "isinstance"=U
 Xr:mg "list"=U
 Xs:mg "tuple"=U
 Xt:mg "all"=U
 Zl:mg "sum"=U
 Zm:mg "dict"=U
 Zn:mg "enumerate"=U
 Zo:mg "str"=U
section
variable {P:Cc}{w:Wb}{K:B0}{mg:Str->Yi Bb}{base:Dc}
noncomputable abbrev OJ(ns:Ql)(k l:Int):Fb:=.list [SK ns,.int k,.int l]
def uS:Con:=λa Q=>∃ns:Ql,a=[.fz<|SK ns]/\∀o,Q (.ow<|OJ ns 0 0) o
theorem rO(F:Vl K "_law_pen" (top 26) f fd):FnOk P w K mg base GJ 1 f fd ["_law_script"] (tX K uS):=by
 have S:FnScope ["_law_script"] ["_law_script"] (sX<|top 26):={};refine SA F S (λc A outer s H E d=>vZ<|aZ<|yX (wv 0)<|yX UX<|rX UX) ?_ ?_
 .rintro a b ⟨ns,rfl,_⟩;rfl
 .rintro a b ⟨ns,rfl,q⟩;exact⟨wW Z,q _⟩
def yD:Con:=λa Q=>∃(ns:Ql) (k l m:Int),a=[.io<|OJ ns k l,.fz<|.int m]/\0<=k/\0<=l/\0<m/\m<1000000 /\
 ∀(r b c:Int) (o:Ev),0<=r->r<m->0<=b->0<=c->Q (.fz<|.int r) (O (.io<|OJ ns b c)::o)
theorem YE(F:Vl K "_law_take" (top 27) f fd)(T:Txt mg):FnOk P w K mg base GJ 1 f fd ["_law_pen_here","_law_most"] (tX K yD):=by
 have S:FnScope ["_law_pen_here","_law_most","_law_found","_law_at","_law_cell","_law_number_here"] ["_law_pen_here","_law_most"] (sX<|top 27):={};refine PY F S (λI A outer s H E L=>qX (BJ (pJ YF CF (wx<|HX (wn 0) xX) xX) (qX (fZ 2<|w_bin cW YY (wx<|HX (wn 0) xX)<|wn 1)<|qX (EN (w_bin DK vK (wx<|HX (wn 0) xX)<|wn 1) (wn 0) xX)<|Hk 2) MZ)<|qX (fZ 3<|HX (wn 0) xX)<|qX (EN (JX (wn 3) xX) (wn 0) xX)<|qX (fZ 4 UX)<|qX (BJ (pJ YF CF (wx<|VJ T.Qm<|rX<|HX (wn 0) xX) xX) (iZ<|fZ 4<|HX (wx<|HX (wn 0) xX)<|wx<|w_bin cW YY (wn 3)<|wx<|VJ T.Qm<|rX<|HX (wn 0) xX) MZ)<|qX (BJ (BN<|zR (pJ tU sV (wn 3)<|wx<|VJ T.Qm<|rX<|HX (wn 0) xX)<|AN<|pJ sR pP (wx<|eZ lq ZV T.Qn boot_abs<|RX 4)<|wx<|w_bin Sv zw xX xX) (qX (EN (w_bin DK vK (wx<|eZ lq ZV T.Qn boot_abs<|RX 4)<|wn 1) (wn 0) xX)<|vZ<|w_bin cW YY (wx<|eZ lq ZV T.Qn boot_abs<|RX 4)<|wn 1) MZ)<|qX (fZ 5<|w_bin cW YY (wx<|xD (wx<|JX (wx<|JX (wx<|w_bin cW YY (wn 4) xX)<|wx<|xD xX<|wn 3) xX) xX) xX)<|qX (fZ 5<|w_bin cW YY (wx<|JX (wx<|JX (wx<|xD (wn 5)<|wn 5)<|wx<|xD xX<|wn 5)<|wn 3) xX)<|vZ<|w_bin cW YY (wx<|w_bin DK vK (wn 5) xX)<|wn 1) ?_;rintro t M ⟨ns,k,l,m,rfl,v,hl,b,R,q⟩;have a:∀x:Int,0<=x % m/\x % m<m:=λx=>⟨Int.emod_nonneg _<|by omega,Int.emod_lt_of_pos _ b⟩;refine⟨_,Z,?_⟩;refine kJ (λy=>?_)<|λy=>?_
 .refine⟨_,Z,b,_,Z,⟨b,by omega⟩,2,Z,?_⟩;exact q _ _ _ _ (a _).1 (a _).2 v (Int.ediv_nonneg hl<|by omega)
 refine⟨_,Z,?_⟩;refine⟨1,Z,?_⟩;refine⟨_,Z,ns,Z,?_⟩;have B:∀c:Int,0<=(if c<0 then -c else c):=λc=>by split<;>omega
 have pos:∀n:Nat,0<n->0<=k % (n:Int)/\k % (n:Int)<n:=λn Y=>⟨Int.emod_nonneg _<|by omega,Int.emod_lt_of_pos _<|by omega⟩;refine kJ (λd=>?_)<|λd=>?_
 .have d:0<ns.length:=by have:(0:Int)<(ns.length:Int):=Ob d;omega
  obtain⟨j,C⟩:=J5 (pos _ d).1;have i:j<ns.length:=by have:=(pos _ d).2;omega
  refine⟨_,Z,_,Z,ns,Z,by show (0:Int)<(ns.length:Int);omega,ns,ns[j],Z,by rw[C];exact QZ<|M0 i,?_⟩;refine⟨_,Z,ns,Z,?_⟩;refine kJ (λe=>?_)<|λe=>?_
  .refine⟨⟨by decide,by decide,by decide⟩,?_⟩;refine kJ (λG=>?_)<|λG=>?_
   .refine⟨⟨b,by omega⟩,2,Z,b,?_⟩;exact q _ _ _ _ (a _).1 (a _).2 (by omega) (Int.ediv_nonneg (B _)<|by omega)
   .refine⟨by show (0:Int)<2147483587;decide,.inl ⟨by decide,by decide⟩,.inr ⟨by decide,by decide⟩,by show (0:Int)<2147483647;decide,?_⟩;refine⟨.inl ⟨by omega,by omega⟩,.inl ⟨by decide,by decide⟩,by show (0:Int)<2147483629;decide,?_⟩;exact⟨⟨by decide,by decide⟩,b,q _ _ _ _ (a _).1 (a _).2 (by omega) hl⟩
  .refine⟨by show (0:Int)<2147483587;decide,.inl ⟨by decide,by decide⟩,.inr ⟨by decide,by decide⟩,by show (0:Int)<2147483647;decide,?_⟩;refine⟨.inl ⟨by omega,by omega⟩,.inl ⟨by decide,by decide⟩,by show (0:Int)<2147483629;decide,?_⟩;exact⟨⟨by decide,by decide⟩,b,q _ _ _ _ (a _).1 (a _).2 (by omega) hl⟩
 .refine⟨_,Z,ns,Z,?_⟩;refine kJ (λe=>?_)<|λe=>?_
  .exfalso;have e:k<(ns.length:Int):=Ob e;refine d<|Sb ?_;omega
  .refine⟨by show (0:Int)<2147483587;decide,.inl ⟨by decide,by decide⟩,.inr ⟨by decide,by decide⟩,by show (0:Int)<2147483647;decide,?_⟩;refine⟨.inl ⟨by omega,by omega⟩,.inl ⟨by decide,by decide⟩,by show (0:Int)<2147483629;decide,?_⟩;exact⟨⟨by decide,by decide⟩,b,q _ _ _ _ (a _).1 (a _).2 (by omega) hl⟩
open L2 L3
noncomputable def B_(p:Int×Int)(f:(q:Int×Int)->(q.2-q.1).toNat<(p.2-p.1).toNat->List Ql):List Ql:=[p.1,p.2]::if h:p.1<p.2 then f ((p.1+p.2) / 2+1,p.2) (d_ Z h)++f (p.1,(p.1+p.2) / 2) (ZT Z h) else []
noncomputable def hl(lo hi:Int):List Ql:=(measure λp:Int×Int=>(p.2-p.1).toNat).wf.fix B_ (lo,hi)
theorem Dj(lo hi:Int):hl lo hi=[lo,hi]::if h:lo<hi then hl ((lo+hi) / 2+1) hi++hl lo ((lo+hi) / 2) else []:=WellFounded.fix_eq _ B_ (lo,hi)
theorem UU{lo hi:Int}(h:lo<hi):hl lo hi=[lo,hi]::(hl ((lo+hi) / 2+1) hi++hl lo ((lo+hi) / 2)):=by rw[Dj,dif_pos h]
theorem VU{lo hi:Int}(h:¬lo<hi):hl lo hi=[[lo,hi]]:=by rw[Dj,dif_neg h]
theorem Wq:∀(n:Nat) (lo hi:Int),(hi-lo).toNat=n->lo<=hi->((hl lo hi).length:Int)=2*(hi-lo+1)-1:=by
 intro n;induction n using Z7 with
 |_ n a =>
  intro lo hi e h;by_cases b:lo<hi
  .rw[UU b,U1,N0];have c:=a _ (by omega) ((lo+hi) / 2+1) hi Z (by omega);have d:=a _ (by omega) lo ((lo+hi) / 2) Z (by omega);omega
  .rw[VU b];simp;omega
noncomputable abbrev nJ(p:Int×Int):Fb:=.tuple [.int p.1,.int p.2]
noncomputable abbrev rwD(r:Ql):Fb:=.tuple<|r.map n0
noncomputable def vJ(a:Bn):List Ql:=a.reverse.flatMap λp=>hl p.1 p.2
theorem eG(a:Bn)(p:Int×Int):vJ (a++[p])=hl p.1 p.2++vJ a:=by simp[vJ]
theorem sO(a b:Int):1<=(hl a b).length:=by rw[Dj];simp
theorem zD(a:Bn):a.length<=(vJ a).length:=by
 induction a with
 |nil=>simp
 |cons p a b =>
  have e:vJ (p::a)=vJ a++hl p.1 p.2:=by simp[vJ]
  have:=sO p.1 p.2;rw[e,N0,U1];omega
theorem vL:∀(n:Nat) (lo hi:Int),(hi-lo).toNat=n->∀r∈hl lo hi,r≠[]:=by
 intro n;induction n using Z7 with
 |_ n b =>
  intro lo hi e r a;by_cases c:lo<hi
  .rw[UU c]at a;rcases T0.mp a with rfl|a
   .simp
   .rcases W0.mp a with a|a
    .exact b _ (by omega) _ _ Z r a
    .exact b _ (by omega) _ _ Z r a
  .rw[VU c]at a;simp at a;subst a;simp
theorem fG:∀(n:Nat) (lo hi:Int),(hi-lo).toNat=n->lo<=hi->∀r∈hl lo hi,∃a b:Int,r=[a,b]/\lo<=a/\a<=b/\b<=hi:=by
 intro n;induction n using Z7 with
 |_ n i =>
  intro lo hi e h r c;by_cases j:lo<hi
  .rw[UU j]at c;rcases T0.mp c with rfl|c
   .exact⟨lo,hi,Z,by omega,by omega,by omega⟩
   .rcases W0.mp c with c|c
    .obtain⟨a,b,e,k,d,l⟩:=i _ (by omega) _ _ Z (by omega) r c;exact⟨a,b,e,by omega,d,by omega⟩
    .obtain⟨a,b,e,k,d,l⟩:=i _ (by omega) _ _ Z (by omega) r c;exact⟨a,b,e,by omega,d,by omega⟩
  .rw[VU j]at c;simp at c;subst c;exact⟨lo,hi,Z,by omega,by omega,by omega⟩
def tO:Con:=λc Q=>∃a b:Int,c=[.fz<|nJ (a,b)]/\0<=a/\0<=b/\a<=10000/\b<=10000/\∀o,Q (.ow<|.list [nJ (a,(a+b) / 2),nJ ((a+b) / 2+1,b)]) o
theorem uO(F:Vl K "two_halves" (top 11) f fd):FnOk P w K mg base GJ 1 f fd ["stretch"] (tX K tO):=by have S:FnScope ["stretch","middle"] ["stretch"] (sX<|top 11):={};refine PY F S (λd A outer s H E e=>qX (fZ 1<|w_bin DK vK (wx<|JX (wx<|HX (wn 0) xX)<|wx<|HX (wn 0) xX) xX)<|vZ<|aZ<|yX (vX<|yX (HX (wn 0) xX)<|rX<|wv 1)<|rX<|vX<|yX (JX (wn 1) xX)<|rX<|HX (wn 0) xX) ?_;rintro c i ⟨a,b,rfl,a0,j,k,l,q⟩;refine⟨_,Z,_,Z,⟨by decide,by decide⟩,?_⟩;refine⟨_,Z,_,Z,?_⟩;exact q _
variable (P w K mg base) in
structure CalsS:Prop where
 Zp:Cal P w K mg base 1 "two_halves" ["stretch"] (tX K tO)
def vS:Con:=λc Q=>∃n:Int,c=[.fz<|.int n]/\1<=n/\n<=1000/\∀(jb:List Ql) (o:Ev),jb.Perm (hl 0<|n-1)->jb.Pairwise (λa b=>HT.lexLt b a=Um)->Q (.ow<|.list<|jb.map rwD) o
theorem vO(F:Vl K "stretches" (top 12) f fd)(T:Txt mg)(C:CalsS P w K mg base):FnOk P w K mg base GJ 2 f fd ["side"] (tX K vS):=by
 have S:FnScope ["side","found","waiting","stretch"] ["side"] (sX<|top 12):={};refine PY F S (λfc A outer s H E B=>qX (fZ 1<|aZ HZ)<|qX (fZ 2<|aZ<|rX<|vX<|yX UX<|rX<|YG (wn 0) xX)<|qX (Zz PassesOwn.never (pJ YF CF (wx<|VJ T.Qm<|RX 2) xX)<|qX (fZ 3<|yR Jv Z PySem.F.slot_list_pop PySem.F.type_list_pop Mw<|wn 2)<|qX (ZZ<|xq CZ Z PySem.F.slot_list_append PySem.F.type_list_append AZ (wn 1)<|rX<|wv 3)<|iZ<|BJ (pJ tU sV (wx<|HX (wn 3) xX)<|wx<|HX (wn 3) xX) (iZ<|ZZ<|xq GY Z PySem.F.slot_list_extend PySem.F.type_list_extend DY (wn 2)<|rX<|EZ C.Zp B.m<|RX 3) MZ)<|vZ<|eZ kD (zV Z) T.Xo Bh<|RX 1) ?_;rintro v Qd ⟨n,rfl,n1,n2,q⟩;have ub:=Wq _ 0 (n-1) Z (by omega);refine⟨λm ρ=>∃(dn:List Ql) (i:Bn) (x:Yi Sl),ρ=[Zt<|.int n,Yt<|.list<|dn.map rwD,Yt<|.list<|i.map nJ,x]/\dn++vJ i=hl 0 (n-1)/\(∀p∈i,0<=p.1/\p.1<=p.2/\p.2<=1000)/\m=(vJ i).length/\(x=U\/∃d,x=Zt d),⟨_,[],[(0,n-1)],U,Z,by simp[vJ],by simp;omega,Z,.inl Z⟩,?_⟩;rintro m ρ ⟨dn,i,x,rfl,j,hw,rfl,hx⟩;rcases hx with rfl|⟨xd,rfl⟩;all_goals
  refine kJ (λh=>?_)<|λh=>?_
  .refine⟨λt=>∃G,G<(vJ i).length/\_,λt h=>h,?_⟩;obtain⟨c,p,rfl⟩:∃c p,i=c++[p]:=by
    rcases J8 i with e|⟨a,b,e⟩
    .subst e;simp at h
    .exact⟨a,b,by simpa using e⟩
   have I:((c++[p]).map nJ)[((c++[p]).map nJ).length-1]?=O (nJ p):=by simp
   have L:((c++[p]).map nJ).dropLast=c.map nJ:=by simp
   have y:(dn++[[p.1,p.2]]).map rwD=dn.map rwD++[nJ p]:=by rw[Q3];rfl
   have M:(c++[(p.1,(p.1+p.2) / 2),((p.1+p.2) / 2+1,p.2)]).map nJ=c.map nJ++[nJ (p.1,(p.1+p.2) / 2),nJ ((p.1+p.2) / 2+1,p.2)]:=by rw[Q3];rfl
   have R:=hw p (by simp);have l:∀p∈c,0<=p.1/\p.1<=p.2/\p.2<=1000:=λx hx=>hw x (by simp[hx]);rw[eG]at j ⊢;have hL:=Rb U4 j;rw[N0,N0]at hL;have mh:c.length<=(vJ c).length:=zD c;refine⟨_,I,?_⟩;rw[L];refine⟨by rw[j0];exact R0 (show dn.length<=1999 by omega)<|by decide,?_⟩;refine⟨_,Z,_,Z,kJ (λk=>?_)<|λk=>?_⟩
   .have k:p.1<p.2:=Ob k;refine⟨p.1,p.2,Z,by omega,by omega,by omega,by omega,λo=>?_⟩;refine⟨by rw[j0];exact q0 (show c.length+2<=3000 by omega)<|by decide,?_⟩;rw[UU k]at j hL ⊢;refine⟨(vJ<|c++[(p.1,(p.1+p.2) / 2),((p.1+p.2) / 2+1,p.2)]).length,?_,dn++[[p.1,p.2]],c++[(p.1,(p.1+p.2) / 2),((p.1+p.2) / 2+1,p.2)],_,by rw[y,M];rfl,?_,?_,Z,.inr ⟨_,Z⟩⟩
    .simp[vJ]
    .rw[<-j];simp[vJ]
    .intro x hx;simp only[W0,T0,List.not_mem_nil,or_false]at hx;rcases hx with hx|rfl|rfl
     .exact l x hx
     .exact⟨by omega,by show p.1<=(p.1+p.2) / 2;omega,by show (p.1+p.2) / 2<=1000;omega⟩
     .exact⟨by show 0<=(p.1+p.2) / 2+1;omega,by show (p.1+p.2) / 2+1<=p.2;omega,by show p.2<=1000;omega⟩
   .have k:¬p.1<p.2:=λz=>k<|Sb z;rw[VU k]at j hL ⊢;refine⟨(vJ c).length,by simp,dn++[[p.1,p.2]],c,_,by rw[y];rfl,?_,l,Z,.inr ⟨_,Z⟩⟩;rw[<-j];simp
  .have e:i=[]:=by
    cases i with
    |nil=>rfl
    |cons a b=>exact absurd (Sb<|by simp) h
   subst e;have j:dn=hl 0 (n-1):=by simpa [vJ]using j
   subst j;refine⟨hl 0<|n-1,Z,q0 (show _<=3000 by omega)<|by decide,vL _ _ _ Z,λjb Y r2=>?_⟩;exact q jb _ Y r2
theorem ZE(a:Bn):Nice 2 (.list<|a.map nJ):=.list λd hd=>by obtain⟨p,_,rfl⟩:=J0.mp hd;exact Nice.tup [p.1,p.2]
theorem wO(a:Bn):SeqAt.noMix (.list<|a.map nJ) (.list [])=true:=by cases a<;>simp[SeqAt.noMix,SeqAt.noMixAll]
theorem Ej(a:Bn):Kg (.list<|a.map nJ) (.list [])=Uo (a=[]):=by cases a<;>simp[Kg,Ih]
def wS:Con:=λc Q=>∃n:Int,c=[.fz<|.int n]/\1<=n/\n<=1000/\∀(jb:List Ql) (o:Ev),jb.Perm (hl 0<|n-1)->jb.Pairwise (λa b=>HT.lexLt b a=Um)->Q (.ow<|.list<|jb.map rwD) o
theorem aI(F:Vl K "_law_stretches" (top 30) f fd)(T:Txt mg):FnOk P w K mg base GJ 1 f fd ["_law_side"] (tX K wS):=by
 have S:FnScope ["_law_side","_law_found","_law_waiting","_law_low","_law_high"] ["_law_side"] (sX<|top 30):={};refine PY F S (λfc A outer s H E I=>qX (fZ 1<|aZ HZ)<|qX (fZ 2<|aZ<|rX<|vX<|yX UX<|rX<|YG (wn 0) xX)<|qX (Zz PassesOwn.never (Ek I (wn 2)<|wx<|aZ HZ)<|qX (yU (yR Jv Z PySem.F.slot_list_pop PySem.F.type_list_pop Mw<|wn 2)<|YJ Z rfl<|QX (qZ 3)<|QX (qZ 4) mJ)<|qX (ZZ<|xq CZ Z PySem.F.slot_list_append PySem.F.type_list_append AZ (wn 1)<|rX<|vX<|yX (wv 3)<|rX<|wv 4)<|iZ<|BJ (pJ tU sV (wn 3)<|wn 4) (qX (ZZ<|xq CZ Z PySem.F.slot_list_append PySem.F.type_list_append AZ (wn 2)<|rX<|vX<|yX (wv 3)<|rX<|w_bin DK vK (wx<|JX (wn 3)<|wn 4) xX)<|iZ<|ZZ<|xq CZ Z PySem.F.slot_list_append PySem.F.type_list_append AZ (wn 2)<|rX<|vX<|yX (JX (wx<|w_bin DK vK (wx<|JX (wn 3)<|wn 4) xX) xX)<|rX<|wv 4) MZ)<|vZ<|eZ kD (zV Z) T.Xo Bh<|RX 1) ?_;rintro B Qd ⟨n,rfl,n1,n2,q⟩;have ub:=Wq _ 0 (n-1) Z (by omega);refine⟨λm ρ=>∃(dn:List Ql) (i:Bn) (x y:Yi Sl),ρ=[Zt<|.int n,Yt<|.list<|dn.map rwD,Yt<|.list<|i.map nJ,x,y]/\dn++vJ i=hl 0 (n-1)/\(∀p∈i,0<=p.1/\p.1<=p.2/\p.2<=1000)/\m=(vJ i).length/\((x=U/\y=U)\/∃d e,x=Zt d/\y=Zt e),⟨_,[],[(0,n-1)],U,U,Z,by simp[vJ],by simp;omega,Z,.inl ⟨Z,Z⟩⟩,?_⟩;rintro m ρ ⟨dn,i,x,y,rfl,j,hw,rfl,hx⟩;have C:=ZE i;rcases hx with⟨rfl,rfl⟩|⟨xd,xe,rfl,rfl⟩;all_goals
  refine⟨C.p,Z,C.sh<|by decide,Z,wO i,?_⟩;refine kJ (λh=>?_)<|λh=>?_
  .refine⟨λt=>∃L,L<(vJ i).length/\_,λt h=>h,?_⟩;obtain⟨c,p,rfl⟩:∃c p,i=c++[p]:=by
    rcases J8 i with e|⟨a,b,e⟩
    .subst e;exact absurd h (by show ¬((!same (.list<|([]:Bn).map nJ) (.list []))=Ul);rw[Ej];decide)
    .exact⟨a,b,by simpa using e⟩
   have M:((c++[p]).map nJ)[((c++[p]).map nJ).length-1]?=O (nJ p):=by simp
   have R:((c++[p]).map nJ).dropLast=c.map nJ:=by simp
   have G:(dn++[[p.1,p.2]]).map rwD=dn.map rwD++[nJ p]:=by rw[Q3];rfl
   have Y:(c++[(p.1,(p.1+p.2) / 2),((p.1+p.2) / 2+1,p.2)]).map nJ=c.map nJ++[nJ (p.1,(p.1+p.2) / 2),nJ ((p.1+p.2) / 2+1,p.2)]:=by rw[Q3];rfl
   have v:(c++[(p.1,(p.1+p.2) / 2),((p.1+p.2) / 2+1,p.2)]).map nJ=c.map nJ++[nJ (p.1,(p.1+p.2) / 2)]++[nJ ((p.1+p.2) / 2+1,p.2)]:=by rw[Y];simp
   have hpp:=hw p (by simp);have l:∀p∈c,0<=p.1/\p.1<=p.2/\p.2<=1000:=λx hx=>hw x (by simp[hx]);rw[eG]at j ⊢;have hL:=Rb U4 j;rw[N0,N0]at hL;have mh:c.length<=(vJ c).length:=zD c;refine⟨_,M,?_⟩;rw[R];refine⟨Z,?_⟩;refine⟨by rw[j0];exact R0 (show dn.length<=1999 by omega)<|by decide,?_⟩;refine kJ (λk=>?_)<|λk=>?_
   .have k:p.1<p.2:=Ob k;refine⟨⟨by decide,by decide⟩,by rw[j0];exact R0 (show c.length<=3000 by omega)<|by decide,?_⟩;refine⟨⟨by decide,by decide⟩,by rw[N0,j0];exact R0 (show c.length+1<=3000 by omega)<|by decide,?_⟩;rw[UU k]at j hL ⊢;refine⟨(vJ<|c++[(p.1,(p.1+p.2) / 2),((p.1+p.2) / 2+1,p.2)]).length,?_,dn++[[p.1,p.2]],c++[(p.1,(p.1+p.2) / 2),((p.1+p.2) / 2+1,p.2)],_,_,by rw[G,v];rfl,?_,?_,Z,.inr ⟨_,_,Z,Z⟩⟩
    .simp[vJ]
    .rw[<-j];simp[vJ]
    .intro x hx;simp only[W0,T0,List.not_mem_nil,or_false]at hx;rcases hx with hx|rfl|rfl
     .exact l x hx
     .exact⟨by omega,by show p.1<=(p.1+p.2) / 2;omega,by show (p.1+p.2) / 2<=1000;omega⟩
     .exact⟨by show 0<=(p.1+p.2) / 2+1;omega,by show (p.1+p.2) / 2+1<=p.2;omega,by show p.2<=1000;omega⟩
   .have k:¬p.1<p.2:=λz=>k<|Sb z;rw[VU k]at j hL ⊢;refine⟨(vJ c).length,by simp,dn++[[p.1,p.2]],c,_,_,by rw[G];rfl,?_,l,Z,.inr ⟨_,_,Z,Z⟩⟩;rw[<-j];simp
  .have e:i=[]:=by
    have h:¬((!same (.list<|i.map nJ) (.list []))=Ul):=h;rw[Ej]at h;simpa using h
   subst e;have j:dn=hl 0 (n-1):=by simpa [vJ]using j
   subst j;refine⟨hl 0<|n-1,Z,q0 (show _<=3000 by omega)<|by decide,vL _ _ _ Z,λjb r1 r2=>?_⟩;exact q jb _ r1 r2
noncomputable def dZ:Ql->Int
 |[]=>1
 |a::r=>a*dZ r
theorem SJ:∀{l:Ql},(∀c∈l,1<=c)->1<=dZ l
 |[],_=>i8 _
 |a::r,h=>by have b:=h a u0;have d:=SJ (l:=r) λc e=>h c<|i0 _ e;show 1<=a*dZ r;have:=B7 b d (by decide) (by omega);omega
structure Sd(sd:Ql):Prop where
 l1:1<=sd.length
 l3:sd.length<=3
 p:∀c∈sd,1<=c
 m:dZ sd<=120
noncomputable abbrev wX(p:Ql):Fb:=.tuple<|p.map n0
noncomputable def cZ{α:Type}(acc:List (List α)):List (List α)->List (List α)
 |[]=>acc
 |c::cs=>cZ (acc.flatMap λp=>c.map λx=>p++[x]) cs
noncomputable def lenP{α:Type}:List (List α)->Nat
 |[]=>1
 |c::a=>c.length*lenP a
theorem GW{α:Type}:∀{cs:List (List α)},(∀c∈cs,c≠[])->1<=lenP cs
 |[],_=>A0 _
 |c::cs,h=>by have a:1<=c.length:=List.length_pos_iff.mpr<|h c u0;have b:=GW (cs:=cs) λd hd=>h d<|i0 _ hd;exact Nat.mul_le_mul a b
theorem HW(c:List α):∀a:List (List α),(a.flatMap λp=>c.map λx=>p++[x]).length=a.length*c.length
 |[]=>by simp
 |p::a=>by rw[L5,N0,HW c a,j0,U1,n8,k9]
theorem SZ:∀(b a:List (List α)),(cZ a b).length=a.length*lenP b
 |[],a=>by simp[cZ,lenP]
 |c::b,a=>by rw[cZ,SZ b,HW,lenP,WQ]
noncomputable def rng(s:Int):Ql:=(S2 s.toNat).map λ(n:Nat)=>(n:Int)
theorem Xq(s:Int):SX 0 s.toNat=(rng s).map n0:=by simp[SX,rng,O0,Function.comp_def]
theorem IW(s:Int):(rng s).length=s.toNat:=by simp[rng]
noncomputable def DJ(sd:Ql):List Ql:=cZ [[]]<|sd.map rng
theorem WU:∀{sd:Ql},(∀c∈sd,1<=c)->(lenP (sd.map rng):Int)=dZ sd
 |[],_=>rfl
 |a::r,h=>by have e:=h a u0;have b:=WU (sd:=r) λc d=>h c<|i0 _ d;show ((((rng a).length*lenP (r.map rng):Nat)):Int)=a*dZ r;rw[IW,xQ,b];congr 1;omega
theorem IY(a b:Ql):DG (a.map n0) (b.map n0)=(a.zip b).map λp=>J1 [.int p.1,.int p.2]:=by rw[DG,List.zip_map,O0];rfl
noncomputable def aJ(a b:Int):Ql:=(S2 (b+1-a).toNat).map λ(n:Nat)=>a+(n:Int)
theorem wL(a b:Int):SX a (b+1-a).toNat=(aJ a b).map n0:=by simp[SX,aJ,O0,Function.comp_def]
theorem Ik(s:Int):aJ 0 (s-1)=rng s:=by unfold aJ rng;rw[show s-1+1-0=s by omega];simp
noncomputable def Xk(b a:Ql):List Ql:=cZ [[]]<|(b.zip a).map λp=>aJ p.1 p.2
theorem EJ:∀{sd:Ql},(∀c∈sd,1<=c)->∀c∈sd,c<=dZ sd
 |a::r,h,c,b=>by
  have e:=h a u0;have d:∀c∈r,1<=c:=λc b=>h c<|i0 _ b;have i:=SJ d;show c<=a*dZ r;rcases T0.mp b with rfl|b
  .have:=Int.mul_le_mul_of_nonneg_left i (show (0:Int)<=c by omega);omega
  .have j:=EJ d c b;have:=T8 e (show (0:Int)<=dZ r by omega);omega
noncomputable def xO(sd a:Ql):Int:=(sd.zip a).foldl (λi p=>i*p.1+p.2) 0
noncomputable def Fj{α:Type}:List α->List (List α)->Prop
 |[],[]=>True
 |x::a,c::b=>x∈c/\Fj a b
 |_,_=>Al
theorem BD{α:Type}:∀{cs b:List (List α)}{p:List α},p∈cZ b cs->∃a∈b,∃q,p=a++q/\Fj q cs
 |[],b,p,h=>⟨p,h,[],by simp,trivial⟩
 |c::cs,b,p,h=>by obtain⟨k,d,q,rfl,e⟩:=BD (cs:=cs) h;obtain⟨a,i,j⟩:=T6.mp d;obtain⟨x,hx,rfl⟩:=J0.mp j;exact⟨a,i,x::q,by simp,hx,e⟩
theorem oK{α:Type}{b:List (List α)}{p:List α}(h:p∈cZ [[]] b):Fj p b:=by obtain⟨a,c,q,rfl,d⟩:=BD h;simp at c;subst c;exact d
theorem bI{x s:Int}(h:x∈rng s):0<=x/\x<s:=by unfold rng at h;obtain⟨n,a,rfl⟩:=J0.mp h;have:=Q4.mp a;omega
noncomputable def Wi:Ql->Ql->Prop
 |[],[]=>True
 |x::a,s::b=>(0<=x/\x<s)/\Wi a b
 |_,_=>Al
theorem zu{sd p:Ql}(a:p∈DJ sd):Wi p sd:=by
 have h:=oK a;clear a;induction sd generalizing p with
 |nil=>cases p with
  |nil=>trivial
  |cons _ _=>exact h.elim
 |cons s c b=>cases p with
  |nil=>exact h.elim
  |cons x d=>exact⟨bI h.1,b h.2⟩
theorem aF{sd:Ql}(a:∀c∈sd,1<=c):((DJ sd).length:Int)=dZ sd:=by rw[DJ,SZ,<-WU a];simp
theorem Yq:∀{p sd:Ql},Wi p sd->p.length=sd.length
 |[],[],_=>rfl
 |[],_::_,h=>h.elim
 |_::_,[],h=>h.elim
 |_::_,_::_,h=>by simp[Yq h.2]
theorem xL:∀{sd pl:Ql}{i m:Int},Wi pl sd->0<=i->i<m->0<=(sd.zip pl).foldl (λi p=>i*p.1+p.2) i/\(sd.zip pl).foldl (λi p=>i*p.1+p.2) i<m*dZ sd
 |[],[],i,m,_,h0,b=>by simp[dZ];omega
 |[],_::_,_,_,h,_,_=>h.elim
 |_::_,[],_,_,h,_,_=>h.elim
 |s::c,x::d,i,m,h,h0,b=>by
  have hx:=h.1;have a:0<=s:=by omega
  have j:0<=i*s:=Int.mul_nonneg h0 a;have e:i*s<=(m-1)*s:=T8 (by omega) a;rw[Int.sub_mul,DQ]at e;have:=xL (sd:=c) (pl:=d) (i:=i*s+x) (m:=m*s) h.2 (by omega) (by omega);rw[XQ]at this;exact this
theorem yO{s:Int}{j:Nat}{x:Int}(h:(rng s)[j]?=O x):x=j/\(j:Int)<s:=by unfold rng at h;rw[G1,v6]at h;obtain⟨n,a,rfl⟩:=h;rw[L1]at a;obtain⟨b,c⟩:=a;simp at b c;omega
theorem Gj{s:Int}(k:1<=s):∀{c:List Ql}{d:Nat}{e:Ql},(c.flatMap λp=>(rng s).map λx=>p++[x])[d]?=O e -> ∃(j:Nat) (a:Ql) (x:Int),c[j]?=O a/\e=a++[x]/\(0<=x/\x<s)/\(d:Int)=j*s+x
 |[],d,e,h=>by simp at h
 |a::c,d,e,h=>by
  rw[L5]at h;rcases m8 d ((rng s).map λx=>a++[x]).length with g|g
  .rw[m3 g,G1,v6]at h;obtain⟨x,hx,rfl⟩:=h;obtain⟨rfl,i⟩:=yO hx;exact⟨0,a,_,Z,Z,⟨by omega,i⟩,by simp⟩
  .rw[Q2 g]at h;obtain⟨j,b,x,l,i,m,q⟩:=Gj k h;rw[j0,IW]at g q;refine⟨j+1,b,x,l,i,m,?_⟩;rw[show ((j+1:Nat):Int)=(j:Int)+1 by omega,Int.add_mul,DQ];omega
theorem Hj:∀{sd:Ql}{b:List Ql}{k:Nat}{p:Ql},(∀c∈sd,1<=c)->(cZ b<|sd.map rng)[k]?=O p -> ∃(j:Nat) (a q:Ql),b[j]?=O a/\p=a++q/\Wi q sd/\(sd.zip q).foldl (λi p=>i*p.1+p.2) (j:Int)=k
 |[],b,k,p,_,h=>⟨k,p,[],h,by simp,trivial,Z⟩
 |s::l,b,k,p,d,h=>by obtain⟨I,L,m,t,v,y,e⟩:=Hj (sd:=l) (λc B=>d c<|i0 _ B) h;obtain⟨j,a,x,C,g2,F,G⟩:=Gj (d s u0) t;refine⟨j,a,x::m,C,by rw[v,g2];simp,⟨F,y⟩,?_⟩;rw[G]at e;exact e
theorem Zq{sd:Ql}(e:∀c∈sd,1<=c){k:Nat}{p:Ql}(h:(DJ sd)[k]?=O p):Wi p sd/\xO sd p=k:=by
 obtain⟨j,a,q,b,d,i,l⟩:=Hj e h;have m:j=0:=by
  rcases j with _|j
  .rfl
  .simp at b
 subst m;simp at b;subst b;simp at d;subst d;exact⟨i,l⟩
theorem zJ{a:Ql}{i:Nat}(h:i<a.length):kH (a.map n0) (i:Int)=O (.int<|a.getD i 0):=by refine QZ ?_;rw[G1,M0 h,B2,M0 h];rfl
theorem Ij:∀{a b:Ql} (x y:Int),a.length=b.length->HT.lexLt a b=Ul->HT.lexLt (a++[x]) (b++[y])=Ul
 |[],[],x,y,_,h=>by cases h
 |[],_::_,x,y,e,_=>by simp at e
 |_::_,[],x,y,e,_=>by simp at e
 |u::a,v::b,x,y,e,h=>by
  rw[P7,P7,HT.lexLt_cons];rw[HT.lexLt_cons]at h;by_cases q:u=v
  .rw[Ib q]at h ⊢;exact Ij x y (by simpa using e) h
  .rw[if_neg q]at h ⊢;exact h
theorem Jj:∀(a:Ql) {x y:Int},x<y->HT.lexLt (a++[x]) (a++[y])=Ul
 |[],x,y,h=>by show HT.lexLt [x] [y]=Ul;rw[HT.lexLt_cons,if_neg<|by omega];exact Sb h
 |u::a,x,y,h=>by rw[P7,P7,HT.lexLt_cons,Ib Z];exact Jj a h
theorem PJ:∀{cs acc:List Ql}{n:Nat},acc.Pairwise (λa b=>HT.lexLt a b=Ul)->(∀p∈acc,p.length=n)->(∀c∈cs,c.Pairwise (· < ·))->(cZ acc cs).Pairwise (λa b=>HT.lexLt a b=Ul)
 |[],_,_,h,_,_=>h
 |c::cs,acc,n,h,e,i=>by
  refine PJ (cs:=cs) (n:=n+1) ?_ ?_ λd hd=>i d<|i0 _ hd
  .rw[BQ];refine⟨λp j=>?_,?_⟩
   .rw[J3];exact(i c u0).imp λh=>Jj p h
   .refine List.Pairwise.imp_of_mem (λ{a b} k l h=>?_) h;intro x hx y hy;obtain⟨u,_,rfl⟩:=J0.mp hx;obtain⟨v,_,rfl⟩:=J0.mp hy;exact Ij u v (by rw[e a k,e b l]) h
  .intro p j;obtain⟨q,m,hx⟩:=T6.mp j;obtain⟨x,_,rfl⟩:=J0.mp hx;rw[N0,e q m];rfl
theorem bF(a b:Int):(aJ a b).Pairwise (· < ·):=by unfold aJ;rw[J3];exact List.pairwise_lt_range.imp λh=>by omega
theorem az(lo hi:Ql):(Xk lo hi).Pairwise (λa b=>HT.lexLt b a=Um):=by
 have h:=PJ (cs:=(lo.zip hi).map λp=>aJ p.1 p.2) (acc:=[[]]) (n:=0) (G5 _ _) (by simp) λc d=>by obtain⟨p,_,rfl⟩:=J0.mp d;exact bF _ _
 refine List.Pairwise.imp (λ{a b} h=>?_) h;cases e:HT.lexLt b a
 .rfl
 .have:=SG.lex_wk.tr a b a h e;rw[SG.lex_wk.irr]at this;cases this
theorem Au(a b:Int):(aJ a b).length=(b+1-a).toNat:=by simp[aJ]
theorem tY{α:Type}:∀{cs acc:List (List α)}{a q:List α},a∈acc->Fj q cs->a++q∈cZ acc cs
 |[],acc,a,[],b,_=>by simpa [cZ]using b
 |[],_,_,_::_,_,h=>h.elim
 |_::_,_,_,[],_,h=>h.elim
 |c::cs,acc,a,x::q,b,h=>by have:=tY (cs:=cs) (acc:=acc.flatMap λp=>c.map λx=>p++[x]) (a:=a++[x]) (q:=q) (T6.mpr ⟨a,b,J0.mpr ⟨x,h.1,Z⟩⟩) h.2;simpa [cZ]using this
theorem cI{x s:Int}(h0:0<=x)(a:x<s):x∈rng s:=J0.mpr ⟨x.toNat,Q4.mpr<|by omega,by omega⟩
theorem Bu:∀{p sd:Ql},Wi p sd->Fj p (sd.map rng)
 |[],[],_=>trivial
 |[],_::_,h=>h.elim
 |_::_,[],h=>h.elim
 |x::p,s::sd,h=>⟨cI h.1.1 h.1.2,Bu h.2⟩
theorem bz{p sd:Ql}(h:Wi p sd):p∈DJ sd:=tY (a:=[]) (by simp)<|Bu h
noncomputable abbrev JW(sd cl:Ql):Fb:=.tuple [wX sd,wX cl]
noncomputable def cel(sd cl p:Ql):Int:=cl.getD (xO sd p).toNat 0
mutual
noncomputable def BV:Fb->Bool
 | .dict b=>eK b
 | .list a=>okAll a
 | .tuple a=>okAll a
 | .none=>Ul
 | .bool _=>Ul
 | .int _=>Ul
 | .str _=>Ul
noncomputable def okAll:Ur->Bool
 |[]=>Ul
 |x::a=>BV x&&okAll a
end
theorem pK:∀{a:Ur},okAll a=Ul->∀d∈a,BV d=Ul
 |[],_,d,h=>by simp at h
 |x::a,h,d,hd=>by
  simp[okAll]at h;rcases T0.mp hd with rfl|hd
  .exact h.1
  .exact pK h.2 d hd
theorem oJ:∀{a:Ur},(∀d∈a,BV d=Ul)->okAll a=Ul
 |[],_=>rfl
 |x::a,h=>by simp[okAll];exact⟨h x u0,oJ λd hd=>h d<|i0 _ hd⟩
noncomputable def EB:Fb->Bool
 | .int _=>Ul
 |_=>Um
noncomputable def Cu(s:Int):Fb->Bool
 | .int i=>Uo (0<=i)&&Uo (i<s)
 |_=>Um
noncomputable def cz:Ur->Ql->Bool
 |d::ds,s::sd=>Cu s d&&cz ds sd
 |_,_=>Ul
noncomputable def RY(sd:Ql):Fb->Bool
 | .tuple a=>Uo (a.length=sd.length)&&cz a sd
 |_=>Um
theorem ints_of:∀{ds:Ur},ds.all EB=Ul->∃ns:Ql,ds=ns.map n0
 |[],_=>⟨[],Z⟩
 |d::ds,h=>by simp at h;obtain⟨ns,e⟩:=ints_of (ds:=ds) (by simpa using h.2);cases d<;>simp[EB]at h;rename_i i;exact⟨i::ns,by rw[e];rfl⟩
theorem XU:∀{ds:Ur}{sd:Ql},ds.length=sd.length->cz ds sd=Ul->ds.all EB=Ul
 |[],_,_,_=>rfl
 |d::ds,[],h,_=>by simp at h
 |d::ds,s::sd,h,k=>by simp[cz]at k;have:=XU (ds:=ds) (sd:=sd) (by simpa using h) k.2;cases d<;>simp[Cu]at k;rename_i i;show (EB (.int i)&&ds.all EB)=Ul;rw[this];rfl
noncomputable def AH(p:Int×Int):Bool:=Uo (0<=p.1)&&Uo (p.1<p.2)
theorem Kj:∀(ns sd:Ql),cz (ns.map n0) sd=((ns.zip sd).map AH).all id
 |[],_=>by simp[cz]
 |n::ns,[]=>by simp[cz]
 |n::ns,s::sd=>by simp[cz,Cu,AH,Kj ns sd]
noncomputable def AO(ns a:Ql):Bool:=((ns.zip a).map λp=>decide<|p.1<=p.2).all id
noncomputable def unI:Fb->Int
 | .int i=>i
 |_=>0
noncomputable def Qa:Fb->Fb->Bool
 | .tuple a,.tuple ys=>AO (a.map unI)<|ys.map unI
 |_,_=>Um
theorem JY(ns:Ql):(ns.map n0).map unI=ns:=by rw[O0];exact U6 ns
noncomputable def SY(sd:Ql):Fb->Bool
 | .tuple [a,b]=>RY sd a&&RY sd b&&Qa a b
 |_=>Um
theorem KY{sd:Ql}{d:Fb}(h:RY sd d=Ul):∃ns:Ql,d=wX ns/\ns.length=sd.length:=by cases d<;>simp[RY]at h;rename_i a;obtain⟨ns,e⟩:=ints_of<|XU h.1 h.2;subst e;exact⟨ns,Z,by simpa using h.1⟩
theorem Du{sd:Ql}{d:Ur}(h:d.length≠2):SY sd (.tuple d)=false:=by rcases d with _|⟨a,_|⟨b,_|⟨c,d⟩⟩⟩<;>first|rfl|simp at h
def Eu:Con:=λa Q=>∃d,a=[.fz d]/\BV d=Ul/\∀o,Q (.fz<|.bool<|EB d) o
theorem Fu(F:Vl K "is_whole" (top 1) f fd)(T:Txt mg):FnOk P w K mg base GJ 1 f fd ["thing"] (tX K Eu):=by
 have S:FnScope ["thing"] ["thing"] (sX<|top 1):={};refine PY F S (λe A outer s H E j=>vZ<|Yz (jV .int Z T.Xp T.Qt boot_int<|wn 0)<|Xv<|w_not<|jV .bl Z T.Xp T.Xl boot_bool<|wn 0) ?_;rintro a k ⟨d,rfl,hd,q⟩;cases d with
 |dict l=>exact⟨hd,q _⟩
 |int i=>exact q _
 |bool b=>exact q _
 |none=>exact q _
 |str x=>exact q _
 |list c=>exact q _
 |tuple c=>exact q _
variable (P w K mg base) in
structure CalsC:Prop where
 Zr:Cal P w K mg base 1 "is_whole" ["thing"] (tX K Eu)
noncomputable def HV(n:Nat):Fb->Bool
 | .tuple ds=>Uo (ds.length=n)&&ds.all EB
 |_=>Um
def Gu:Con:=λa Q=>∃(d:Fb) (n:Nat),a=[.fz d,.fz<|.int n]/\BV d=Ul/\n<=1000/\∀o,Q (.fz<|.bool<|HV n d) o
theorem eI(F:Vl K "are_wholes" (top 2) f fd)(T:Txt mg)(C:CalsC P w K mg base):FnOk P w K mg base GJ 2 f fd ["thing","many"] (tX K Gu):=by
 have S:FnScope ["thing","many"] ["thing","many"] (sX<|top 2):={};refine PY F S (λl A outer s H E c=>qX (BJ (BN<|Yx (vV<|AW<|jV .tup Z T.Xp T.Xs Yh<|wn 0)<|SH<|Ek c (wx<|VJ T.Qm<|RX 0)<|wn 1) (vZ OY) MZ)<|vZ<|eZ fV (RJ (K:=K) Z Z) T.Xt Xg<|rX<|LK ["number"] [] (hZ rfl<|wv 0)<|λ_ _ _ _=>EZ C.Zr c.m<|RX 0) ?_;rintro j t ⟨d,n,rfl,hd,v,q⟩;cases d with
 |dict y=>exact⟨hd,q _⟩
 |int i=>exact q _
 |bool b=>exact q _
 |none=>exact q _
 |str x=>exact q _
 |list a=>exact q _
 |tuple a =>
  refine kJ (λh=>?_)<|λh=>?_
  .have h:¬(a.length:Int)=n:=by simpa using h
   have e:HV n (.tuple a)=false:=by simp[HV];intro z;omega
   rw[e]at q;exact q _
  .have h:(a.length:Int)=n:=by simpa using h
   have hl:a.length=n:=by omega
   refine⟨FX<|by omega,EK (λd=>.bool<|EB d) ?_ ?_⟩
   .intro d k N hN;exact⟨d,Z,pK (by simpa [BV]using hd) d k,λo=>hN⟩
   .refine⟨a.map EB,by rw[O0];rfl,?_⟩;have e:HV n (.tuple a)=(a.map EB).all id:=by simp[HV,hl]
    rw[<-e];exact q _
variable (P w K mg base) in
structure CalsD:Prop where
 Zs:Cal P w K mg base 2 "are_wholes" ["thing","many"] (tX K Gu)
def CD:Con:=λa Q=>∃(sd:Ql) (d:Fb),a=[.fz<|wX sd,.fz d]/\BV d=Ul/\sd.length<=1000/\∀o,Q (.fz<|.bool<|RY sd d) o
noncomputable def U':Fb->Fb
 | .tuple [.int a,.int b]=>.bool<|AH (a,b)
 |_=>.none
theorem dz(F:Vl K "is_place" (top 7) f fd)(T:Txt mg)(C:CalsD P w K mg base):FnOk P w K mg base GJ 3 f fd ["sides","thing"] (tX K CD):=by
 have S:FnScope ["sides","thing"] ["sides","thing"] (sX<|top 7):={};refine PY F S (λx A outer s H E t=>qX (BJ (vV<|AW<|EZ C.Zs t.m<|KZ 1<|rX<|VJ T.Qm<|RX 0) (vZ OY) MZ)<|vZ<|eZ fV (RJ (K:=K) Z Z) T.Xt Xg<|rX<|yu ["number","side"] [] (xU Z T.Qs<|KZ 1<|RX 0) (λ_ _ _ _=>YJ Z rfl<|QX (qZ 0)<|QX (qZ 1) mJ)<|λ_ _ _ _=>ZC DI sV xX (wn 0)<|wn 1) ?_;rintro k y ⟨sd,d,rfl,hd,v,q⟩;refine⟨d,sd.length,by rw[j0];rfl,hd,v,λo=>?_⟩;cases i:HV sd.length d with
 |false =>
  have e:RY sd d=false:=by
   cases d<;>first|rfl|skip
   rename_i ds;simp[HV]at i;by_cases h:ds.length=sd.length
   .cases c:cz ds sd with
    |false=>simp[RY,c]
    |true=>have:=XU h c;exact absurd this (by simpa using i h)
   .simp[RY,h]
  rw[e]at q;exact q _
 |true =>
  cases d<;>simp[HV]at i;rename_i ds;obtain⟨hl,hi⟩:=i;obtain⟨ns,rfl⟩:=ints_of (ds:=ds) (by simpa using hi);have c:DG (ns.map n0) (sd.map n0)=(ns.zip sd).map λp=>J1 [.int p.1,.int p.2]:=IY ns sd;have j:ns.length=sd.length:=by simpa using hl
  refine⟨by rw[c,j0,o6];exact FX<|by omega,EK U' ?_ ?_⟩
  .intro d l N hN;rw[c]at l;obtain⟨⟨a,b⟩,_,rfl⟩:=J0.mp l;have hN:N (.bool<|AH (a,b)) _:=hN;refine⟨Z,?_⟩;refine kJ (λh=>?_)<|λh=>?_
   .have e:AH (a,b)=Uo (a<b):=by
     have h:Uo (0<=a)=true:=h;simp[AH,Ob h]
    rw[e]at hN;exact hN
   .have e:AH (a,b)=false:=by
     have h:¬Uo (0<=a)=true:=h;simp[AH];intro z;exact absurd (Sb z) h
    rw[e]at hN;exact hN
  .rw[c,O0];refine⟨(ns.zip sd).map AH,by rw[O0];rfl,?_⟩;have e:RY sd (.tuple<|ns.map n0)=((ns.zip sd).map AH).all id:=by
    rw[<-Kj];simp[RY,j]
   rw[<-e];exact q _
variable (P w K mg base) in
structure CalsE:Prop where
 Jl:Cal P w K mg base 3 "is_place" ["sides","thing"] (tX K CD)
def Hu:Con:=λa Q=>∃(sd:Ql) (d:Fb),a=[.fz<|wX sd,.fz d]/\BV d=Ul/\sd.length<=1000/\∀o,Q (.fz<|.bool<|SY sd d) o
noncomputable def Ra:Fb->Fb
 | .tuple [.int a,.int b]=>.bool<|decide<|a<=b
 |_=>.none
theorem Iu(F:Vl K "is_box" (top 8) f fd)(T:Txt mg)(C:CalsE P w K mg base):FnOk P w K mg base GJ 4 f fd ["sides","thing"] (tX K Hu):=by
 have S:FnScope ["sides","thing"] ["sides","thing"] (sX<|top 8):={};refine PY F S (λR A outer s H E l=>qX (BJ (BN<|Yx (vV<|AW<|jV .tup Z T.Xp T.Xs Yh<|wn 1)<|SH<|Ek l (wx<|VJ T.Qm<|RX 1) xX) (vZ OY) MZ)<|qX (BJ (BN<|Yx (vV<|AW<|EZ C.Jl l.m<|KZ 0<|rX<|HX (wn 1) xX)<|SH<|vV<|AW<|EZ C.Jl l.m<|KZ 0<|rX<|HX (wn 1) xX) (vZ OY) MZ)<|vZ<|eZ fV (RJ (K:=K) Z Z) T.Xt Xg<|rX<|yu ["first","last"] [] (xU Z T.Qs<|yX (HX (wn 1) xX)<|rX<|HX (wn 1) xX) (λ_ _ _ _=>YJ Z rfl<|QX (qZ 0)<|QX (qZ 1) mJ)<|λ_ _ _ _=>zW rR DI (wn 0)<|wn 1) ?_;rintro B Y ⟨sd,d,rfl,hd,G,q⟩;cases d with
 |dict es=>exact⟨hd,q _⟩
 |int i=>exact q _
 |bool b=>exact q _
 |none=>exact q _
 |str x=>exact q _
 |list j=>exact q _
 |tuple j =>
  refine kJ (λh=>?_)<|λh=>?_
  .have h:¬(j.length:Int)=2:=by simpa using h
   rw[Du<|by omega]at q;exact q _
  .have h:(j.length:Int)=2:=by simpa using h
   obtain⟨a,b,rfl⟩:∃a b,j=[a,b]:=by
    rcases j with _|⟨a,_|⟨b,_|⟨c,j⟩⟩⟩
    .simp at h
    .simp at h
    .exact⟨a,b,Z⟩
    .simp at h;omega
   have I:BV a=Ul/\BV b=true:=by simpa [BV,okAll]using hd
   refine⟨a,Z,sd,a,Z,I.1,G,λo=>?_⟩;cases t:RY sd a with
   |false =>
    have e:SY sd (.tuple [a,b])=false:=by simp[SY,t]
    rw[e]at q;exact q _
   |true =>
    refine⟨b,Z,sd,b,Z,I.2,G,λo=>?_⟩;cases v:RY sd b with
    |false =>
     have e:SY sd (.tuple [a,b])=false:=by simp[SY,v]
     rw[e]at q;exact q _
    |true =>
     obtain⟨ns,rfl,gm⟩:=KY t;obtain⟨k,rfl,M⟩:=KY v;have y:=IY ns k;refine⟨wX ns,Z,wX k,Z,by rw[y,j0,o6];exact FX<|by omega,EK Ra ?_ ?_⟩
     .intro d L N hN;rw[y]at L;obtain⟨⟨a,b⟩,_,rfl⟩:=J0.mp L;exact⟨Z,hN⟩
     .rw[y,O0];refine⟨(ns.zip k).map λp=>decide<|p.1<=p.2,by rw[O0];rfl,?_⟩;have e:SY sd (.tuple [wX ns,wX k])=((ns.zip k).map λp=>decide<|p.1<=p.2).all id:=by
       simp only[SY,t,v,Bool.true_and];show AO ((ns.map n0).map unI) ((k.map n0).map unI)=_;rw[JY,JY];rfl
      rw[<-e];exact q _
theorem gG{d:Type}(f:α->d):∀(b a:List (List α)),(cZ a b).map (y7 f)=cZ (a.map<|y7 f) (b.map<|y7 f)
 |[],a=>rfl
 |c::b,a=>by show (cZ (a.flatMap λp=>c.map λx=>p++[x]) b).map (y7 f)=cZ ((a.map<|y7 f).flatMap λp=>(c.map f).map λx=>p++[x]) (b.map<|y7 f);rw[gG f b];congr 1;rw[List.map_flatMap,List.flatMap_map];congr 1;funext p;simp[O0,Function.comp_def]
def yL:Con:=λa Q=>∃b:List (Ur),a=[.fz<|.list<|b.map X3]/\(∀c∈b,c≠[])/\lenP b<=1000/\b.length<=1000/\∀o,Q (.ow<|.list<|(cZ [[]] b).map J1) o
theorem gI(F:Vl K "one_of_each" (top 3) f fd):FnOk P w K mg base GJ 1 f fd ["choices"] (tX K yL):=by
 have S:FnScope ["choices","chosen","things","longer","ahead","thing"] ["choices"] (sX<|top 3):={};refine PY F S (λfc A outer s H E hr=>qX (fZ 1<|aZ<|rX<|vX HZ)<|qX (nK [2,3,4] (hZ rfl<|wv 0) (qZ 2)<|qX (fZ 3<|aZ HZ)<|qX (nK [4,5] (hZ rfl<|wv 1) (qZ 4)<|iZ<|nK [5] (hZ rfl<|wv 2) (qZ 5)<|iZ<|ZZ<|xq CZ Z PySem.F.slot_list_append PySem.F.type_list_append AZ (wn 3)<|rX<|JX (wn 4)<|wx<|vX<|rX<|wv 5)<|iZ<|yq (i:=1) S.nd Z (Or.inl Z)<|wn 3)<|Hk 1) ?_;rintro args Qd ⟨m,rfl,qc,ub,jd,q⟩;refine XZ (λrest ρ=>∃(b e:List (Ur)),ρ=[Zt<|.list<|m.map X3,Yt<|.list<|b.map J1,U,U,U,U]/\rest=e.map X3/\(∀c∈e,c≠[])/\b.length*lenP e=lenP m/\cZ b e=cZ [[]] m/\(∀p∈b,p.length+e.length<=1000)) ?_ ?_
  ⟨[[]],m,Z,Z,qc,by simp,Z,λp y=>by simp at y;subst y;simpa using jd⟩
 .rintro d ds ρ ⟨b,e,rfl,k,wo,t,B,G⟩ N hN;cases e with
  |nil=>cases k
  |cons c e =>
   cases k;have lp:∀c∈e,c≠[]:=λc v=>wo c<|i0 _ v;have I:=GW lp;have htot:(b.flatMap λp=>c.map λx=>p++[x]).length<=1000:=by rw[HW];have h1:b.length*(c.length*lenP e)=lenP m:=t;rw[<-WQ]at h1;have:b.length*c.length<=b.length*c.length*lenP e:=l8 _ I;omega
   refine XZ (λrest ρ=>∃(l j:List (Ur)),ρ=[Zt<|.list<|m.map X3,Zt<|.list<|b.map J1,Zt<|.list c,Yt<|.list<|l.map J1,U,U]/\rest=j.map J1/\(l++j.flatMap λp=>c.map λx=>p++[x])=(b.flatMap λp=>c.map λx=>p++[x])/\(∀p∈j,p∈b)) ?_ ?_
    ⟨[],b,Z,Z,Z,λp y=>y⟩
   .rintro d ds ρ ⟨l,j,rfl,k,C,R⟩ M hM;cases j with
    |nil=>cases k
    |cons p j =>
     cases k;have Y:=G p<|R p u0;have vi:l.length+c.length<=1000:=by have:=Rb U4 C;rw[N0,L5,N0,j0]at this;omega
     refine XZ (λrest ρ=>∃(pre:Ur),c=pre++rest/\ρ=[Zt<|.list<|m.map X3,Zt<|.list<|b.map J1,Zt<|.list c,Yt<|.list<|(l++pre.map λx=>p++[x]).map J1,Zt<|.tuple p,U]) ?_ ?_
      ⟨[],Z,by simp;rfl⟩
     .rintro x ds' ρ ⟨pre,v,rfl⟩ L hL;refine⟨by simp at Y ⊢;exact FX<|by omega,by rw[j0,N0,j0];have:=Rb U4 v;simp at this;exact v0 (show _<1000 by omega)<|by decide,?_⟩;refine hL _ ⟨pre++[x],by rw[v];simp,?_⟩;have e1:((l++pre.map λx=>p++[x]).map J1)++[J1<|p++[x]]=((l++(pre++[x]).map λx=>p++[x]).map J1):=by simp
      rw[<-e1];rfl
     .rintro ρ ⟨pre,v,rfl⟩;rw[B3]at v;subst v;exact hM _ ⟨l++c.map λx=>p++[x],j,Z,Z,by rw[Y2,<-C,L5],λp' eh=>R p'<|i0 _ eh⟩
   .rintro ρ ⟨l,j,rfl,k,C,R⟩;cases j with
    |cons p j=>cases k
    |nil =>
     rw[iQ,B3]at C;refine hN _ ⟨b.flatMap λp=>c.map λx=>p++[x],e,by rw[C];rfl,Z,lp,?_,B,λp y=>?_⟩
     .rw[HW,WQ];exact t
     .obtain⟨p',eh,hx⟩:=T6.mp y;obtain⟨x,_,rfl⟩:=J0.mp hx;have:=G p' eh;simp at this ⊢;omega
 .rintro ρ ⟨b,e,rfl,k,wo,t,B,G⟩;cases e with
  |cons a e=>cases k
  |nil=>have B:b=cZ [[]] m:=B;rw[B];exact q _
def Ju:Con:=λa Q=>∃sd b:Ql,a=[.fz<|wX sd,.fz<|wX b]/\sd.length<=1000/\(∀s∈sd,0<=s/\s<2 ^ 64)/\∀o,Q (.fz<|.int<|xO sd b) o
theorem Ku(F:Vl K "index_of" (top 4) f fd)(T:Txt mg):FnOk P w K mg base GJ 1 f fd ["sides","place"] (tX K Ju):=by
 have S:FnScope ["sides","place","index","side","number"] ["sides","place"] (sX<|top 4):={};refine PY F S (λm A outer s H E t=>qX (fZ 2 UX)<|qX (nK [3,4] (xU Z T.Qs<|KZ 0<|RX 1) (YJ Z rfl<|QX (qZ 3)<|QX (qZ 4) mJ)<|iZ<|fZ 2<|JX (wx<|xD (wn 2)<|wn 3)<|wn 4)<|Hk 2) ?_;rintro k v ⟨sd,b,rfl,hl,l,q⟩;refine XZ (λrest ρ=>∃(i:Int) (a:Bn),ρ=[Zt<|wX sd,Zt<|wX b,Zt<|.int i,U,U]/\rest=a.map (λp=>J1 [.int p.1,.int p.2])/\(∀p∈a,p∈sd.zip b)/\a.foldl (λi p=>i*p.1+p.2) i=xO sd b) ?_ ?_
  ⟨0,sd.zip b,Z,IY _ _,λ_ h=>h,Z⟩
 .rintro d y ρ ⟨i,a,rfl,e,j,c⟩ N hN;cases a with
  |nil=>cases e
  |cons p a=>cases e;have B:=l p.1 (l6<|j p u0).1;exact⟨Z,.inr ⟨by omega,by omega⟩,hN _ ⟨i*p.1+p.2,a,Z,Z,λx hx=>j x<|i0 _ hx,c⟩⟩
 .rintro ρ ⟨i,a,rfl,e,j,c⟩;cases a with
  |nil=>have c:i=xO sd b:=c;subst c;exact q _
  |cons _ _=>cases e
noncomputable def Bx:Ql->Ql->Ql->Prop
 |[],[],[]=>True
 |x::lo,y::hi,s::sd=>(0<=x/\x<=y/\y<s)/\Bx lo hi sd
 |_,_,_=>Al
noncomputable abbrev bxD(lo hi:Ql):Fb:=.tuple [wX lo,wX hi]
theorem wJ:∀{lo hi sd:Ql},Bx lo hi sd->lo.length=sd.length/\hi.length=sd.length
 |[],[],[],_=>⟨Z,Z⟩
 |x::lo,y::hi,s::sd,h=>by have:=wJ h.2;simp[this.1,this.2]
 |[],[],_::_,h=>h.elim
 |[],_::_,z,h=>by cases z<;>exact h.elim
 |_::_,[],z,h=>by cases z<;>exact h.elim
 |_::_,_::_,[],h=>h.elim
theorem zL:∀{lo hi sd:Ql},Bx lo hi sd->cz (lo.map n0) sd=Ul/\cz (hi.map n0) sd=Ul/\AO lo hi=Ul
 |[],[],[],_=>⟨Z,Z,Z⟩
 |x::lo,y::hi,s::sd,h=>by
  obtain⟨a,b,c⟩:=zL h.2;have hx:=h.1;refine⟨?_,?_,?_⟩
  .simp only[E1,cz,Cu,a,V7,X1,decide_eq_true_eq];omega
  .simp only[E1,cz,Cu,b,V7,X1,decide_eq_true_eq];omega
  .have e:AO (x::lo) (y::hi)=(Uo (x<=y)&&AO lo hi):=by simp[AO]
   rw[e,c,V7,decide_eq_true_eq];exact hx.2.1
 |[],[],_::_,h=>h.elim
 |[],_::_,z,h=>by cases z<;>exact h.elim
 |_::_,[],z,h=>by cases z<;>exact h.elim
 |_::_,_::_,[],h=>h.elim
theorem iI{lo sd:Ql}(h:Bx lo hi sd):SY sd (bxD lo hi)=true:=by
 obtain⟨a,b,c⟩:=zL h;obtain⟨d,e⟩:=wJ h;have i:RY sd (wX lo)=true:=by show (Uo ((lo.map n0).length=sd.length)&&cz (lo.map n0) sd)=Ul;rw[j0,a,V7];exact Sb d
 have j:RY sd (wX hi)=true:=by show (Uo ((hi.map n0).length=sd.length)&&cz (hi.map n0) sd)=Ul;rw[j0,b,V7];exact Sb e
 show (RY sd (wX lo)&&RY sd (wX hi)&&AO ((lo.map n0).map unI) ((hi.map n0).map unI))=Ul;rw[i,j,JY,JY,c];rfl
theorem ED{a b x:Int}(h:x∈aJ a b):a<=x/\x<=b:=by unfold aJ at h;obtain⟨n,c,rfl⟩:=J0.mp h;have:=Q4.mp c;omega
theorem Lu:∀{lo hi sd p:Ql},Bx lo hi sd->Fj p ((lo.zip hi).map λq=>aJ q.1 q.2)->Wi p sd
 |[],[],[],[],_,_=>trivial
 |[],[],[],_::_,_,h=>h.elim
 |x::lo,y::hi,s::sd,[],_,h=>h.elim
 |x::lo,y::hi,s::sd,z::p,h,k=>by have:=ED k.1;have hx:=h.1;simp only at this;exact⟨by omega,Lu h.2 k.2⟩
 |[],[],_::_,_,h,_=>h.elim
 |[],_::_,z,_,h,_=>by cases z<;>exact h.elim
 |_::_,[],z,_,h,_=>by cases z<;>exact h.elim
 |_::_,_::_,[],_,h,_=>h.elim
theorem Mu{lo sd p:Ql}(h:Bx lo hi sd)(a:p∈Xk lo hi):Wi p sd:=Lu h<|oK a
theorem KW:∀{lo hi sd:Ql},Bx lo hi sd->∀p∈lo.zip hi,0<=p.1/\p.1<=p.2/\∃s∈sd,p.2<s
 |[],[],[],_,p,a=>by simp at a
 |x::lo,y::hi,s::sd,h,p,a=>by
  rw[E4]at a;rcases T0.mp a with rfl|a
  .exact⟨h.1.1,h.1.2.1,s,u0,h.1.2.2⟩
  .obtain⟨b,c,t,d,e⟩:=KW h.2 p a;exact⟨b,c,t,i0 _ d,e⟩
 |[],[],_::_,h,_,_=>h.elim
 |[],_::_,z,h,_,_=>by cases z<;>exact h.elim
 |_::_,[],z,h,_,_=>by cases z<;>exact h.elim
 |_::_,_::_,[],h,_,_=>h.elim
theorem BO{sd p:Ql}(h:Wi p sd):0<=xO sd p/\xO sd p<dZ sd:=by have:=xL h (i8 0) (by decide:(0:Int)<1);rw[DQ]at this;exact this
noncomputable def MK(sd cl lo hi:Ql):Ql:=(Xk lo hi).map<|cel sd cl
def Jk(c:Int):Prop:=-(10 ^ 27)<c/\c<10 ^ 27
noncomputable def LeP:Ql->Ql->Prop
 |[],[]=>True
 |c::a,m::b=>(1<=c/\c<=m)/\LeP a b
 |_,_=>Al
theorem LeP.snoc:∀{d e:Ql}{c m:Int},LeP d e->1<=c->c<=m->LeP (d++[c]) (e++[m])
 |[],[],_,_,_,a,b=>⟨⟨a,b⟩,trivial⟩
 |_::_,_::_,_,_,h,a,b=>⟨h.1,LeP.snoc h.2 a b⟩
 |[],_::_,_,_,h,_,_=>h.elim
 |_::_,[],_,_,h,_,_=>h.elim
theorem LeP.len:∀{a b:Ql},LeP a b->a.length=b.length
 |[],[],_=>rfl
 |_::_,_::_,h=>by simp[LeP.len h.2]
 |[],_::_,h=>h.elim
 |_::_,[],h=>h.elim
theorem LeP.pos:∀{a b:Ql},LeP a b->∀c∈a,1<=c
 |[],[],_,_,d=>by cases d
 |c::a,m::b,h,x,hx=>by
  rcases T0.mp hx with z|z
  .subst z;exact h.1.1
  .exact LeP.pos h.2 x z
 |[],_::_,h,_,_=>h.elim
 |_::_,[],h,_,_=>h.elim
theorem LeP.prod:∀{a b:Ql},LeP a b->dZ a<=dZ b
 |[],[],_=>i8 _
 |c::a,m::b,h=>by have d:=LeP.prod h.2;have e:=SJ<|LeP.pos h.2;show c*dZ a<=m*dZ b;exact B7 h.1.2 d (by omega) (by have:=h.1.1;have:=h.1.2;omega)
 |[],_::_,h=>h.elim
 |_::_,[],h=>h.elim
structure Mst(ms:Ql):Prop where
 l1:1<=ms.length
 l3:ms.length<=3
 p:∀c∈ms,1<=c/\c<=120
 m:dZ ms<=120
theorem LeP.sd{cs b:Ql}(h:LeP cs b)(a:Mst b):Sd cs:=⟨by rw[h.len];exact a.l1,by rw[h.len];exact a.l3,h.pos,K6 h.prod a.m⟩
variable (P w K mg base) in
structure CalsB:Prop where
 Jm:Cal P w K mg base 1 "_law_take" ["_law_pen_here","_law_most"] (tX K yD)
def Lj:Con:=λa Q=>∃(ns:Ql) (k l:Int),a=[.io<|OJ ns k l]/\0<=k/\0<=l/\∀(r b c:Int) (o:Ev),Jk r->0<=b->0<=c->Q (.fz<|.int r) (O (.io<|OJ ns b c)::o)
theorem Kk(F:Vl K "_law_number" (top 28) f fd)(T:Txt mg)(C:CalsB P w K mg base):FnOk P w K mg base GJ 2 f fd ["_law_pen_here"] (tX K Lj):=by
 have S:FnScope ["_law_pen_here","_law_way"] ["_law_pen_here"] (sX<|top 28):={};refine PY F S (λM A outer s H E c=>qX (fZ 1<|XJ C.Jm c.m<|KZ 0<|rX UX)<|qX (BJ (XE c (wn 1) xX) (vZ<|xD (wx<|YG (wx<|YG (wx<|w_bin Sv zw xX xX) xX)<|wx<|XJ C.Jm c.m<|KZ 0<|rX UX)<|wx<|YG xX<|wx<|xD xX<|wx<|XJ C.Jm c.m<|KZ 0<|rX UX) MZ)<|qX (BJ (pJ YF CF (wn 1) xX) (vZ<|YG (wx<|XJ C.Jm c.m<|KZ 0<|rX UX) xX) MZ)<|vZ<|YG (wx<|XJ C.Jm c.m<|KZ 0<|rX UX) xX) ?_;rintro B R ⟨ns,k,l,rfl,I,hl,q⟩;refine⟨ns,k,l,_,Z,I,hl,by decide,by decide,λr j l1 _ Y r1 t v=>?_⟩;refine kJ (λh=>?_)<|λh=>?_
 .refine⟨⟨by decide,by decide,by decide⟩,?_⟩;refine⟨ns,j,l1,_,Z,t,v,by decide,by decide,λa x l2 _ a0 G d i=>?_⟩;refine⟨ns,x,l2,_,Z,d,i,by decide,by decide,λb k3 l3 _ b0 b1 y L=>?_⟩;refine⟨.inl ⟨by decide,by decide⟩,.inr ⟨by omega,by omega⟩,?_⟩;refine q _ _ _ _ ?_ y L;show Jk ((10 ^ (27:Int).toNat-1-a)*(1-2*b));have e:(10:Int) ^ (27:Int).toNat=10 ^ 27:=rfl;rw[e];rcases (show b=0\/b=1 by omega) with rfl|rfl
  .exact⟨by omega,by omega⟩
  .exact⟨by omega,by omega⟩
 refine kJ (λh=>?_)<|λh=>?_
 .refine⟨ns,j,l1,_,Z,t,v,by decide,by decide,λa x l2 _ a0 G d i=>?_⟩;exact q _ _ _ _ ⟨by omega,by omega⟩ d i
 .refine⟨ns,j,l1,_,Z,t,v,by decide,by decide,λa x l2 _ a0 G d i=>?_⟩;exact q _ _ _ _ ⟨by omega,by omega⟩ d i
theorem hG{sd:Ql}(a:∀c∈sd,1<=c):(DJ sd).Nodup:=by rw[K9,O4];intro i j hi d m e;have b:=Zq a (k:=i) (p:=(DJ sd)[i]) (by simp[hi]);have l:=Zq a (k:=j) (p:=(DJ sd)[j]) (by simp[d]);rw[e]at b;have:=b.2.symm.trans l.2;omega
theorem CO{a b:Ql}(h:HT.lexLt a b=Ul):HT.lexLt b a=false:=by
 cases e:HT.lexLt b a
 .rfl
 .have:=SG.lex_wk.tr a b a h e;rw[SG.lex_wk.irr]at this;cases this
theorem iz(sd:Ql):(DJ sd).Pairwise (λa b=>HT.lexLt b a=Um):=by
 have h:=PJ (cs:=sd.map rng) (acc:=[[]]) (n:=0) (G5 _ _) (by simp) λc d=>by obtain⟨s,_,rfl⟩:=J0.mp d;rw[<-Ik];exact bF _ _
 exact h.imp CO
theorem Nu{l:List Ql}(h:l.Pairwise (λa b=>HT.lexLt a b=Ul)):l.Nodup:=h.imp λ{a b} z e=>by rw[e,SG.lex_wk.irr]at z;cases z
theorem Lk(lo hi:Ql):(Xk lo hi).Nodup:=by
 unfold Xk;exact Nu (PJ (cs:=(lo.zip hi).map λp=>aJ p.1 p.2) (acc:=[[]]) (n:=0) (G5 _ _) (by simp) λc a=>by obtain⟨p,_,rfl⟩:=J0.mp a;exact bF _ _)
noncomputable def jz:Ql->Ql->Ql->Bool
 |a::lo,x::p,b::hi=>(Uo (a<=x)&&Uo (x<=b))&&jz lo p hi
 |_,_,_=>Ul
theorem rng2_mem{a b x:Int}:x∈aJ a b↔a<=x/\x<=b:=by refine⟨ED,λh=>?_⟩;unfold aJ;exact J0.mpr ⟨(x-a).toNat,Q4.mpr<|by omega,by omega⟩
theorem Mj:∀{lo hi sd p:Ql},Bx lo hi sd->p.length=sd.length->jz lo p hi=Ul->Fj p ((lo.zip hi).map λq=>aJ q.1 q.2)
 |[],[],[],[],_,_,_=>trivial
 |a::lo,b::hi,s::sd,x::p,h,hl,c=>by have c:((Uo (a<=x)&&Uo (x<=b))&&jz lo p hi)=true:=c;rw[X1,X1,decide_eq_true_eq,decide_eq_true_eq]at c;exact⟨rng2_mem.mpr c.1,Mj h.2 (by simpa using hl) c.2⟩
 |[],[],[],_::_,_,h,_=>by simp at h
 |_::_,_::_,_::_,[],_,h,_=>by simp at h
 |[],[],_::_,_,h,_,_=>h.elim
 |[],_::_,z,_,h,_,_=>by cases z<;>exact h.elim
 |_::_,[],z,_,h,_,_=>by cases z<;>exact h.elim
 |_::_,_::_,[],_,h,_,_=>h.elim
theorem Nj:∀{lo hi p:Ql},lo.length=hi.length->Fj p ((lo.zip hi).map λq=>aJ q.1 q.2)->jz lo p hi=Ul
 |[],_,_,_,_=>by simp[jz]
 |a::lo,b::hi,x::p,hl,h=>by show ((Uo (a<=x)&&Uo (x<=b))&&jz lo p hi)=Ul;have c:=rng2_mem.mp h.1;rw[Nj (by simpa using hl) h.2,Sb c.1,Sb c.2];rfl
 |_::_,[],_,hl,_=>by simp at hl
 |_::_,_::_,[],_,h=>h.elim
theorem mz{lo sd:Ql}(h:Bx lo hi sd):(DJ sd).filter (λp=>jz lo p hi)=Xk lo hi:=by
 have hl:=wJ h;have j:∀c∈sd,1<=c:=by
  have e:∀{lo hi sd:Ql},Bx lo hi sd->∀c∈sd,1<=c:=by
   intro lo;induction lo with
   |nil=>intro hi sd h c i;cases hi<;>cases sd<;>first|exact h.elim|cases i
   |cons a lo k =>
    intro hi sd h c i;cases hi with
    |nil=>cases sd<;>exact h.elim
    |cons b hi =>
     cases sd with
     |nil=>exact h.elim
     |cons s sd =>
      rcases T0.mp i with z|z
      .subst z;have:=h.1;omega
      .exact k h.2 c z
  exact e h
 refine SG.sorted_uniq (lt:=HT.lexLt) (λa b=>SG.lex_eq) ((List.perm_ext_iff_of_nodup ((hG j).filter _)<|Lk lo hi).mpr λp=>?_) ((iz sd).filter _)<|az lo hi;rw[Z8];constructor
 .rintro⟨d,l⟩;exact tY (a:=[]) (by simp)<|Mj h (Yq<|zu d) l
 .intro d;exact⟨bz<|Mu h d,Nj (by omega)<|oK d⟩
theorem cF{sd:Ql}(a:∀c∈sd,1<=c)(hl:cl.length=(DJ sd).length):(DJ sd).zip cl=(DJ sd).map λp=>(p,cel sd cl p):=by
 refine A8 λi=>?_;by_cases hi:i<(DJ sd).length
 .have b:i<((DJ sd).zip cl).length:=by rw[o6];omega
  rw[G1,M0 hi,M0 b,eQ];have d:=Zq a (k:=i) (p:=(DJ sd)[i]) (by simp[hi]);show O ((DJ sd)[i],cl[i])=O ((DJ sd)[i],cel sd cl (DJ sd)[i]);have e:cel sd cl (DJ sd)[i]=cl[i]:=by unfold cel;rw[d.2,show ((i:Int)).toNat=i by omega,B2,M0<|by omega];rfl
  rw[e]
 .rw[M4.mpr (by rw[o6];omega),M4.mpr<|by rw[j0];omega]
noncomputable def eJ(sd cl:Ql):List (Ql×Fb):=((DJ sd).zip cl).map λr=>(r.1,n0 r.2)
noncomputable def jI{α:Type}(lt:α->α->Bool)(l:List α):List α:=l.mergeSort λa b=>!lt b a
theorem fJ(lt:α->α->Bool)(l:List α):(jI lt l).Perm l:=List.mergeSort_perm _ _
theorem Oj{lt:α->α->Bool}(h:SG.Wk lt)(l:List α):(jI lt l).Pairwise λa b=>lt b a=false:=by
 have:=List.pairwise_mergeSort (le:=λa b=>!lt b a) (λa b c d e=>by
   simp only[Bool.not_eq_true']at d e ⊢;exact h.nt c b a e d) (λa b=>by
   cases i:lt b a with
   |false=>rfl
   | true =>
     cases j:lt a b with
     |false=>rfl
     |true=>have:=h.tr _ _ _ i j;rw[h.irr]at this;cases this) l;exact this.imp λ{a b} z=>by simpa using z
noncomputable def Nk(n:Int):List Ql:=jI HT.lexLt<|hl 0<|n-1
theorem Pj{n:Int}{jb:List Ql}(c:jb.Perm (hl 0<|n-1))(d:jb.Pairwise λa b=>HT.lexLt b a=Um):jb=Nk n:=SG.sorted_uniq (lt:=HT.lexLt) (λa b=>SG.lex_eq) (c.trans (fJ _ _).symm) d<|Oj SG.lex_wk _
theorem strS_mem{n:Int}{r:Ql}:r∈Nk n↔r∈hl 0 (n-1):=(fJ _ _).mem_iff
noncomputable def Sa(r:Ql):Int×Int:=(r.getD 0 0,r.getD 1 0)
noncomputable def XX(n:Int):Bn:=(Nk n).map Sa
theorem FD{n:Int}(h:1<=n):(Nk n).map rwD=(XX n).map nJ:=by unfold XX;rw[O0];refine S1 λr c=>?_;obtain⟨a,b,rfl,_⟩:=fG _ 0 (n-1) Z (by omega) r<|strS_mem.mp c;rfl
theorem Qj{n:Int}(h:1<=n){p:Int×Int}(d:p∈XX n):[p.1,p.2]∈hl 0 (n-1)/\0<=p.1/\p.1<=p.2/\p.2<n:=by obtain⟨r,c,rfl⟩:=J0.mp d;have c:=strS_mem.mp c;obtain⟨a,b,rfl,e,i,j⟩:=fG _ 0 (n-1) Z (by omega) r c;exact⟨c,e,i,by show b<n;omega⟩
theorem dF{n:Int}{a b:Int}(h:[a,b]∈hl 0 (n-1)):(a,b)∈XX n:=J0.mpr ⟨[a,b],strS_mem.mpr h,Z⟩
theorem LW{n:Int}(h:1<=n):((XX n).length:Int)=2*n-1:=by unfold XX Nk;rw[j0,(fJ _ _).length_eq];have:=Wq _ 0 (n-1) Z (by omega);omega
noncomputable def bo(a:Bn):YX:=(a.map (·.1),a.map (·.2))
noncomputable def fF(sd:Ql):List YX:=(cZ [[]]<|sd.map XX).map bo
noncomputable def VX(sd:Ql):List YX:=jI Lq<|fF sd
theorem Ou{sd:Ql}{jb:List YX}(c:jb.Perm (fF sd))(d:jb.Pairwise λa b=>Lq b a=Um):jb=VX sd:=SG.sorted_uniq (lt:=Lq) (λa b=>aO) (c.trans (fJ _ _).symm) d<|Oj Ky _
theorem GD:∀{sd:Ql},(∀c∈sd,1<=c)->(lenP (sd.map XX):Int)<=2 ^ sd.length*dZ sd
 |[],_=>by show (1:Int)<=2 ^ 0*1;decide
 |s::sd,h=>by
  have b:=h s u0;have d:=GD (sd:=sd) λc a=>h c<|i0 _ a;have i:=SJ (l:=sd) λc a=>h c<|i0 _ a;have e:(lenP ((s::sd).map XX):Int)=((XX s).length:Int)*(lenP (sd.map XX):Int):=by show (((XX s).length*lenP (sd.map XX):Nat):Int)=_;exact xQ _ _
  rw[e,LW b];show (2*s-1)*(lenP (sd.map XX):Int)<=2 ^ (sd.length+1)*(s*dZ sd);have j:(2*s-1)*(lenP (sd.map XX):Int)<=(2*s)*(2 ^ sd.length*dZ sd):=B7 (by omega) d (by omega) (by omega);have k:(2*s)*(2 ^ sd.length*dZ sd)=2 ^ (sd.length+1)*(s*dZ sd):=by rw[Int.pow_succ];simp only[XQ,eX,Int.mul_left_comm]
  omega
theorem YU{sd:Ql}(h:Sd sd):lenP (sd.map XX)<=960:=by
 have c:=GD h.p;have a:=h.m;have d:=h.l3;have i:=SJ h.p;have b:(2:Int) ^ sd.length<=8:=by rcases (show sd.length=0\/sd.length=1\/sd.length=2\/sd.length=3 by omega) with e|e|e|e<;>rw[e]<;>decide
 have j:(2:Int) ^ sd.length*dZ sd<=8*120:=B7 b a (by omega) (by decide);omega
theorem gF{sd:Ql}(h:Sd sd):(fF sd).length<=960:=by have a:=YU h;unfold fF;rw[j0,SZ];simpa using a
theorem LY{sd:Ql}(h:Sd sd):(VX sd).length<=960:=by unfold VX;rw[(fJ _ _).length_eq];exact gF h
theorem Pu:∀{sd:Ql}{a:Bn},(∀c∈sd,1<=c)->Fj a (sd.map XX)->Bx (bo a).1 (bo a).2 sd
 |[],[],_,_=>trivial
 |s::sd,p::a,d,h=>by have b:=Qj (d s u0) h.1;exact⟨⟨b.2.1,b.2.2.1,b.2.2.2⟩,Pu (λc e=>d c<|i0 _ e) h.2⟩
 |[],_::_,_,h=>h.elim
 |_::_,[],_,h=>h.elim
theorem hbs_mem{sd:Ql}{b:YX}:b∈VX sd ↔ ∃d,Fj d (sd.map XX)/\b=bo d:=by
 unfold VX;rw[(fJ _ _).mem_iff];unfold fF;constructor
 .intro h;obtain⟨d,c,rfl⟩:=J0.mp h;exact⟨d,oK c,Z⟩
 .rintro⟨d,c,rfl⟩;exact J0.mpr ⟨d,tY (a:=[]) (by simp) c,Z⟩
theorem tZ{sd:Ql}(h:∀c∈sd,1<=c){b:YX}(a:b∈VX sd):Bx b.1 b.2 sd:=by obtain⟨e,d,rfl⟩:=hbs_mem.mp a;exact Pu h d
noncomputable def C_:Fb->Fb
 | .tuple (x::_)=>x
 |_=>.none
noncomputable def D_:Fb->Fb
 | .tuple (_::y::_)=>y
 |_=>.none
def E_:Con:=λa Q=>∃b:Bn,a=[.fz<|.tuple<|b.map nJ]/\b.length<=1000/\∀o,Q (.fz<|BX<|bo b) o
theorem xS(F:Vl K "box_of" (top 14) f fd)(T:Txt mg):FnOk P w K mg base GJ 1 f fd ["pairs"] (tX K E_):=by
 have S:FnScope ["pairs"] ["pairs"] (sX<|top 14):={};refine PY F S (λi A outer s H E j=>vZ<|vX<|yX (Gk T.Xs<|rX<|LK ["pair"] [] (hZ rfl<|wv 0)<|λ_ _ _ _=>HX (wn 0) xX)<|rX<|Gk T.Xs<|rX<|LK ["pair"] [] (hZ rfl<|wv 0)<|λ_ _ _ _=>HX (wn 0) xX) ?_;rintro b k ⟨a,rfl,hl,q⟩;have l:(a.map nJ).length=a.length:=j0 _;refine⟨FX<|by omega,EK C_ ?_ ⟨FX<|by omega,EK D_ ?_ ?_⟩⟩
 .intro d hd N hN;obtain⟨p,_,rfl⟩:=J0.mp hd;exact⟨_,Z,hN⟩
 .intro d hd N hN;obtain⟨p,_,rfl⟩:=J0.mp hd;exact⟨_,Z,hN⟩
 .have c:(a.map nJ).map C_=(bo a).1.map n0:=by unfold bo;rw[O0,O0];rfl
  have e:(a.map nJ).map D_=(bo a).2.map n0:=by unfold bo;rw[O0,O0];rfl
  have q:=q;unfold BX at q;rw[<-c,<-e]at q;exact q _
variable (P w K mg base) in
structure CalsBy:Prop where
 Jn:Cal P w K mg base 1 "one_of_each" ["choices"] (tX K yL)
 Jo:Cal P w K mg base 1 "box_of" ["pairs"] (tX K E_)
def F_:Con:=λa Q=>∃sd:Ql,a=[.fz<|.list<|sd.map λs=>.list<|(XX s).map nJ]/\Sd sd/\∀o,Q (.ow<|.list<|(VX sd).map BX) o
noncomputable def V':Fb->Int×Int
 | .tuple [.int a,.int b]=>(a,b)
 |_=>(0,0)
noncomputable def W':Fb->Fb
 | .tuple a=>BX<|bo<|a.map V'
 |_=>.none
theorem Qu(a:Bn):W' (.tuple<|a.map nJ)=BX (bo a):=by
 show BX (bo<|(a.map nJ).map V')=_;rw[O0];have:a.map (V'∘nJ)=a:=by
  conv=>rhs;rw[<-U6 a]
  exact S1 λp _=>rfl
 rw[this]
theorem yS(F:Vl K "boxes_by" (top 15) f fd)(T:Txt mg)(C:CalsBy P w K mg base):FnOk P w K mg base GJ 2 f fd ["choices"] (tX K F_):=by
 have S:FnScope ["choices"] ["choices"] (sX<|top 15):={};refine PY F S (λfc A outer s H E i=>vZ<|eZ qD (AV rfl<|Cq i) T.Xo Bh<|rX<|LK ["pairs"] [] (hZ rfl<|EZ C.Jn i.m<|RX 0)<|λ_ _ _ _=>EZ C.Jo i.m<|RX 0) ?_;rintro k Qd ⟨sd,rfl,b,q⟩;have h3:=b.l3;have v:=YU b;have e0:(sd.map λs=>X3<|(XX s).map nJ)=((sd.map XX).map<|y7 nJ).map X3:=by rw[O0,O0];rfl
 have x:lenP ((sd.map XX).map<|y7 nJ)=lenP (sd.map XX):=by
  generalize sd.map XX=l;induction l with
  |nil=>rfl
  |cons c l y=>show (c.map nJ).length*_=c.length*_;rw[y,j0]
 refine⟨(sd.map XX).map<|y7 nJ,by rw[<-e0];rfl,λc B=>?_,by omega,by rw[j0,j0];omega,λo=>?_⟩
 .obtain⟨c',G,rfl⟩:=J0.mp B;obtain⟨s,t,rfl⟩:=J0.mp G;intro z;have:=Rb U4 z;have h1:=LW<|b.p s t;have h2:=b.p s t;rw[j0,c7]at this;omega
 have I:(cZ [[]]<|(sd.map XX).map<|y7 nJ).map J1=(cZ [[]]<|sd.map XX).map λa=>J1 (a.map nJ):=by have:=gG nJ (sd.map XX) [[]];have e:([[]]:List (List<|Int×Int)).map (y7 nJ)=[[]]:=rfl;rw[e]at this;rw[<-this,O0];rfl
 rw[I];have xn:(cZ [[]]<|sd.map XX).length<=960:=by rw[SZ];simpa using v
 refine⟨FX (by rw[j0];omega),EK W' ?_ ?_⟩
 .intro d hd N hN;obtain⟨a,j,rfl⟩:=J0.mp hd;rw[Qu]at hN;have L:a.length<=1000:=by
   have:=wJ<|Pu b.p<|oK j;have e:(bo a).1.length=a.length:=j0 _;omega
  exact⟨a,Z,L,λo=>hN⟩
 .have M:((cZ [[]]<|sd.map XX).map λa=>J1<|a.map nJ).map W'=(fF sd).map BX:=by
   unfold fF;rw[O0,O0];exact S1 λa _=>Qu a
  rw[M];refine⟨fF sd,Z,q0 (gF b)<|by decide,λjb R Y=>?_⟩;rw[Ou R Y];exact q _
variable (P w K mg base) in
structure CalsHx:Prop where
 Jp:Cal P w K mg base 2 "boxes_by" ["choices"] (tX K F_)
 Jr:Cal P w K mg base 2 "stretches" ["side"] (tX K vS)
def G_:Con:=λa Q=>∃sd:Ql,a=[.fz<|wX sd]/\Sd sd/\∀o,Q (.ow<|.list<|(VX sd).map BX) o
noncomputable def Ta:Fb->Fb
 | .int s=>.list<|(XX s).map nJ
 |_=>.none
theorem zS(F:Vl K "half_boxes" (top 16) f fd)(T:Txt mg)(C:CalsHx P w K mg base):FnOk P w K mg base GJ 3 f fd ["sides"] (tX K G_):=by
 have S:FnScope ["sides"] ["sides"] (sX<|top 16):={};refine PY F S (λl A outer s H E b=>vZ<|EZ C.Jp b.m<|rX<|LK ["side"] [] (hZ rfl<|wv 0)<|λ_ _ _ _=>EZ C.Jr b.m<|RX 0) ?_;rintro c t ⟨sd,rfl,a,q⟩;have v:=a.l3;have x:=a.m;refine⟨FX (by rw[j0];omega),EK Ta ?_ ?_⟩
 .intro d hd N hN;obtain⟨s,e,rfl⟩:=J0.mp hd;have i:=a.p s e;have y:=EJ a.p s e;refine⟨s,Z,i,by omega,λjb o j k=>?_⟩;have hN:N (.list<|(XX s).map nJ) _:=hN;rw[<-FD i,<-Pj j k]at hN;exact hN
 .refine⟨sd,by rw[O0];rfl,a,λo=>q _⟩
noncomputable def ZU:Ql->Int
 |[]=>0
 |[x]=>x
 |x::y::l=>min x<|ZU (y::l)
noncomputable def aH:Ql->Int
 |[]=>0
 |[x]=>x
 |x::y::l=>max x<|aH (y::l)
theorem uY:∀{l:Ql},l≠[]->ZU l∈l/\∀y∈l,ZU l<=y
 |[],h=>absurd Z h
 | [x],_=>⟨by simp[ZU],λy hy=>by
   have e:y=x:=by simpa using hy
   rw[e];exact i8 _⟩
 |x::y::l,_=>by
  obtain⟨a,b⟩:=uY (l:=y::l) (by simp);show min x (ZU (y::l))∈x::y::l/\_;constructor
  .rcases (show min x (ZU (y::l))=x\/min x (ZU (y::l))=ZU (y::l) by omega) with e|e<;>rw[e]
   .exact u0
   .exact i0 _ a
  .intro z c;show min x (ZU (y::l))<=z;rcases T0.mp c with e|e
   .omega
   .have:=b z e;omega
theorem vY:∀{l:Ql},l≠[]->aH l∈l/\∀y∈l,y<=aH l
 |[],h=>absurd Z h
 | [x],_=>⟨by simp[aH],λy hy=>by
   have e:y=x:=by simpa using hy
   rw[e];exact i8 _⟩
 |x::y::l,_=>by
  obtain⟨a,b⟩:=vY (l:=y::l) (by simp);show max x (aH (y::l))∈x::y::l/\_;constructor
  .rcases (show max x (aH (y::l))=x\/max x (aH (y::l))=aH (y::l) by omega) with e|e<;>rw[e]
   .exact u0
   .exact i0 _ a
  .intro z c;show z<=max x (aH (y::l));rcases T0.mp c with e|e
   .omega
   .have:=b z e;omega
theorem DO{l:Ql}{m:Int}(c:m∈l)(e:∀y∈l,m<=y):m=ZU l:=by have d:=uY (l:=l) (λz=>by rw[z]at c;cases c);have a:=e _ d.1;have b:=d.2 _ c;omega
theorem EO{l:Ql}{m:Int}(c:m∈l)(e:∀y∈l,y<=m):m=aH l:=by have d:=vY (l:=l) (λz=>by rw[z]at c;cases c);have a:=e _ d.1;have b:=d.2 _ c;omega
noncomputable def FO(l:Ql):Ql:=[l.sum,ZU l,aH l]
noncomputable def AL(sd cl:Ql)(b:YX):Ql:=FO<|MK sd cl b.1 b.2
noncomputable abbrev KJ(sd cl:Ql)(b:YX):Fb:=.tuple [BX b,wX<|AL sd cl b]
theorem GO{lo sd:Ql}(h:Bx lo hi sd):Xk lo hi≠[]:=λz=>by
 have:lo∈Xk lo hi:=by
  refine tY (a:=[]) (by simp) ?_;clear z;induction lo generalizing hi sd with
  |nil=>cases hi with
   |nil=>trivial
   |cons b hi=>cases sd<;>exact h.elim
  |cons a lo c =>
   cases hi with
   |nil=>cases sd<;>exact h.elim
   |cons b hi =>
    cases sd with
    |nil=>exact h.elim
    |cons s sd=>exact⟨rng2_mem.mpr ⟨i8 _,h.1.2.1⟩,c h.2⟩
 rw[z]at this;cases this
theorem iF{sd lo:Ql}(h:Bx lo hi sd):MK sd cl lo hi≠[]:=λz=>GO h<|i9.mp z
noncomputable def fb(sd cl:Ql):Fb->Fb
 | .tuple [.tuple lo,.tuple hi]=>KJ sd cl (lo.map unI,hi.map unI)
 |_=>.none
variable (P w K mg base) in
structure CalsLh:Prop where
 Js:Cal P w K mg base 1 "_law_stretches" ["_law_side"] (tX K wS)
def H_:Con:=λa Q=>∃sd:Ql,a=[.fz<|wX sd]/\Sd sd/\∀o,Q (.ow<|.list<|(VX sd).map BX) o
theorem kI(a:Bn)(p:Int×Int):BX (bo<|a++[p])=.tuple [.tuple<|(bo a).1.map n0++[.int p.1],.tuple<|(bo a).2.map n0++[.int p.2]]:=by unfold bo BX;simp only[Q3,E1,l9]
noncomputable def I_(c:Bn):Fb->Fb
 | .tuple [a,b]=>.tuple [.tuple<|(bo c).1.map n0++[a],.tuple<|(bo c).2.map n0++[b]]
 |_=>.none
theorem AS(F:Vl K "_law_half_boxes" (top 31) f fd)(T:Txt mg)(C:CalsLh P w K mg base):FnOk P w K mg base GJ 2 f fd ["_law_sides"] (tX K H_):=by
 have S:FnScope ["_law_sides","_law_found","_law_side","_law_longer","_law_low","_law_high"] ["_law_sides"] (sX<|top 31):={};refine PY F S (λfc A outer s H E hr=>qX (fZ 1<|aZ<|rX<|vX<|yX (vX HZ)<|rX<|vX HZ)<|qX (nK [2,3,4,5] (hZ rfl<|wv 0) (qZ 2)<|qX (fZ 3<|aZ HZ)<|qX (nK [4,5] (hZ rfl<|wv 1) (YJ Z rfl<|QX (qZ 4)<|QX (qZ 5) mJ)<|iZ<|ZZ<|xq GY Z PySem.F.slot_list_extend PySem.F.type_list_extend DY (wn 3)<|rX<|yu ["_law_a","_law_b"] [4,5] (hZ rfl<|EZ C.Js hr.m<|RX 2) (λ_ _ _ _=>YJ Z rfl<|QX (qZ 0)<|QX (qZ 1) mJ)<|λ_ _ _ _=>vX<|yX (JX (wn 2)<|wx<|vX<|rX<|wv 0)<|rX<|JX (wn 3)<|wx<|vX<|rX<|wv 1)<|iZ<|yq (i:=1) S.nd Z (Or.inl Z)<|wn 3)<|vZ<|eZ qD (AV rfl<|Cq hr) T.Xo Bh<|RX 1) ?_;rintro args Qd ⟨sd,rfl,B,q⟩;have h3:=B.l3;have hm:=B.m;have h9:=YU B;with_reducible refine mZ (λρ=>ρ=[Zt<|wX sd,Yt<|.list<|[[]].map λj=>BX<|bo j,U,U,U,U]) ?_ ?_
 .intro N hN;exact hN _ Z
 rintro _ rfl;with_reducible refine mZ (λρ=>ρ=[Zt<|wX sd,Yt<|.list<|(fF sd).map BX,U,U,U,U]) ?_ ?_
 .intro N hN;have L:∀p∈([[]]:List (List<|Int×Int)),p.length+sd.length<=3:=λp t=>by
   have e:p=[]:=by simpa using t
   rw[e];simpa using h3
  refine XZ (λrest ρ=>∃(b:List (List<|Int×Int)) (k:Ql),rest=k.map n0/\(∀c∈k,1<=c/\c<=120)/\cZ b (k.map XX)=cZ [[]] (sd.map XX)/\(∀p∈b,p.length+k.length<=3)/\ρ=[Zt<|wX sd,Yt<|.list<|b.map λj=>BX<|bo j,U,U,U,U]) ?_ ?_
   ⟨[[]],sd,Z,λc G=>⟨B.p c G,by have:=EJ B.p c G;omega⟩,Z,L,Z⟩
  .rintro d ds ρ ⟨b,k,v,jl,R,so,rfl⟩ M hM;cases k with
   |nil=>cases v
   |cons s k =>
    cases v;have hs:=jl s u0;have ei:∀c∈k,1<=c/\c<=120:=λc G=>jl c<|i0 _ G;have gr:cZ (b.flatMap λp=>(XX s).map λx=>p++[x]) (k.map XX)=cZ [[]] (sd.map XX):=R;have hlp:=GW (cs:=k.map XX) λc G=>by obtain⟨x,hx,rfl⟩:=J0.mp G;intro z;have Y:=LW (ei x hx).1;rw[z]at Y;have:=(ei x hx).1;simp at Y;omega
    have htot:(b.flatMap λp=>(XX s).map λx=>p++[x]).length<=960:=by have Y:=SZ (k.map XX)<|b.flatMap λp=>(XX s).map λx=>p++[x];rw[gr,SZ]at Y;have h2:(b.flatMap λp=>(XX s).map λx=>p++[x]).length<=(b.flatMap λp=>(XX s).map λx=>p++[x]).length*lenP (k.map XX):=l8 _ hlp;simp only[P3,EQ]at Y;omega
    have ie:=LW hs.1;with_reducible refine gnC Z ?_
    with_reducible refine mZ (λρ=>ρ=[Zt<|wX sd,Yt<|.list<|b.map λj=>BX<|bo j,Zt<|.int s,Yt<|.list [],U,U]) ?_ ?_
    .intro M2 y;exact y _ Z
    rintro _ rfl;with_reducible refine mZ (λρ=>ρ=[Zt<|wX sd,Zt<|.list<|b.map λj=>BX<|bo j,Zt<|.int s,Yt<|.list<|(b.flatMap λp=>(XX s).map λx=>p++[x]).map λj=>BX<|bo j,U,U]) ?_ ?_
    .intro M2 y;refine XZ (λrest ρ=>∃(I l:List (List<|Int×Int)),rest=(l.map λj=>BX<|bo j)/\(I++l.flatMap λp=>(XX s).map λx=>p++[x])=(b.flatMap λp=>(XX s).map λx=>p++[x])/\(∀p∈l,p∈b)/\ρ=[Zt<|wX sd,Zt<|.list<|b.map λj=>BX<|bo j,Zt<|.int s,Yt<|.list<|I.map λj=>BX<|bo j,U,U]) ?_ ?_ ⟨[],b,Z,Z,λp t=>t,Z⟩
     .rintro d ds ρ ⟨I,l,v,he,kf,rfl⟩ M3 hM3;cases l with
      |nil=>cases v
      |cons p l =>
       cases v;have jc:=so p<|kf p u0;have qm:(bo p).1.length=p.length:=j0 _;have ef:(bo p).2.length=p.length:=j0 _;have vi:I.length+(XX s).length<=960:=by have:=Rb U4 he;rw[N0,L5,N0,j0]at this;omega
       refine⟨Z,?_⟩;refine⟨s,Z,hs.1,by omega,λjb o t hu=>?_⟩;rw[Pj t hu,FD hs.1];refine⟨FX (by rw[j0];omega),EK (I_ p) ?_ ?_⟩
       .intro d hd N' wc;obtain⟨x,_,rfl⟩:=J0.mp hd;exact⟨Z,FX (by simp;simp at jc;omega),FX (by simp;simp at jc;omega),wc⟩
       .have e1:((XX s).map nJ).map (I_ p)=((XX s).map λx=>p++[x]).map λj=>BX (bo j):=by
         rw[O0,O0];exact S1 λx _=>(kI p x).symm
        rw[e1];refine⟨FX (by simp;omega),hM3 _ ⟨I++(XX s).map λx=>p++[x],l,Z,by rw[Y2,<-he,L5],λp' eh=>kf p'<|i0 _ eh,?_⟩⟩;rw[Q3];rfl
     .rintro ρ ⟨I,l,v,he,kf,rfl⟩;cases l with
      |cons p l=>cases v
      |nil=>rw[iQ,B3]at he;rw[<-he]at y;exact y _ Z
    rintro _ rfl;refine hM _ ⟨b.flatMap λp=>(XX s).map λx=>p++[x],k,Z,ei,gr,λp t=>?_,Z⟩;obtain⟨p',eh,hx⟩:=T6.mp t;obtain⟨x,_,rfl⟩:=J0.mp hx;have:=so p' eh;simp at this ⊢;omega
  .rintro ρ ⟨b,k,v,jl,R,so,rfl⟩;cases k with
   |cons a k=>cases v
   |nil =>
    have R:b=cZ [[]] (sd.map XX):=R;have e:(fF sd).map BX=b.map λj=>BX (bo j):=by unfold fF;rw[<-R,O0];rfl
    rw[e]at hN;exact hN _ Z
 rintro _ rfl;refine⟨fF sd,Z,q0 (gF B)<|by decide,λjb t hu=>?_⟩;rw[Ou t hu];exact q _
theorem jF(lo hi:Int):[lo,hi]∈hl lo hi:=by rw[Dj];exact u0
theorem Ru:∀(n:Nat) (lo hi:Int),(hi-lo).toNat=n->lo<=hi->∀a c:Int,[a,c]∈hl lo hi->a<c->[a,(a+c) / 2]∈hl lo hi/\[(a+c) / 2+1,c]∈hl lo hi:=by
 intro n;induction n using Z7 with
 |_ n d =>
  intro lo hi e h a c b i;by_cases j:lo<hi
  .rw[UU j]at b ⊢;rcases T0.mp b with z|z
   .injection z with z1 z2;injection z2 with z2 _;subst z1;subst z2;exact⟨i0 _<|S0 _<|jF _ _,i0 _<|i3 _<|jF _ _⟩
   .rcases W0.mp z with z|z
    .have:=d _ (by omega) ((lo+hi) / 2+1) hi Z (by omega) a c z i;exact⟨i0 _<|i3 _ this.1,i0 _<|i3 _ this.2⟩
    .have:=d _ (by omega) lo ((lo+hi) / 2) Z (by omega) a c z i;exact⟨i0 _<|S0 _ this.1,i0 _<|S0 _ this.2⟩
  .rw[VU j]at b;have z:=Y0.mp b;injection z with z1 z2;injection z2 with z2 _;omega
theorem Su:∀(n:Nat) (lo hi:Int),(hi-lo).toNat=n->lo<=hi->(hl lo hi).Nodup:=by
 intro n;induction n using Z7 with
 |_ n d =>
  intro lo hi e h;by_cases i:lo<hi
  .rw[UU i,k6,N6];have j:=fG _ ((lo+hi) / 2+1) hi Z (by omega);have k:=fG _ lo ((lo+hi) / 2) Z (by omega);refine⟨λz=>?_,d _ (by omega) _ _ rfl<|by omega,d _ (by omega) _ _ rfl<|by omega,λx hx y hy z=>?_⟩
   .rcases W0.mp z with z|z
    .obtain⟨a,b,c,l,m,q⟩:=j _ z;injection c with c _;omega
    .obtain⟨a,b,c,l,m,q⟩:=k _ z;injection c with _ c;injection c with c _;omega
   .obtain⟨a,b,c,l,m,q⟩:=j _ hx;obtain⟨C,F,t,G,v,B⟩:=k _ hy;rw[c,t]at z;injection z with z1 _;omega
  .rw[VU i];exact G5 _ _
theorem nz{n:Int}(h:1<=n):(XX n).Nodup:=by unfold XX;have d:(Nk n).Nodup:=(fJ _ _).nodup_iff.mpr (Su _ 0 (n-1) rfl<|by omega);refine J3.mpr<|List.Pairwise.imp_of_mem (λ{a b} e i c z=>?_) d;obtain⟨x,y,j,_⟩:=fG _ 0 (n-1) Z (by omega) a<|strS_mem.mp e;obtain⟨k,l,m,_⟩:=fG _ 0 (n-1) Z (by omega) b<|strS_mem.mp i;rw[j,m]at z c;have z:(x,y)=(k,l):=z;injection z with z1 z2;exact c (by rw[z1,z2])
theorem bH{α:Type}:∀{cs:List (List α)}{e:List (List α)},e.Nodup->(∀c∈cs,c.Nodup)->(cZ e cs).Nodup
 |[],_,h,_=>h
 |c::cs,e,h,j=>by
  refine bH (cs:=cs) ?_ λd hd=>j d<|i0 _ hd;refine BQ.mpr ⟨λp k=>?_,h.imp λ{a b} i x hx y hy z=>?_⟩
  .refine J3.mpr ((j c u0).imp λ{a b} i z=>i ?_);have:=oQ z;injection this
  .obtain⟨u,_,rfl⟩:=J0.mp hx;obtain⟨v,_,rfl⟩:=J0.mp hy;exact i (List.append_inj' z Z).1
theorem JO{b c:Bn}(h:bo b=bo c):b=c:=by
 unfold bo at h;injection h with h1 h2;have e:∀l:Bn,l=(l.map (·.1)).zip (l.map (·.2)):=λl=>by
  induction l with
  |nil=>rfl
  |cons a l d=>rw[E1,E1,E4,<-d]
 rw[e b,e c,h1,h2]
theorem qK{sd:Ql}(h:∀c∈sd,1<=c):(VX sd).Nodup:=by refine(fJ _ _).nodup_iff.mpr ?_;unfold fF;refine J3.mpr<|(bH (G5 _ _) λc d=>?_).imp λ{a b} e z=>e<|JO z;obtain⟨s,i,rfl⟩:=J0.mp d;exact nz<|h s i
noncomputable def bJ(b:YX)(i:Nat)(p:Int×Int):YX:=(b.1.set i p.1,b.2.set i p.2)
theorem kF:∀{sd:Ql}{a:Bn}{i:Nat}{s:Int}{q:Int×Int},Fj a (sd.map XX)->sd[i]?=O s->q∈XX s->Fj (a.set i q) (sd.map XX)
 |[],_,_,_,_,_,h,_=>by simp at h
 |s::sd,p::a,0,s',q,h,e,b=>by simp only[i6,Option.some.injEq]at e;subst e;exact⟨b,h.2⟩
 |s::sd,p::a,i+1,s',q,h,e,b=>by simp only[O3]at e;exact⟨h.1,kF h.2 e b⟩
 |_::_,[],_,_,_,h,_,_=>h.elim
theorem Tu:∀{sd:Ql}{a:Bn}{i:Nat}{s:Int},Fj a (sd.map XX)->sd[i]?=O s->∃p,a[i]?=O p/\p∈XX s
 |[],_,_,_,_,h=>by simp at h
 |s::sd,p::a,0,s',h,e=>by simp only[i6,Option.some.injEq]at e;subst e;exact⟨p,Z,h.1⟩
 |s::sd,p::a,i+1,s',h,e=>by simp only[O3]at e ⊢;exact Tu h.2 e
 |_::_,[],_,_,h,_=>h.elim
theorem Uu(a:Bn)(i:Nat)(q:Int×Int):bo (a.set i q)=bJ (bo a) i q:=by unfold bo bJ;rw[hX,hX]
theorem wY{sd:Ql}(t:∀c∈sd,1<=c){b:YX}(v:b∈VX sd){i:Nat}(hi:i<sd.length){a c:Int}(x:b.1[i]?=O a)(y:b.2[i]?=O c)(h:a<c):bJ b i (a,(a+c) / 2)∈VX sd/\bJ b i ((a+c) / 2+1,c)∈VX sd:=by
 obtain⟨d,j,rfl⟩:=hbs_mem.mp v;obtain⟨s,e⟩:∃s,sd[i]?=O s:=⟨_,M0 hi⟩;obtain⟨p,l,B⟩:=Tu j e;have k:=t s<|P2 e;have C:p.1=a:=by
  have:(bo d).1[i]?=O p.1:=by unfold bo;rw[G1,l];rfl
  rw[x]at this;exact(Z1 this).symm
 have F:p.2=c:=by
  have:(bo d).2[i]?=O p.2:=by unfold bo;rw[G1,l];rfl
  rw[y]at this;exact(Z1 this).symm
 have m:=(Qj k B).1;rw[C,F]at m;have q:=Ru _ 0 (s-1) Z (by omega) a c m h;refine⟨hbs_mem.mpr ⟨d.set i (a,(a+c) / 2),kF j e<|dF q.1,(Uu _ _ _).symm⟩,hbs_mem.mpr ⟨d.set i ((a+c) / 2+1,c),kF j e<|dF q.2,(Uu _ _ _).symm⟩⟩
theorem iG:∀{lo hi x:Ql}{i:Nat}{a c m:Int},lo.length=x.length->hi.length=x.length->lo[i]?=O a->hi[i]?=O c->a<=m->m<c -> (jz lo x hi=(jz (lo.set i a) x (hi.set i m)||jz (lo.set i<|m+1) x (hi.set i c)))/\¬(jz (lo.set i a) x (hi.set i m)=Ul/\jz (lo.set i<|m+1) x (hi.set i c)=Ul)
 |[],_,_,_,_,_,_,_,_,h,_,_,_=>by simp at h
 |l::lo,h::hi,y::x,0,a,c,m,e,j,b,d,k,q=>by
  simp only[i6,Option.some.injEq]at b d;subst b;subst d;simp only[dX,jz];cases jz lo x hi
  .simp
  .by_cases B:l<=y<;>by_cases C:y<=m<;>by_cases F:m+1<=y<;>by_cases G:y<=h<;>simp[B,C,F,G]<;>omega
 |l::lo,h::hi,y::x,i+1,a,c,m,e,j,b,d,k,q=>by
  simp only[O3]at b d;obtain⟨I,g2⟩:=iG (lo:=lo) (hi:=hi) (x:=x) (i:=i) (by simpa using e) (by simpa using j) b d k q;simp only[F9,jz];rw[I];constructor
  .cases (Uo (l<=y)&&Uo (y<=h))<;>simp
  .rintro⟨t,v⟩;rw[X1]at t v;exact g2 ⟨t.2,v.2⟩
 |_::_,[],_::_,_,_,_,_,_,h,_,_,_,_=>by simp at h
 |_::_,_,[],_,_,_,_,h,_,_,_,_,_=>by simp at h
theorem Rj{α:Type}{p q r:α->Bool}:∀{l:List α},(∀x∈l,p x=(q x||r x)/\¬(q x=Ul/\r x=Ul))->(l.filter p).Perm (l.filter q++l.filter r)
 |[],_=>List.Perm.refl _
 |x::l,h=>by
  have b:=Rj (l:=l) λy hy=>h y<|i0 _ hy;obtain⟨c,d⟩:=h x u0;rw[jQ,jQ,jQ,c];cases e:q x with
  |true =>
   have a:r x=false:=by cases a:r x with|false=>rfl|true=>exact absurd ⟨e,a⟩ d
   rw[a];simpa using b
  |false =>
   cases a:r x with
   |false=>simpa using b
   |true=>simp only[Bool.false_or,if_true,U2,if_false];exact(b.cons x).trans List.perm_middle.symm
theorem Pk{sd:Ql}{b:YX}(d:Bx b.1 b.2 sd){i:Nat}{a c m:Int}(e:b.1[i]?=O a)(j:b.2[i]?=O c)(k:a<=m)(l:m<c)(q:Bx (bJ b i (a,m)).1 (bJ b i (a,m)).2 sd)(t:Bx (bJ b i (m+1,c)).1 (bJ b i (m+1,c)).2 sd):(MK sd cl b.1 b.2).Perm (MK sd cl (bJ b i (a,m)).1 (bJ b i (a,m)).2++MK sd cl (bJ b i (m+1,c)).1 (bJ b i (m+1,c)).2):=by
 unfold MK;rw[<-Q3];refine List.Perm.map _ ?_;rw[<-mz d,<-mz q,<-mz t];refine Rj λx hx=>?_;have hl:=Yq<|zu hx;have ge:=wJ d;exact iG (by omega) (by omega) e j k l
theorem Vu:∀{l m:Ql},l.Perm m->l.sum=m.sum:=λh=>by
 induction h with
 |nil=>rfl
 |cons x _ a=>rw[X5,X5,a]
 |swap x y l=>rw[X5,X5,X5,X5];omega
 |trans _ _ b c=>rw[b,c]
theorem lI{l a b:Ql}(h:l.Perm (a++b))(c:a≠[])(d:b≠[]):FO l=[a.sum+b.sum,min (ZU a)<|ZU b,max (aH a)<|aH b]:=by
 unfold FO;have q:l.sum=a.sum+b.sum:=by rw[Vu h,List.sum_append]
 have i:=uY c;have j:=uY d;have k:=vY c;have m:=vY d;have t:min (ZU a) (ZU b)=ZU l:=by
  refine DO (h.mem_iff.mpr ?_) λy hy=>?_
  .rcases (show min (ZU a) (ZU b)=ZU a\/min (ZU a) (ZU b)=ZU b by omega) with e|e<;>rw[e]
   .exact i3 _ i.1
   .exact S0 _ j.1
  .rcases W0.mp (h.mem_iff.mp hy) with z|z
   .have:=i.2 y z;omega
   .have:=j.2 y z;omega
 have v:max (aH a) (aH b)=aH l:=by
  refine EO (h.mem_iff.mpr ?_) λy hy=>?_
  .rcases (show max (aH a) (aH b)=aH a\/max (aH a) (aH b)=aH b by omega) with e|e<;>rw[e]
   .exact i3 _ k.1
   .exact S0 _ m.1
  .rcases W0.mp (h.mem_iff.mp hy) with z|z
   .have:=k.2 y z;omega
   .have:=m.2 y z;omega
 rw[q,t,v]
theorem HD:∀(lo b:Ql),cZ [b] ((lo.zip lo).map λq=>aJ q.1 q.2)=[b++lo]
 |[],b=>by simp[cZ]
 |a::lo,b=>by
  have e:aJ a a=[a]:=by unfold aJ;rw[show (a+1-a).toNat=1 by omega];simp
  rw[E4,E1];show cZ ([b].flatMap λp=>(aJ a a).map λx=>p++[x]) _=_;rw[e];show cZ [b++[a]] _=_;rw[HD lo<|b++[a]];simp
theorem KO(sd cl lo:Ql):AL sd cl (lo,lo)=[cel sd cl lo,cel sd cl lo,cel sd cl lo]:=by unfold AL MK Xk;rw[HD lo []];show [(cel sd cl lo+0:Int),_,_]=_;rw[Int.add_zero];rfl
theorem Sj(p:Ql){i:Nat}(h:i<p.length)(x:Int):p.take i++x::p.drop (i+1)=p.set i x:=by rw[List.set_eq_take_append_cons_drop,Ib h]
noncomputable def cH(b:YX):Ql:=((S2 b.1.length).filter λi=>decide<|b.1.getD i 0<b.2.getD i 0).map λ(i:Nat)=>(i:Int)
theorem TV{b:YX}(hl:b.2.length=b.1.length){x:Int}(h:x∈cH b):∃(i:Nat) (a c:Int),x=i/\i<b.1.length/\b.1[i]?=O a/\b.2[i]?=O c/\a<c:=by
 obtain⟨i,hi,rfl⟩:=J0.mp h;obtain⟨d,e⟩:=Z8.mp hi;have d:=Q4.mp d;have j:b.1[i]?=O (b.1.getD i 0):=by rw[B2,M0 d];rfl
 have k:b.2[i]?=O (b.2.getD i 0):=by rw[B2,M0<|by omega];rfl
 exact⟨i,_,_,Z,d,j,k,Ob e⟩
theorem Tj{sd:Ql}{b:YX}(a:Bx b.1 b.2 sd)(h:cH b=[]):b.2=b.1:=by
 have hl:=wJ a;have j:=tQ.mp<|i9.mp h;refine List.ext_getElem (by omega) λi k c=>?_;have d:=j i<|Q4.mpr c;have m:=KW a (b.1[i],b.2[i]) (by
   have:i<(b.1.zip b.2).length:=by rw[o6];omega
   have e:=eQ (l:=b.1) (l':=b.2) (i:=i) (h:=this);rw[<-e];exact W5 _);rw[B2,B2,M0 c,M0 k]at d;simp at d;have:=m.2.1;simp only at this;omega
def J_:Con:=λa Q=>∃x:Int,a=[.fz<|.int x]/\∀o,Q (.fz<|wX [x,x,x]) o
theorem BS(F:Vl K "thrice" (top 21) f fd):FnOk P w K mg base GJ 1 f fd ["number"] (tX K J_):=by
 have S:FnScope ["number"] ["number"] (sX<|top 21):={};refine SA F S (λc A outer s H E d=>vZ<|vX<|yX (wv 0)<|yX (wv 0)<|rX<|wv 0) ?_ ?_
 .rintro a b ⟨x,rfl,_⟩;rfl
 .rintro a b ⟨x,rfl,q⟩;exact⟨wW Z,q _⟩
def K_:Con:=λa Q=>∃(p:Ql) (i:Nat) (x:Int),a=[.fz<|wX p,.fz<|.int i,.fz<|.int x]/\i<p.length/\p.length<=100/\∀o,Q (.fz<|wX<|p.set i x) o
theorem CS(F:Vl K "replaced" (top 5) f fd):FnOk P w K mg base GJ 1 f fd ["numbers","way","number"] (tX K K_):=by
 have S:FnScope ["numbers","way","number"] ["numbers","way","number"] (sX<|top 5):={};refine PY F S (λb A outer s H E c=>vZ<|JX (wx<|JX (wx<|fK Z (wn 0)<|wn 1)<|wx<|vX<|rX<|wv 2)<|wx<|IK Z (wn 0)<|wx<|JX (wn 1) xX) ?_;rintro a d ⟨p,i,x,rfl,hi,hl,q⟩;have e:(p.map n0).take (i:Int).toNat++[n0 x]++(p.map n0).drop ((i:Int)+1).toNat=(p.set i x).map n0:=by rw[show (i:Int).toNat=i by omega,show ((i:Int)+1).toNat=i+1 by omega,<-Sj p hi x];simp[X9,List.map_drop]
 unfold wX at q;rw[<-e]at q;exact⟨by omega,FX (by simp;omega),by show (0:Int)<=(i:Int)+1;omega,FX (by simp;omega),q _⟩
variable (P w K mg base) in
structure CalsWs:Prop where
 Jt:Cal P w K mg base 1 "replaced" ["numbers","way","number"] (tX K K_)
def L_:Con:=λa Q=>∃(b:YX) (i:Nat) (p:Int×Int),a=[.fz<|BX b,.fz<|.int i,.fz<|nJ p]/\i<b.1.length/\b.2.length=b.1.length/\b.1.length<=100/\∀o,Q (.fz<|BX<|bJ b i p) o
theorem DS(F:Vl K "with_stretch" (top 24) f fd)(C:CalsWs P w K mg base):FnOk P w K mg base GJ 2 f fd ["box","way","stretch"] (tX K L_):=by have S:FnScope ["box","way","stretch"] ["box","way","stretch"] (sX<|top 24):={};refine PY F S (λe A outer s H E a=>vZ<|vX<|yX (EZ C.Jt a.m<|yX (HX (wn 0) xX)<|KZ 1<|rX<|HX (wn 2) xX)<|rX<|EZ C.Jt a.m<|yX (HX (wn 0) xX)<|KZ 1<|rX<|HX (wn 2) xX) ?_;rintro c j ⟨b,i,p,rfl,hi,hl,d,q⟩;exact⟨_,Z,_,Z,b.1,i,p.1,Z,hi,d,λo=>⟨_,Z,_,Z,b.2,i,p.2,Z,by omega,by omega,λo=>q _⟩⟩
def M_:Con:=λa Q=>∃b:YX,a=[.fz<|BX b]/\b.2.length=b.1.length/\b.1.length<=100/\∀o,Q (.ow<|.list<|(cH b).map n0) o
theorem ES(F:Vl K "long_ways" (top 22) f fd)(T:Txt mg):FnOk P w K mg base GJ 1 f fd ["box"] (tX K M_):=by
 have S:FnScope ["box"] ["box"] (sX<|top 22):={};refine PY F S (λt A outer s H E v=>vZ<|qO ["way"] [0] (nY T.Xm<|rX<|VJ T.Qm<|rX<|HX (wn 0) xX) (λ_ _ _ _=>RA<|pJ tU sV (wx<|HX (wx<|HX (wn 1) xX)<|wn 0)<|wx<|HX (wx<|HX (wn 1) xX)<|wn 0)<|λ_ _ _ _=>wv 0) ?_;rintro l x ⟨b,rfl,hl,y,q⟩;have a:(b.1.map n0).length=b.1.length:=j0 _;refine⟨_,Z,by rw[a];omega,by rw[a];omega,by rw[SX,j0,e6,a];exact FX<|by omega,?_⟩;refine wR (λd=>decide<|b.1.getD (unI d).toNat 0<b.2.getD (unI d).toNat 0) id ?_ ?_
 .intro d hd N M hN j;rw[SX]at hd;obtain⟨k,c,rfl⟩:=J0.mp hd;have c:=Q4.mp c;rw[a]at c;have c:k<b.1.length:=by omega
  have e0:(0+(k:Int))=(k:Int):=by omega
  rw[e0]at hN j ⊢;have m:(unI<|.int (k:Int)).toNat=k:=by show (k:Int).toNat=k;omega
  simp only[m]at hN j;refine⟨_,Z,_,zJ c,_,Z,_,zJ<|by omega,kJ (λh=>hN h)<|λh=>j<|g6.mpr h⟩
 have e:((SX 0 ((b.1.map n0).length:Int).toNat).filter λd=>decide<|b.1.getD (unI d).toNat 0<b.2.getD (unI d).toNat 0).map id=(cH b).map n0:=by
  unfold cH;rw[U6,SX,a,List.filter_map,show ((b.1.length:Int)).toNat=b.1.length by omega,O0];have e:(S2 b.1.length).filter ((λd=>decide<|b.1.getD (unI d).toNat 0<b.2.getD (unI d).toNat 0)∘λ(i:Nat)=>n0<|0+i)=(S2 b.1.length).filter λi=>Uo (b.1.getD i 0<b.2.getD i 0):=by refine List.filter_congr λk _=>?_;show Uo (b.1.getD (0+(k:Int)).toNat 0<b.2.getD (0+(k:Int)).toNat 0)=_;rw[show (0+(k:Int)).toNat=k by omega]
  rw[e];refine S1 λk _=>?_;show n0 (0+(k:Int))=n0 (k:Int);rw[M7]
 rw[e];exact q _
variable (P w K mg base) in
structure CalsCa:Prop where
 Kl:Cal P w K mg base 1 "index_of" ["sides","place"] (tX K Ju)
def N_:Con:=λa Q=>∃sd cl p:Ql,a=[.fz<|JW sd cl,.fz<|wX p]/\Sd sd/\cl.length=(DJ sd).length/\Wi p sd/\∀o,Q (.fz<|.int<|cel sd cl p) o
theorem FS(F:Vl K "cell_at" (top 9) f fd)(C:CalsCa P w K mg base):FnOk P w K mg base GJ 2 f fd ["field","place"] (tX K N_):=by
 have S:FnScope ["field","place"] ["field","place"] (sX<|top 9):={};refine PY F S (λk A outer s H E e=>vZ<|HX (wx<|HX (wn 0) xX)<|wx<|EZ C.Kl e.m<|yX (HX (wn 0) xX)<|RX 1) ?_;rintro c l ⟨sd,cl,p,rfl,a,t,i,q⟩;have v:=a.l3;have x:=a.m;have y:=aF a.p;have hi:=BO i;refine⟨_,Z,_,Z,sd,p,Z,by omega,λs d=>?_,λo=>?_⟩
 .have B:=a.p s d;have G:=EJ a.p s d;omega
 .obtain⟨n,j⟩:=J5 hi.1;have b:n<cl.length:=by omega
  refine⟨.int<|cel sd cl p,?_,q _⟩;unfold cel;rw[j];exact zJ b
def O_:Con:=λa Q=>∃ts us:Ql,a=[.fz<|.list [wX ts,wX us]]/\ts.length=3/\us.length=3/\∀o,Q (.fz<|wX [ts.getD 0 0+us.getD 0 0,min (ts.getD 1 0)<|us.getD 1 0,max (ts.getD 2 0)<|us.getD 2 0]) o
theorem GS(F:Vl K "put_together" (top 17) f fd)(T:Txt mg):FnOk P w K mg base GJ 1 f fd ["parts"] (tX K O_):=by
 have S:FnScope ["parts","total"] ["parts"] (sX<|top 17):={};refine PY F S (λfc A outer s H E hr=>qX (fZ 1<|eZ yN (Xx (K:=K) Z Z) T.Zl boot_sum<|rX<|LK ["part"] [] (hZ rfl<|wv 0)<|λ_ _ _ _=>HX (wn 0) xX)<|vZ<|vX<|yX (wv 1)<|yX (eZ HN (yy (K:=K) Z Z) T.Qr boot_min<|rX<|LK ["part"] [] (hZ rfl<|wv 0)<|λ_ _ _ _=>HX (wn 0) xX)<|rX<|eZ IN (zy (K:=K) Z Z) T.Qo boot_max<|rX<|LK ["part"] [] (hZ rfl<|wv 0)<|λ_ _ _ _=>HX (wn 0) xX) ?_;rintro v x ⟨ts,us,rfl,y,B,q⟩;obtain⟨a,b,c,rfl⟩:∃a b c,ts=[a,b,c]:=by rcases ts with _|⟨a,_|⟨b,_|⟨c,_|⟨d,ts⟩⟩⟩⟩<;>first|exact⟨_,_,_,rfl⟩|(simp at y)
 obtain⟨i,j,k,rfl⟩:∃a b c,us=[a,b,c]:=by rcases us with _|⟨a,_|⟨b,_|⟨c,_|⟨d,ts⟩⟩⟩⟩<;>first|exact⟨_,_,_,rfl⟩|(simp at B)
 have q:∀o,x (.fz<|wX [a+i,min b j,max c k]) o:=q;with_reducible refine mZ (λρ=>ρ=[Zt<|.list [wX [a,b,c],wX [i,j,k]],Zt<|.int<|a+i]) ?_ ?_
 .intro N hN;refine⟨FX<|by simp,_,Z,_,Z,[a,i],Z,?_⟩;have e:[a,i].sum=a+i:=by simp
  rw[e];exact hN _ Z
 rintro _ rfl;refine⟨FX<|by simp,_,Z,_,Z,[b,j],Z,by simp,λm C l=>⟨FX<|by simp,_,Z,_,Z,[c,k],Z,by simp,λM G t=>?_⟩⟩;have I:m=min b j:=by
  have L:=l b (by simp);have R:=l j (by simp);have Y:m=b\/m=j:=by simpa using C
  omega
 have e2:M=max c k:=by
  have L:=t c (by simp);have R:=t k (by simp);have Y:M=c\/M=k:=by simpa using G
  omega
 rw[I,e2];exact q _
variable (P w K mg base) in
structure CalsFh:Prop where
 Zp:Cal P w K mg base 1 "two_halves" ["stretch"] (tX K tO)
 Km:Cal P w K mg base 2 "with_stretch" ["box","way","stretch"] (tX K L_)
 Kn:Cal P w K mg base 1 "put_together" ["parts"] (tX K O_)
theorem QJ:∀a b:Ql,Ih (a.map n0) (b.map n0)=Uo (a=b)
 |[],[]=>rfl
 |[],_::_=>by simp[Ih]
 |_::_,[]=>by simp[Ih]
 |x::a,y::b=>by have c:=QJ a b;simp only[E1,Ih,Kg,c];by_cases d:x=y<;>by_cases e:a=b<;>simp[d,e]
theorem xY:∀a b:Ql,SeqAt.noMixAll (a.map n0) (b.map n0)=Ul
 |[],[]=>rfl
 |[],_::_=>by simp[SeqAt.noMixAll]
 |_::_,[]=>by simp[SeqAt.noMixAll]
 |x::a,y::b=>by simp[SeqAt.noMixAll,SeqAt.noMix,xY a b]
theorem oV{a b:Ql}(h:wX a=wX b):a=b:=by injection h with h;exact g8 (λ_ _ z=>by injection z) |>.mp h
theorem ID(a b:Ql):Kg (wX a) (wX b)=Uo (a=b):=QJ a b
theorem lF(a b:Ql):SeqAt.noMix (wX a) (wX b)=true:=xY a b
noncomputable abbrev V3:=Int×Int×Int
noncomputable abbrev prT(x:V3):Fb:=wX [x.1,x.2.1,x.2.2]
theorem Wu(x y:V3):Kg (prT x) (prT y)=Uo (x=y):=by unfold prT;rw[ID];exact decide_eq_decide.mpr (by simp[Prod.ext_iff])
noncomputable def Uj(sd:Ql)(V:YX->V3):List (YX×Fb):=(VX sd).map λb=>(b,prT<|V b)
theorem UV{sd:Ql}{V:YX->V3}{b:YX}(h:b∈VX sd):(b,prT<|V b)∈Uj sd V:=J0.mpr ⟨b,h,Z⟩
noncomputable def Xu(x y:V3):V3:=(x.1+y.1,min x.2.1 y.2.1,max x.2.2 y.2.2)
noncomputable def mI(V:YX->V3)(b:YX)(i:Nat):V3:=Xu (V<|bJ b i (b.1.getD i 0,(b.1.getD i 0+b.2.getD i 0) / 2))<|V<|bJ b i ((b.1.getD i 0+b.2.getD i 0) / 2+1,b.2.getD i 0)
theorem jW{V:YX->V3}{b:YX}{i:Nat}{a c:Int}(d:b.1[i]?=O a)(e:b.2[i]?=O c):mI V b i=Xu (V<|bJ b i (a,(a+c) / 2)) (V<|bJ b i ((a+c) / 2+1,c)):=by
 have j:b.1.getD i 0=a:=by rw[B2,d];rfl
 have k:b.2.getD i 0=c:=by rw[B2,e];rfl
 unfold mI;rw[j,k]
noncomputable def Qk(sd cl:Ql)(V:YX->V3)(b:YX):Bool:=if cH b=[] then Uo (V b=(cel sd cl b.1,cel sd cl b.1,cel sd cl b.1)) else ((cH b).map λi=>decide<|V b=mI V b i.toNat).all id
noncomputable abbrev dH(sd cl:Ql)(b:YX):V3:=((MK sd cl b.1 b.2).sum,ZU<|MK sd cl b.1 b.2,aH<|MK sd cl b.1 b.2)
theorem mF{sd:Ql}{b:YX}(a:Bx b.1 b.2 sd)(h:cH b=[]):dH sd cl b=(cel sd cl b.1,cel sd cl b.1,cel sd cl b.1):=by have e:=KO sd cl b.1;have c:=Tj a h;rw[show ((b.1,b.1):YX)=b from Prod.ext Z c.symm]at e;unfold AL FO at e;simp only[List.cons.injEq,and_true]at e;exact Prod.ext e.1<|Prod.ext e.2.1 e.2.2
theorem fH{sd:Ql}(d:∀c∈sd,1<=c){b:YX}(l:b∈VX sd){i:Nat}(hi:i<sd.length){a c:Int}(j:b.1[i]?=O a)(k:b.2[i]?=O c)(h:a<c):dH sd cl b=mI (dH sd cl) b i:=by obtain⟨q,g2⟩:=wY d l hi j k h;have m:=tZ d q;have b2:=tZ d g2;have e:=lI (Pk (cl:=cl) (tZ d l) j k (by lia) (by lia) m b2) (iF m)<|iF b2;rw[jW j k];unfold FO at e;simp only[List.cons.injEq,and_true]at e;exact Prod.ext e.1<|Prod.ext e.2.1 e.2.2
noncomputable def nI(b:YX):Nat:=((b.1.zip b.2).map λp=>(p.2-p.1).toNat).sum
theorem oz:∀{lo hi:Ql}{i:Nat}{a c x y:Int},lo[i]?=O a->hi[i]?=O c->nI (lo.set i x,hi.set i y)+(c-a).toNat=nI (lo,hi)+(y-x).toNat
 |[],_,_,_,_,_,_,h,_=>by simp at h
 |_::_,[],_,_,_,_,_,_,h=>by simp at h
 |p::lo,q::hi,0,a,c,x,y,b,d=>by
  simp only[i6,Option.some.injEq]at b d;subst b d;simp only[nI,dX,E4,E1,X5]
  lia
 |p::lo,q::hi,i+1,a,c,x,y,b,d=>by
  simp only[O3]at b d;have:=oz (x:=x) (y:=y) b d;simp only[nI,F9,E4,E1,X5]at this ⊢
  lia
theorem gH{sd:Ql}{V:YX->V3}(l:∀c∈sd,1<=c)(h:∀b∈VX sd,Qk sd cl V b=Ul):∀(n:Nat),∀b∈VX sd,nI b<=n->V b=dH sd cl b
 |n,b,q,v=>by
  have d:=h b q;have C:=tZ l q;unfold Qk at d;by_cases z:cH b=[]
  .rw[Ib z]at d;rw[Ob d,mF C z]
  .rw[if_neg z]at d;obtain⟨x,rest,e⟩:=L9 z;have ge:=wJ C;obtain⟨i,a,c,hx,hi,j,k,m⟩:=TV (b:=b) (t9 ge.2 ge.1.symm) (x:=x) (by rw[e];exact u0);have F:V b=mI V b i:=by
    rw[e,hx]at d;simp only[E1,V9,X1,id]at d;exact Ob d.1
   have hi2:i<sd.length:=lt_of_lt_of_eq hi ge.1;obtain⟨l1,l2⟩:=wY l q hi2 j k m;have t:=oz (x:=a) (y:=(a+c) / 2) j k;have B:=oz (x:=(a+c) / 2+1) (y:=c) j k;have t:nI (bJ b i (a,(a+c) / 2))+(c-a).toNat=nI b+((a+c) / 2-a).toNat:=t;have B:nI (bJ b i ((a+c) / 2+1,c))+(c-a).toNat=nI b+(c-((a+c) / 2+1)).toNat:=B;cases n with
   |zero=>exact absurd (v0 (K7<|lt_of_eq_of_lt t<|S3 (ZT Z m) _) v)<|Nat.not_lt_zero _
   |succ n=>have i1:=gH l h n _ l1<|o4<|v0 (K7<|lt_of_eq_of_lt t<|S3 (ZT Z m) _) v;have i2:=gH l h n _ l2<|o4<|v0 (K7<|lt_of_eq_of_lt B<|S3 (d_ Z m) _) v;rw[F,fH (cl:=cl) l q hi2 j k m,jW j k,jW j k,i1,i2]
theorem LO{sd:Ql}{V:YX->V3}(k:∀c∈sd,1<=c)(h:∀b∈VX sd,V b=dH sd cl b){b:YX}(d:b∈VX sd):Qk sd cl V b=true:=by
 have l:=tZ k d;unfold Qk;split
 .rename_i z;rw[h b d,mF l z];exact Sb Z
 .rw[o9];refine L4.mpr λx hx=>?_;have ge:=wJ l;obtain⟨i,a,c,rfl,hi,e,j,m⟩:=TV (b:=b) (t9 ge.2 ge.1.symm) hx;have hi2:i<sd.length:=lt_of_lt_of_eq hi ge.1;obtain⟨l1,l2⟩:=wY k d hi2 e j m;refine Sb ?_;show V b=mI V b (i:Int).toNat;rw[show (i:Int).toNat=i from Z,h b d,fH (cl:=cl) k d hi2 e j m,jW e j,jW e j,h _ l1,h _ l2]
theorem Yu:∀{lo hi sd:Ql},Bx lo hi sd->Wi lo sd
 |[],[],[],_=>trivial
 |a::lo,b::hi,s::sd,h=>⟨⟨h.1.1,by have:=h.1;exact m5 this.2.1 this.2.2⟩,Yu h.2⟩
 |[],[],_::_,h=>h.elim
 |[],_::_,z,h=>by cases z<;>exact h.elim
 |_::_,[],z,h=>by cases z<;>exact h.elim
 |_::_,_::_,[],h=>h.elim
def P_:Con:=λd Q=>∃(sd:Ql) (V:YX->V3) (b:YX) (i:Nat) (a c:Int),d=[.fz<|tK<|Uj sd V,.fz<|BX b,.fz<|.int i]/\Sd sd/\b∈VX sd/\i<sd.length/\b.1[i]?=O a/\b.2[i]?=O c/\a<c/\∀o,Q (.fz<|prT<|mI V b i) o
theorem HS(F:Vl K "from_halves" (top 23) f fd)(T:Txt mg)(C:CalsFh P w K mg base):FnOk P w K mg base GJ 3 f fd ["told","box","way"] (tX K P_):=by
 have S:FnScope ["told","box","way","halves"] ["told","box","way"] (sX<|top 23):={};refine PY F S (λfc A outer s H E j=>qX (fZ 3<|EZ C.Zp j.m<|rX<|vX<|yX (HX (wx<|HX (wn 1) xX)<|wn 2)<|rX<|HX (wx<|HX (wn 1) xX)<|wn 2)<|vZ<|EZ C.Kn j.m<|rX<|LK ["half"] [0,1,2] (hZ rfl<|wv 3)<|λ_ _ _ _=>nV (IJ j) (wn 1)<|wx<|EZ C.Km j.m<|KZ 2<|KZ 3<|RX 0) ?_;rintro v Qd ⟨sd,V,b,i,a,c,rfl,d,x,hi,k,l,L,q⟩;have M:=d.l3;have y:=tZ d.p x;have ge:=wJ y;have t:=KW y (a,c) (by
   have:(b.1.zip b.2)[i]?=O (a,c):=by rw[S7];exact⟨k,l⟩
   exact P2 this);obtain⟨B,G,s,R,Y⟩:=t;have dm:=EJ d.p s R;have hm:=d.m;simp only at B G Y;have e:kH (b.1.map n0) (i:Int)=O (.int a):=QZ (by rw[G1,k];rfl);have zr:kH (b.2.map n0) (i:Int)=O (.int c):=QZ (by rw[G1,l];rfl);have I:=wY d.p x hi k l L;rw[jW k l]at q;with_reducible refine mZ (λρ=>ρ=[Zt<|tK<|Uj sd V,Zt<|BX b,Zt<|.int (i:Nat),Yt<|.list [nJ (a,(a+c) / 2),nJ ((a+c) / 2+1,c)]]) ?_ ?_
 .intro N hN;exact⟨_,Z,_,e,_,Z,_,zr,a,c,Z,by omega,K6 B G,by lia,by lia,λo=>hN _ Z⟩
 rintro _ rfl;refine⟨FX<|by simp,?_⟩;refine⟨b,i,(a,(a+c) / 2),Z,lt_of_lt_of_eq hi ge.1.symm,t9 ge.2 ge.1.symm,le_of_eq_of_le ge.1 (q0 M<|by decide),λo=>?_⟩;refine⟨Uj sd V,bJ b i (a,(a+c) / 2),_,Z,Z,UV I.1,?_⟩;refine⟨b,i,((a+c) / 2+1,c),Z,by omega,by omega,by omega,λo=>?_⟩;refine⟨Uj sd V,bJ b i ((a+c) / 2+1,c),_,Z,Z,UV I.2,?_⟩;exact⟨_,_,Z,Z,Z,λo=>q _⟩
variable (P w K mg base) in
structure CalsIr:Prop where
 Ko:Cal P w K mg base 1 "long_ways" ["box"] (tX K M_)
 Kp:Cal P w K mg base 1 "thrice" ["number"] (tX K J_)
 Kr:Cal P w K mg base 2 "cell_at" ["field","place"] (tX K N_)
 Ks:Cal P w K mg base 3 "from_halves" ["told","box","way"] (tX K P_)
def Q_:Con:=λa Q=>∃(sd cl:Ql) (V:YX->V3) (b:YX),a=[.fz<|JW sd cl,.fz<|tK<|Uj sd V,.fz<|BX b]/\Sd sd/\cl.length=(DJ sd).length/\b∈VX sd/\∀o,Q (.fz<|.bool<|Qk sd cl V b) o
noncomputable def Ua(V:YX->V3)(b:YX)(d:Fb):Fb:=.bool<|Kg (prT<|V b)<|prT<|mI V b (unI d).toNat
theorem IS(F:Vl K "is_right" (top 20) f fd)(T:Txt mg)(C:CalsIr P w K mg base):FnOk P w K mg base GJ 4 f fd ["field","told","box"] (tX K Q_):=by
 have S:FnScope ["field","told","box","ways"] ["field","told","box"] (sX<|top 20):={};refine PY F S (λfc A outer s H E e=>qX (fZ 3<|EZ C.Ko e.m<|RX 2)<|qX (BJ (XE e (wx<|VJ T.Qm<|RX 3) xX) (vZ<|zW uU (dW (K:=K) Z e.units) (wx<|nV (IJ e) (wn 1)<|wn 2)<|wx<|EZ C.Kp e.m<|rX<|EZ C.Kr e.m<|KZ 0<|rX<|HX (wn 2) xX) MZ)<|vZ<|eZ fV (RJ (K:=K) Z Z) T.Xt Xg<|rX<|LK ["way"] [1,2] (hZ rfl<|wv 3)<|λ_ _ _ _=>zW uU (dW (K:=K) Z e.units) (wx<|nV (IJ e) (wn 1)<|wn 2)<|wx<|EZ C.Ks e.m<|KZ 1<|KZ 2<|RX 0) ?_;rintro y Qd ⟨sd,cl,V,b,rfl,k,L,l,q⟩;have M:=k.l3;have B:=tZ k.p l;have ge:=wJ B;with_reducible refine mZ (λρ=>ρ=[Zt<|JW sd cl,Zt<|tK<|Uj sd V,Zt<|BX b,Yt<|.list<|(cH b).map n0]) ?_ ?_
 .intro N hN;exact⟨b,Z,t9 ge.2 ge.1.symm,le_of_eq_of_le ge.1 (q0 M<|by decide),λo=>hN _ Z⟩
 rintro _ rfl;with_reducible refine mZ (λρ=>cH b≠[]/\ρ=[Zt<|JW sd cl,Zt<|tK<|Uj sd V,Zt<|BX b,Yt<|.list<|(cH b).map n0]) ?_ ?_
 .intro N hN;refine kJ (λh=>?_)<|λh=>?_
  .have h:(((cH b).map n0).length:Int)=0:=Ob h;have j:cH b=[]:=by
    rw[j0]at h;exact k8.mp<|Y9 h
   have t:Qk sd cl V b=Uo (V b=(cel sd cl b.1,cel sd cl b.1,cel sd cl b.1)):=by unfold Qk;rw[Ib j]
   rw[t,<-Wu]at q;refine⟨Uj sd V,b,_,Z,Z,UV l,?_⟩;refine⟨_,Z,sd,cl,b.1,Z,k,L,Yu B,λo=>⟨cel sd cl b.1,Z,λo=>?_⟩⟩;have G:=Nice.tup [cel sd cl b.1,cel sd cl b.1,cel sd cl b.1];have I:=Nice.tup [(V b).1,(V b).2.1,(V b).2.2];exact⟨I.p,G.p,I.sh<|by decide,G.sh<|by decide,lF [(V b).1,(V b).2.1,(V b).2.2] [cel sd cl b.1,cel sd cl b.1,cel sd cl b.1],q _⟩
  .refine hN _ ⟨λz=>h ?_,Z⟩;rw[z];exact Sb Z
 rintro _ ⟨R,rfl⟩;have v:(cH b).length<=100:=by
  unfold cH;rw[j0];have:=List.length_filter_le (λi=>decide<|b.1.getD i 0<b.2.getD i 0)<|S2 b.1.length;rw[e6]at this
  lia
 refine⟨FX (by rw[j0];exact q0 v<|by decide),EK (Ua V b) ?_ ?_⟩
 .intro d hd N hN;obtain⟨x,hx,rfl⟩:=J0.mp hd;obtain⟨i,a,c,rfl,hi,Y,hc,cg⟩:=TV (by omega) hx;refine⟨Uj sd V,b,_,Z,Z,UV l,?_⟩;refine⟨sd,V,b,i,a,c,Z,k,l,lt_of_lt_of_eq hi ge.1,Y,hc,cg,λo=>?_⟩;exact⟨(Nice.tup _).p,(Nice.tup _).p,(Nice.tup _).sh<|by decide,(Nice.tup _).sh<|by decide,lF _ _,hN⟩
 .have t:Qk sd cl V b=((cH b).map λi=>decide<|V b=mI V b i.toNat).all id:=by unfold Qk;rw[if_neg R]
  rw[t]at q;refine⟨_,?_,q _⟩;rw[O0,O0];refine S1 λx _=>?_;show Y3 (Kg _ _)=Y3 _;rw[Wu];rfl
noncomputable abbrev Rk(V:YX->V3)(b:YX):Fb:=.tuple [BX b,prT<|V b]
noncomputable def pV(sd:Ql)(b:YX):Fb->Bool
 | .tuple [x,y]=>SY sd x&&(Kg x (BX b)&&HV 3 y)
 |_=>Um
theorem Zu{sd:Ql}{b:YX}{e:Ur}(h:e.length≠2):pV sd b (.tuple e)=false:=by rcases e with _|⟨a,_|⟨c,_|⟨d,e⟩⟩⟩<;>first|rfl|simp at h
theorem Vj(a b c d:Ql):Kg (.tuple [wX a,wX b]) (.tuple [wX c,wX d])=(Uo (a=c)&&Uo (b=d)):=by show (Ih (a.map n0) (c.map n0)&&(Ih (b.map n0) (d.map n0)&&Ul))=_;rw[QJ,QJ,V7]
theorem aB(a b c d:Ql):SeqAt.noMix (.tuple [wX a,wX b]) (.tuple [wX c,wX d])=true:=by simp[SeqAt.noMix,SeqAt.noMixAll,xY]
theorem WV(b:YX):Nice 2 (BX b):=.tuple λd hd=>by
 have hd:d=wX b.1\/d=wX b.2:=by simpa using hd
 rcases hd with rfl|rfl
 .exact Nice.tup _
 .exact Nice.tup _
theorem Sk{d:Fb}(h:HV n d=Ul):∃ns:Ql,d=wX ns/\ns.length=n:=by
 cases d<;>simp only[HV,X1]at h<;>first|(cases h;done)|skip
 obtain⟨ns,e⟩:=ints_of h.2;refine⟨ns,by rw[e],?_⟩;have:=Ob h.1;rw[e,j0]at this;exact this
theorem Wj{sd:Ql}{d:Fb}(h:SY sd d=Ul):∃b:YX,d=BX b:=by
 cases d with
 |tuple a =>
  rcases a with _|⟨x,_|⟨y,_|⟨z,a⟩⟩⟩<;>first|(cases h;done)|skip
  simp only[SY,X1]at h;obtain⟨p,rfl,_⟩:=KY h.1.1;obtain⟨q,rfl,_⟩:=KY h.1.2;exact⟨(p,q),Z⟩
 |_=>cases h
theorem oI{sd:Ql}{b:YX}{d:Fb}(h:pV sd b d=Ul):∃x:V3,d=.tuple [BX b,prT x]:=by
 cases d with
 |tuple e =>
  rcases e with _|⟨x,_|⟨y,_|⟨z,e⟩⟩⟩<;>first|(cases h;done)|skip
  simp only[pV,X1]at h;obtain⟨i,a,j⟩:=h;obtain⟨c,rfl⟩:=Wj i;obtain⟨ns,rfl,hl⟩:=Sk j;have a:Kg (.tuple [wX c.1,wX c.2]) (.tuple [wX b.1,wX b.2])=true:=a;rw[Vj,X1]at a;obtain⟨u,v,w,rfl⟩:∃u v w,ns=[u,v,w]:=by rcases ns with _|⟨u,_|⟨v,_|⟨w,_|⟨z,ns⟩⟩⟩⟩<;>first|exact⟨_,_,_,rfl⟩|simp at hl
  exact⟨(u,v,w),by rw[show c=b from Prod.ext (Ob a.1)<|Ob a.2]⟩
 |_=>cases h
theorem bB{sd:Ql}{b:YX}(a:Bx b.1 b.2 sd)(x:V3):pV sd b (.tuple [BX b,prT x])=true:=by have c:SY sd (BX b)=true:=iI a;have d:Kg (BX b) (BX b)=true:=same_self _;show (SY sd (BX b)&&(Kg (BX b) (BX b)&&Ul))=Ul;rw[c,d];rfl
noncomputable def xF:Fb->YX
 | .tuple [.tuple p,.tuple w]=>(p.map unI,w.map unI)
 |_=>([],[])
theorem yY(b:YX):xF (BX b)=b:=by show ((b.1.map n0).map unI,(b.2.map n0).map unI)=b;rw[JY,JY]
theorem BL:∀{ls:List YX}{ds:Ur}{sd:Ql},ls.Nodup->ds.length=ls.length->(∀p∈ls.zip ds,pV sd p.1 p.2=Ul)->∃V:YX->V3,ds=ls.map (Rk V)
 |[],[],_,_,_,_=>⟨λ_=>(0,0,0),Z⟩
 |[],_::_,_,_,h,_=>by simp at h
 |_::_,[],_,_,h,_=>by simp at h
 |b::ls,d::ds,sd,a,hl,h=>by
  have h0:pV sd b d=true:=h (b,d) (by rw[E4];exact u0);obtain⟨x,rfl⟩:=oI h0;have a:=k6.mp a;obtain⟨V,e⟩:=BL (ls:=ls) (ds:=ds) a.2 (by simpa using hl) λp i=>h p (by rw[E4];exact i0 _ i);refine⟨λc=>if c=b then x else V c,?_⟩;rw[E1];congr 1
  .unfold Rk;dsimp only;rw[Ib Z]
  .rw[e];refine S1 λc j=>?_;unfold Rk;dsimp only;rw[if_neg (λz:c=b=>a.1<|z ▸ j)]
theorem JD{b c:α}:∀{l:List α},(b,c)∈l.zip l->b=c
 |[],h=>by simp at h
 |x::l,h=>by
  rw[E4]at h;rcases T0.mp h with z|z
  .injection z with z1 z2;rw[z1,z2]
  .exact JD z
variable (P w K mg base) in
structure CalsIe:Prop where
 Kt:Cal P w K mg base 4 "is_box" ["sides","thing"] (tX K Hu)
 Zs:Cal P w K mg base 2 "are_wholes" ["thing","many"] (tX K Gu)
def R_:Con:=λa Q=>∃(sd:Ql) (b:YX) (d:Fb),a=[.fz<|wX sd,.fz<|BX b,.fz d]/\BV d=Ul/\Sd sd/\∀o,Q (.fz<|.bool<|pV sd b d) o
theorem JS(F:Vl K "is_entry" (top 19) f fd)(T:Txt mg)(C:CalsIe P w K mg base):FnOk P w K mg base GJ 5 f fd ["sides","box","thing"] (tX K R_):=by
 have S:FnScope ["sides","box","thing"] ["sides","box","thing"] (sX<|top 19):={};refine PY F S (λI A outer s H E j=>qX (BJ (BN<|Yx (vV<|AW<|jV .tup Z T.Xp T.Xs Yh<|wn 2)<|SH<|Ek j (wx<|VJ T.Qm<|RX 2) xX) (vZ OY) MZ)<|vZ<|Yz (EZ C.Kt j.m<|KZ 0<|rX<|HX (wn 2) xX)<|Yz (zW uU (dW (K:=K) Z j.units) (wx<|HX (wn 2) xX)<|wn 1)<|Xv<|EZ C.Zs j.m<|yX (HX (wn 2) xX)<|rX UX) ?_;rintro l v ⟨sd,b,d,rfl,hd,B,q⟩;have G:=B.l3;cases d with
 |dict L=>exact⟨hd,q _⟩
 |int i=>exact q _
 |bool b=>exact q _
 |none=>exact q _
 |str x=>exact q _
 |list e=>exact q _
 |tuple e =>
  refine kJ (λh=>?_)<|λh=>?_
  .have h:(!Uo ((e.length:Int)=2))=true:=h;rw[Zu<|λz=>by rw[z]at h;cases h]at q;exact q _
  have hl:e.length=2:=by have h:¬(!Uo ((e.length:Int)=2))=true:=h;simp at h;exact Y9 h
  obtain⟨x,y,rfl⟩:∃x y,e=[x,y]:=by rcases e with _|⟨a,_|⟨c,_|⟨d,e⟩⟩⟩<;>first|exact⟨_,_,rfl⟩|simp at hl
  have hd:okAll [x,y]=true:=hd;have hx:=pK hd x (by simp);have hy:=pK hd y (by simp);have q:∀o,v (.fz<|.bool<|SY sd x&&(Kg x (BX b)&&HV 3 y)) o:=q;refine⟨_,Z,sd,x,Z,hx,q0 G<|by decide,λo=>?_⟩;cases k:SY sd x with
  |false=>rw[k]at q;exact q _
  |true =>
   rw[k]at q;obtain⟨c,rfl⟩:=Wj k;have n1:=WV c;have t:=WV b;refine⟨_,Z,n1.p,t.p,n1.sh<|by decide,t.sh<|by decide,aB _ _ _ _,kJ (λh=>?_)<|λh=>?_⟩
   .have h:Kg (BX c) (BX b)=true:=h;rw[h]at q;exact⟨_,Z,y,3,Z,hy,(by decide),λo=>q _⟩
   .have h:Kg (BX c) (BX b)=false:=g6.mpr h;rw[h]at q;exact q _
variable (P w K mg base) in
structure CalsHh:Prop where
 Yl:Cal P w K mg base 3 "half_boxes" ["sides"] (tX K G_)
 Ym:Cal P w K mg base 5 "is_entry" ["sides","box","thing"] (tX K R_)
 Yn:Cal P w K mg base 4 "is_right" ["field","told","box"] (tX K Q_)
def S_:Con:=λa Q=>∃(sd cl:Ql) (d:Fb),a=[.fz<|JW sd cl,.fz d]/\(BV d=Ul\/∃b,d=tK b)/\Sd sd/\cl.length=(DJ sd).length/\∀(t:Bool) (o:Ev),(t=Ul↔d=.list ((VX sd).map<|KJ sd cl))->Q (.fz<|.bool t) o
noncomputable def T_(sd:Ql):Fb->Fb
 | .tuple [x,y]=>.bool<|pV sd (xF x) y
 |_=>.none
theorem KS(F:Vl K "holds_halves" (top 18) f fd)(T:Txt mg)(C:CalsHh P w K mg base):FnOk P w K mg base GJ 6 f fd ["field","thing"] (tX K S_):=by
 have S:FnScope ["field","thing","boxes","told"] ["field","thing"] (sX<|top 18):={};refine PY F S (λfc A outer s H E t=>qX (fZ 2<|EZ C.Yl t.m<|rX<|HX (wn 0) xX)<|qX (BJ (BN<|Yx (vV<|AW<|nO .lst Z T.Xp T.Xr Se<|wn 1)<|SH<|Ek t (wx<|VJ T.Qm<|RX 1)<|wx<|VJ T.Qm<|RX 2) (vZ OY) MZ)<|qX (BJ (vV<|AW<|eZ fV (RJ (K:=K) Z Z) T.Xt Xg<|rX<|yu ["box","entry"] [0] (xU Z T.Qs<|yX (wv 2)<|rX<|wv 1) (λ_ _ _ _=>YJ Z rfl<|QX (qZ 0)<|QX (qZ 1) mJ)<|λ_ _ _ _=>EZ C.Ym t.m<|yX (HX (wn 2) xX)<|KZ 0<|RX 1) (vZ OY) MZ)<|qX (fZ 3<|tD Z Z (IJ t) T.Zm (by decide +kernel)<|RX 1)<|vZ<|eZ fV (RJ (K:=K) Z Z) T.Xt Xg<|rX<|LK ["box"] [0,3] (hZ rfl<|wv 2)<|λ_ _ _ _=>EZ C.Yn t.m<|KZ 1<|KZ 2<|RX 0) ?_;rintro L Qd ⟨sd,cl,d,rfl,hd,k,R,q⟩;have hl:=LY k;with_reducible refine mZ (λρ=>ρ=[Zt<|JW sd cl,Zt d,Yt<|.list<|(VX sd).map BX,U]) ?_ ?_
 .intro N hN;exact⟨_,Z,sd,Z,k,λo=>hN _ Z⟩
 rintro _ rfl;with_reducible refine mZ (λρ=>∃a,d=.list a/\a.length=(VX sd).length/\ρ=[Zt<|JW sd cl,Zt<|.list a,Yt<|.list<|(VX sd).map BX,U]) ?_ ?_
 .intro N hN;have no:(∀a,d≠.list a)->(Um=Ul↔d=.list ((VX sd).map<|KJ sd cl)):=λh=>⟨λz=>(by cases z),λz=>(h _ z).elim⟩;cases d with
  |dict es=>exact hd.elim (λhd=>.inl ⟨hd,q Um _<|no λ_ z=>by cases z⟩) λ⟨B,e⟩=>.inr ⟨B,e,q Um _<|no λ_ z=>by cases z⟩
  |int i=>exact .inl (q Um _<|no λ_ z=>by cases z)
  |bool b=>exact .inl (q Um _<|no λ_ z=>by cases z)
  |none=>exact .inl (q Um _<|no λ_ z=>by cases z)
  |str x=>exact .inl (q Um _<|no λ_ z=>by cases z)
  |tuple xs=>exact .inl (q Um _<|no λ_ z=>by cases z)
  |list a =>
   replace hd:BV (.list a)=true:=hd.elim id λ⟨B,e⟩=>by cases e
   refine .inl<|kJ (λh=>?_)<|λh=>?_
   .have h:(!Uo ((a.length:Int)=(((VX sd).map BX).length:Int)))=true:=h;refine q Um _ ⟨λz=>(by cases z),λz=>?_⟩;injection z with z;rw[z,j0,j0]at h;simp at h
   .refine hN _ ⟨a,Z,?_,Z⟩;have h:¬(!Uo ((a.length:Int)=(((VX sd).map BX).length:Int)))=true:=h;rw[j0]at h;simp at h;exact Y9 h
 rintro _ ⟨a,rfl,Y,rfl⟩
 replace hd:BV (.list a)=true:=hd.elim id λ⟨B,e⟩=>by cases e
 with_reducible refine mZ (λρ=>∃V,a=(VX sd).map (Rk V)/\ρ=[Zt<|JW sd cl,Zt<|.list a,Zt<|.list<|(VX sd).map BX,U]) ?_ ?_
 .intro N hN;have M:DG ((VX sd).map BX) a=((VX sd).zip a).map λp=>J1 [BX p.1,p.2]:=by
   unfold DG;rw[List.zip_map_left,O0];rfl
  refine⟨by rw[M,j0,o6];exact FX (q0 (b9 _ _)<|q0 hl<|by decide),?_⟩;rw[M];refine EK (T_ sd) ?_ ?_
  .intro d' mr G l;obtain⟨⟨b,e⟩,j,rfl⟩:=J0.mp mr;have j:=l6 j;have l:G (.bool<|pV sd (xF<|BX b) e) _:=l;rw[yY]at l;exact⟨Z,_,Z,sd,b,e,Z,pK hd e j.2,k,λo=>l⟩
  .have em:(((VX sd).zip a).map λp=>J1 [BX p.1,p.2]).map (T_ sd)=(((VX sd).zip a).map λp=>pV sd p.1 p.2).map Y3:=by
    rw[O0,O0];refine S1 λp _=>?_;show Y3 (pV sd (xF<|BX p.1) p.2)=_;rw[yY];rfl
   refine⟨_,em,?_⟩;cases v:(((VX sd).zip a).map λp=>pV sd p.1 p.2).all id with
   |false =>
    refine q Um _ ⟨λz=>(by cases z),λz=>?_⟩;injection z with z;exfalso;rw[z]at v;have:(((VX sd).zip<|(VX sd).map<|KJ sd cl).map λp=>pV sd p.1 p.2).all id=true:=by rw[o9];refine L4.mpr λp y=>?_;rw[List.zip_map_right]at y;obtain⟨⟨b,c⟩,j,rfl⟩:=J0.mp y;have I:b=c:=JD j;subst I;exact bB (tZ k.p (l6 j).1)<|dH sd cl b
    rw[this]at v;cases v
   |true =>
    obtain⟨V,e⟩:=BL (qK k.p) Y λp y=>by rw[o9]at v;exact L4.mp v p y
    exact hN _ ⟨V,e,Z⟩
 rintro _ ⟨V,rfl,rfl⟩;with_reducible refine mZ (λρ=>ρ=[Zt<|JW sd cl,Zt<|.list<|(VX sd).map<|Rk V,Zt<|.list<|(VX sd).map BX,Zt<|tK<|Uj sd V]) ?_ ?_
 .intro N hN;refine⟨Uj sd V,?_,?_,hN _ Z⟩
  .unfold Uj;rw[O0];rfl
  .unfold Uj;rw[O0];have e:((λx:YX×Fb=>x.1)∘λb:YX=>(b,prT<|V b))=id:=rfl;rw[e,U6];exact qK k.p
 rintro _ rfl;refine⟨FX (by rw[j0];exact q0 hl<|by decide),EK (λd=>.bool<|Qk sd cl V<|xF d) ?_ ?_⟩
 .intro d hd G l;obtain⟨b,j,rfl⟩:=J0.mp hd;have l:G (.bool<|Qk sd cl V<|xF<|BX b) _:=l;rw[yY]at l;exact⟨sd,cl,V,b,Z,k,R,j,λo=>l⟩
 .refine⟨(VX sd).map<|Qk sd cl V,?_,q _ _ ⟨λh=>?_,λh=>?_⟩⟩
  .rw[O0,O0];refine S1 λb _=>?_;show Y3 (Qk sd cl V<|xF<|BX b)=_;rw[yY];rfl
  .rw[o9]at h;have h:=L4.mp h;congr 1;refine S1 λb j=>?_;have e:=gH k.p h _ b j<|A0 _;show J1 [BX b,prT<|V b]=J1 [BX b,wX<|AL sd cl b];rw[e];rfl
  .injection h with h;rw[o9];refine L4.mpr λb j=>?_;refine LO k.p (λc hc=>?_) j;have:=U9.mp h c hc;have e:prT (V c)=wX (AL sd cl c):=by
    injection this with this;injection this with _ this;injection this
   have e:=oV e;unfold AL FO at e;simp only[List.cons.injEq,and_true]at e;exact Prod.ext e.1<|Prod.ext e.2.1 e.2.2
variable (P w K mg base) in
structure CalsSm:Prop where
 Jm:Cal P w K mg base 1 "_law_take" ["_law_pen_here","_law_most"] (tX K yD)
 Yo:Cal P w K mg base 2 "_law_number" ["_law_pen_here"] (tX K Lj)
def cB:Con:=λa Q=>∃(ns:Ql) (k l:Int),a=[.io<|OJ ns k l]/\0<=k/\0<=l/\∀(sd cl:Ql) (b d:Int) (o:Ev),Sd sd->dZ sd<=24->cl.length=(DJ sd).length->(∀c∈cl,Jk c)->0<=b->0<=d->Q (.fz<|.tuple [JW sd cl,wG<|eJ sd cl]) (O (.io<|OJ ns b d)::o)
theorem eB(F:Vl K "_law_small" (top 29) f fd)(T:Txt mg)(C:CalsSm P w K mg base):FnOk P w K mg base GJ 3 f fd ["_law_pen_here"] (tX K cB):=by
 have S:FnScope ["_law_pen_here","_law_most","_law_sides","_law_places","_law_side","_law_longer","_law_place","_law_cells"] ["_law_pen_here"] (sX<|top 29):={};refine PY F S (λfc A outer s H E hr=>qX (fZ 1<|HX (wx<|aZ<|yX (aZ<|rX UX)<|yX (aZ<|yX UX<|rX UX)<|yX (aZ<|yX UX<|yX UX<|rX UX)<|rX<|aZ<|yX UX<|rX UX)<|wx<|XJ C.Jm hr.m<|KZ 0<|rX UX)<|qX (fZ 2<|Gk T.Xs<|rX<|LK ["_law_side"] [0] (hZ rfl<|wv 1)<|λ_ _ _ _=>JX xX<|wx<|XJ C.Jm hr.m<|KZ 1<|RX 0)<|qX (fZ 3<|aZ<|rX<|vX HZ)<|qX (nK [4,5,6] (hZ rfl<|wv 2) (qZ 4)<|qX (fZ 5<|aZ HZ)<|qX (nK [6] (hZ rfl<|wv 3) (qZ 6)<|iZ<|ZZ<|xq GY Z PySem.F.slot_list_extend PySem.F.type_list_extend DY (wn 5)<|rX<|LK ["_law_number_here"] [6] (nY T.Xm<|RX 4)<|λ_ _ _ _=>JX (wn 1)<|wx<|vX<|rX<|wv 0)<|iZ<|yq (i:=3) S.nd Z (Or.inl Z)<|wn 5)<|qX (fZ 7<|Gk T.Xs<|rX<|LK ["_law_place"] [0] (hZ rfl<|wv 3)<|λ_ _ _ _=>XJ C.Yo hr.m<|RX 1)<|vZ<|vX<|yX (vX<|yX (wv 2)<|rX<|wv 7)<|rX<|O' Z Z (Cq hr) T.Zm (by decide +kernel) T.Qs<|KZ 3<|RX 7) ?_;rintro args Qd ⟨ns,k,l,rfl,hk,hl,q⟩;with_reducible refine mZ (λρ=>∃(G:Ql) (t l1:Int),Mst G/\dZ G<=24/\0<=t/\0<=l1/\ρ=[O<|.io<|OJ ns t l1,Zt<|.list<|G.map n0,U,U,U,U,U,U]) ?_ ?_
 .intro N hN;refine⟨ns,k,l,4,Z,hk,hl,by decide,by decide,λr t l1 _ r0 r1 re ud=>?_⟩;rcases (show r=0\/r=1\/r=2\/r=3 by lia) with rfl|rfl|rfl|rfl
  .exact⟨.list<|[8].map n0,Z,hN _ ⟨[8],t,l1,⟨by decide,by decide,by decide,by decide⟩,by decide,re,ud,Z⟩⟩
  .exact⟨.list<|[3,3].map n0,Z,hN _ ⟨[3,3],t,l1,⟨by decide,by decide,by decide,by decide⟩,by decide,re,ud,Z⟩⟩
  .exact⟨.list<|[2,2,2].map n0,Z,hN _ ⟨[2,2,2],t,l1,⟨by decide,by decide,by decide,by decide⟩,by decide,re,ud,Z⟩⟩
  .exact⟨.list<|[2,12].map n0,Z,hN _ ⟨[2,12],t,l1,⟨by decide,by decide,by decide,by decide⟩,by decide,re,ud,Z⟩⟩
 rintro _ ⟨G,k0,l0,hM,fg,yh,hl0,rfl⟩;have h3:=hM.l3;with_reducible refine mZ (λρ=>∃(sd:Ql) (t l1:Int),Sd sd/\dZ sd<=24/\0<=t/\0<=l1/\ρ=[O<|.io<|OJ ns t l1,Zt<|.list<|G.map n0,Zt<|wX sd,U,U,U,U,U]) ?_ ?_
 .intro N hN;refine⟨FX (by rw[j0];exact q0 h3<|by decide),Xz (λrest b τ=>∃(dn j cs:Ql) (y B:Int),G=dn++j/\rest=j.map n0/\b=cs.map n0/\LeP cs dn/\τ=[U,O<|.io<|OJ ns y B]/\0<=y/\0<=B) ?_ ?_ ⟨[],G,[],k0,l0,Z,Z,Z,trivial,Z,yh,hl0⟩⟩
  .rintro d ds b τ ⟨dn,j,cs,y,B,em,v,rfl,ah,rfl,om,jm⟩ N' wc;cases j with
   |nil=>cases v
   |cons m j=>cases v;have hm:=hM.p m (by rw[em];simp);refine⟨ns,y,B,m,Z,om,jm,hm.1,m5 hm.2<|by decide,λx k5 l5 _ x0 x1 hk5 vi=>?_⟩;exact wc _ _ ⟨dn++[m],j,cs++[1+x],k5,l5,by rw[em];simp,Z,by simp[Sl.d],ah.snoc (by lia)<|by lia,Z,hk5,vi⟩
  .rintro b τ ⟨dn,j,cs,y,B,em,v,rfl,ah,rfl,om,jm⟩;cases j with
   |cons _ _=>cases v
   |nil=>rw[B3]at em;subst em;exact hN _ ⟨cs,y,B,ah.sd hM,K6 ah.prod fg,om,jm,Z⟩
 rintro _ ⟨sd,t,l1,vb,hs24,re,ud,rfl⟩;have hm:=vb.m;have jc:=aF vb.p;have L:=vb.p;have h3s:=vb.l3;with_reducible refine mZ (λρ=>ρ=[O<|.io<|OJ ns t l1,Zt<|.list<|G.map n0,Zt<|wX sd,Yt<|.list [.tuple []],U,U,U,U]) ?_ ?_
 .intro N hN;exact hN _ Z
 rintro _ rfl;with_reducible refine mZ (λρ=>ρ=[O<|.io<|OJ ns t l1,Zt<|.list<|G.map n0,Zt<|wX sd,Yt<|.list<|(DJ sd).map wX,U,U,U,U]) ?_ ?_
 .intro NE hE;refine XZ (λrest ρ=>∃(b:List Ql) (j:Ql),ρ=[O<|.io<|OJ ns t l1,Zt<|.list<|G.map n0,Zt<|wX sd,Yt<|.list<|b.map wX,U,U,U,U]/\rest=j.map n0/\(∀c∈j,1<=c)/\cZ b (j.map rng)=DJ sd/\(∀p∈b,p.length+j.length<=3)) ?_ ?_
   ⟨[[]],sd,Z,Z,L,Z,λp L=>by simp at L;subst L;simpa using h3s⟩
  .rintro d ds ρ ⟨b,j,rfl,v,jl,vc,so⟩ N hN;cases j with
   |nil=>cases v
   |cons a j =>
    cases v;have ha1:=jl a u0;have lp:∀c∈j,1<=c:=λc hc=>jl c<|i0 _ hc;have hlp:=GW (cs:=j.map rng) λc hc=>by
     obtain⟨x,hx,rfl⟩:=J0.mp hc;intro z;have:=Rb U4 z;rw[IW]at this;have:=lp x hx;simp at *
     lia
    have htot:(b.flatMap λp=>(rng a).map λx=>p++[x]).length<=1000:=by
     have h1:=SZ (j.map rng)<|b.flatMap λp=>(rng a).map λx=>p++[x];have h2:(cZ (b.flatMap λp=>(rng a).map λx=>p++[x])<|j.map rng)=DJ sd:=vc;rw[h2]at h1;have h3:=SZ (sd.map rng) [[]];have h4:=WU L;unfold DJ at h1;have hq:(b.flatMap λp=>(rng a).map λx=>p++[x]).length<=(b.flatMap λp=>(rng a).map λx=>p++[x]).length*lenP (j.map rng):=l8 _ hlp;simp only[P3,EQ]at h3;have h5:=Nat.le_trans hq (Nat.le_of_eq (h1.symm.trans h3));first|exact Nat.le_trans h5 (Nat.le_trans (Int.ofNat_le.mp (Int.le_trans (Int.le_of_eq h4) hs24)) (by decide))|(refine Nat.le_trans h5 ?_;have h6:=Int.le_trans (Int.le_of_eq h4) hs24;clear hq h5 h1 h3;omega)|(have h6:=Int.ofNat_le.mpr h5;have h7:=Int.le_trans h6 (Int.le_trans (Int.le_of_eq h4) hs24);omega)
    refine XZ (λrest ρ=>∃(Y I:List Ql),ρ=[O<|.io<|OJ ns t l1,Zt<|.list<|G.map n0,Zt<|wX sd,Zt<|.list<|b.map wX,Zt<|.int a,Yt<|.list<|Y.map wX,U,U]/\rest=I.map wX/\(Y++I.flatMap λp=>(rng a).map λx=>p++[x])=(b.flatMap λp=>(rng a).map λx=>p++[x])/\(∀p∈I,p∈b)) ?_ ?_
     ⟨[],b,Z,Z,Z,λp L=>L⟩
    .rintro d ds ρ ⟨Y,I,rfl,v,he,kf⟩ M hM;cases I with
     |nil=>cases v
     |cons p I =>
      cases v;have jc:=so p<|kf p u0;have vi:Y.length+(rng a).length<=1000:=by
       have:=Rb U4 he;rw[N0,L5,N0,j0]at this
       lia
      have hra:a.toNat<=1000:=by rw[IW]at vi;exact E6 vi
      refine⟨by lia,by lia,by rw[SX,j0,e6];exact FX hra,EK (λd=>.tuple<|p.map n0++[d]) ?_ ?_⟩
      .rintro d hd R hR;exact⟨by simp only[j0,P3];simp at jc;exact FX<|by lia,hR⟩
      .refine⟨by rw[j0,j0,SX,j0,e6];rw[IW]at vi;exact FX<|by omega,?_⟩;refine hM _ ⟨Y++(rng a).map λx=>p++[x],I,?_,Z,by rw[Y2,<-he,L5],λp' eh=>kf p'<|i0 _ eh⟩;have e1:(Y.map wX)++((SX 0 a.toNat).map λd=>J1<|p.map n0++[d])=(Y++(rng a).map λx=>p++[x]).map wX:=by
        rw[Xq,Q3,O0,O0];congr 1;refine S1 λx _=>?_;simp[wX]
       rw[<-e1];rfl
    .rintro ρ ⟨Y,I,rfl,v,he,kf⟩;cases I with
     |cons p I=>cases v
     |nil =>
      rw[iQ,B3]at he;refine hN _ ⟨b.flatMap λp=>(rng a).map λx=>p++[x],j,?_,Z,lp,vc,λp L=>?_⟩
      .rw[he];rfl
      .obtain⟨p',eh,hx⟩:=T6.mp L;obtain⟨x,_,rfl⟩:=J0.mp hx;have:=so p' eh;simp at this ⊢
       lia
  .rintro ρ ⟨b,j,rfl,v,jl,vc,so⟩;cases j with
   |cons a j=>cases v
   |nil=>have vc:b=DJ sd:=vc;rw[vc];exact hE _ Z
 rintro _ rfl;with_reducible refine mZ (λρ=>∃(cl:Ql) (t l1:Int),cl.length=(DJ sd).length/\(∀c∈cl,Jk c)/\0<=t/\0<=l1/\ρ=[O<|.io<|OJ ns t l1,Zt<|.list<|G.map n0,Zt<|wX sd,Zt<|.list<|(DJ sd).map wX,U,U,U,Zt<|wX cl]) ?_ ?_
 .intro N hN;refine⟨FX (by rw[j0];lia),Xz (λrest b τ=>∃(cs:Ql) (y B:Int),b=cs.map n0/\cs.length+rest.length=(DJ sd).length/\(∀c∈cs,Jk c)/\τ=[U,O<|.io<|OJ ns y B]/\0<=y/\0<=B) ?_ ?_ ⟨[],t,l1,Z,by simp,λc hc=>(by cases hc),Z,re,ud⟩⟩
  .rintro d ds b τ ⟨cs,y,B,rfl,ub,hB,rfl,om,jm⟩ N' wc;refine⟨ns,y,B,Z,om,jm,λx k5 l5 _ hx hk5 vi=>?_⟩;refine wc _ _ ⟨cs++[x],k5,l5,by simp[Sl.d],by simp at ub ⊢;lia,λc hc=>?_,Z,hk5,vi⟩;rcases W0.mp hc with z|z
   .exact hB c z
   .rw[Y0.mp z];exact hx
  .rintro b τ ⟨cs,y,B,rfl,ub,hB,rfl,om,jm⟩;exact hN _ ⟨cs,y,B,by simpa using ub,hB,om,jm,Z⟩
 rintro _ ⟨cl,k2,l2,jd,hB,xi,wd,rfl⟩;have e1:(DJ sd).map wX=(eJ sd cl).map λp=>tI p.1:=by
  unfold eJ;rw[O0];have e:(DJ sd).map wX=(((DJ sd).zip cl).map (·.1)).map wX:=by rw[List.map_fst_zip<|A1 jd.symm]
  rw[e,O0];rfl
 have e2:cl.map n0=(eJ sd cl).map (·.2):=by
  unfold eJ;rw[O0];have e:cl.map n0=(((DJ sd).zip cl).map (·.2)).map n0:=by rw[fQ<|A1 jd]
  rw[e,O0];rfl
 have e3:(eJ sd cl).map (·.1)=DJ sd:=by unfold eJ;rw[O0];exact List.map_fst_zip (by omega)
 refine⟨eJ sd cl,Rb O e1,Rb O e2,by rw[e3];exact hG vb.p,?_⟩;exact q sd cl k2 l2 _ vb hs24 jd hB xi wd
noncomputable def IV:Ql->Ql->Int
 |a::lo,b::hi=>(b-a+1)*IV lo hi
 |_,_=>1
noncomputable abbrev QW(b:YX):Int:=IV b.1 b.2
theorem Xj:∀{lo hi:Ql}{i:Nat}{a c m:Int},lo[i]?=O a->hi[i]?=O c->IV (lo.set i a) (hi.set i m)+IV (lo.set i<|m+1) (hi.set i c)=IV lo hi
 |[],_,_,_,_,_,h,_=>by simp at h
 |_::_,[],_,_,_,_,_,h=>by simp at h
 |p::lo,q::hi,0,a,c,m,b,d=>by
  simp only[i6,Option.some.injEq]at b d;subst b d;show (m-p+1)*IV lo hi+(q-(m+1)+1)*IV lo hi=(q-p+1)*IV lo hi;rw[<-Int.add_mul];congr 1
  lia
 |p::lo,q::hi,i+1,a,c,m,b,d=>by simp only[O3]at b d;have:=Xj (m:=m) b d;show (q-p+1)*IV (lo.set i a) (hi.set i m)+(q-p+1)*IV (lo.set i<|m+1) (hi.set i c)=(q-p+1)*IV lo hi;rw[<-Int.mul_add,this]
theorem MY:∀{lo hi sd:Ql},Bx lo hi sd->1<=IV lo hi/\IV lo hi<=dZ sd
 |[],[],[],_=>⟨by decide,by decide⟩
 |a::lo,b::hi,s::sd,h=>by
  obtain⟨d,i⟩:=MY h.2;have c:=h.1;have e:dZ (s::sd)=s*dZ sd:=rfl;refine⟨?_,?_⟩
  .show 1<=(b-a+1)*IV lo hi;have:=B7 (show (1:Int)<=b-a+1 by exact E7<|RQ c.2.1) d (by exact(by decide)) (by exact Int.le_add_one<|RQ c.2.1)
   lia
  .show (b-a+1)*IV lo hi<=_;rw[e];exact B7 (by lia) i (j9 d)<|K6 c.1<|K6 c.2.1<|j9 c.2.2
 |[],[],_::_,h=>h.elim
 |[],_::_,z,h=>by cases z<;>exact h.elim
 |_::_,[],z,h=>by cases z<;>exact h.elim
 |_::_,_::_,[],h=>h.elim
theorem LS:∀{lo hi sd:Ql},Bx lo hi sd->∀c∈sd,1<=c
 |[],[],[],_,c,d=>by cases d
 |a::lo,b::hi,s::sd,h,c,d=>by
  rcases T0.mp d with rfl|z
  .have:=h.1;exact m5 this.1<|m5 this.2.1 this.2.2
  .exact LS h.2 c z
 |[],[],_::_,h,_,_=>h.elim
 |[],_::_,z,h,_,_=>by cases z<;>exact h.elim
 |_::_,[],z,h,_,_=>by cases z<;>exact h.elim
 |_::_,_::_,[],h,_,_=>h.elim
theorem KD{l:Ql}{i:Nat}{a:Int}(h:l[i]?=O a):l.set i a=l:=by
 refine A8 λj=>?_;by_cases e:i=j
 .subst e;have:i<l.length:=by
   rcases m8 i l.length with z|z
   .exact z
   .rw[M8 z]at h;cases h
  rw[B8 this,h]
 .rw[W1 e]
theorem LD:∀(lo hi:Ql) (f:Int),(lo.zip hi).foldl (λf p=>f*(p.2-p.1+1)) f=f*IV lo hi
 |[],_,f=>by simp[IV]
 |_::_,[],f=>by simp[IV]
 |a::lo,b::hi,f=>by rw[E4,Y7,LD lo hi];show f*(b-a+1)*IV lo hi=f*((b-a+1)*IV lo hi);rw[XQ]
theorem fB(h:n<=100000):n<=sizeLine:=q0 h (by decide)
theorem X'{α:Type}{l:List α}{m:Nat}(h:l.length<=m)(n:Nat):(l.take n).length<=m:=q0 (Y8 _ _) h
theorem U_{α:Type}{l:List α}{m:Nat}(h:l.length<=m)(n:Nat):(l.drop n).length<=m:=by rw[K2];exact q0 (A7 _ _) h
theorem V_{l:Ql}{m:Nat}(h:l.length<=m):(l.map n0).length<=m:=by rw[j0];exact h
theorem tk3{l:Ql}(h:l.length<=3)(n:Nat):((l.map n0).take n).length<=3:=X' (V_ h) n
theorem MS{l:Ql}(h:l.length<=3)(n:Nat):((l.map n0).drop n).length<=3:=U_ (V_ h) n
theorem NS(x z:Int):min x z=if z<x then z else x:=by rw[Int.min_def];split<;>split<;>lia
theorem OS(x z:Int):max x z=if z > x then z else x:=by rw[Int.max_def];split<;>split<;>lia
theorem lz(h:Nat.ble n 1000=Ul):n<=sizeLine:=FX<|N1 h
theorem nn(t:Nat):(0:Int)<=((t:Nat):Int):=G9 t
theorem n1(t:Nat):(0:Int)<=((t:Nat):Int)+1:=Int.le_add_one<|nn t
theorem WK{a b x y:Nat}(h:x<=a)(k:y<=b)(z:a+b<=100000):x+y<=sizeLine:=fB (by lia)
theorem TY{l m:Ur}{a b:Nat}(h:l.length<=a)(k:m.length<=b):(l++m).length<=a+b:=by rw[N0];exact Nat.add_le_add h k
def W_:Con:=λa Q=>∃(sd:Ql) (b:YX),a=[.fz<|BX b]/\Bx b.1 b.2 sd/\dZ sd<=1000/\sd.length<=3/\∀o,Q (.fz<|.int<|QW b) o
theorem pI(F:Vl K "_law_size" (top 32) f fd)(T:Txt mg):FnOk P w K mg base GJ 1 f fd ["_law_box"] (tX K W_):=by
 have S:FnScope ["_law_box","_law_found","_law_a","_law_b"] ["_law_box"] (sX<|top 32):={};refine PY F S (λt A outer s H E v=>qX (fZ 1 UX)<|qX (nK [2,3] (xU Z T.Qs<|yX (HX (wn 0) xX)<|rX<|HX (wn 0) xX) (YJ Z rfl<|QX (qZ 2)<|QX (qZ 3) mJ)<|iZ<|fZ 1<|xD (wn 1)<|wx<|JX (wx<|YG (wn 3)<|wn 2) xX)<|Hk 1) ?_;rintro k y ⟨sd,b,rfl,l,B,C,q⟩;have c:=LD b.1 b.2 1;rw[DQ]at c;refine⟨_,Z,_,Z,XZ (λrest ρ=>∃(f:Int) (a:Bn),ρ=[Zt<|BX b,Zt<|.int f,U,U]/\rest=a.map (λp=>J1 [.int p.1,.int p.2])/\(∀p∈a,p∈b.1.zip b.2)/\a.foldl (λf p=>f*(p.2-p.1+1)) f=QW b) ?_ ?_
   ⟨1,b.1.zip b.2,Z,IY _ _,λ_ h=>h,c⟩⟩
 .rintro d G ρ ⟨f,a,rfl,i,j,e⟩ N hN;cases a with
  |nil=>cases i
  |cons p a=>cases i;obtain⟨I,g2,s',m,L⟩:=KW l p<|j p u0;have M:=EJ (LS l) s' m;exact⟨Z,.inr ⟨by lia,by lia⟩,hN _ ⟨f*(p.2-p.1+1),a,Z,Z,λx hx=>j x<|i0 _ hx,e⟩⟩
 .rintro ρ ⟨f,a,rfl,i,j,e⟩;cases a with
  |nil=>have e:f=QW b:=e;subst e;exact q _
  |cons _ _=>cases i
def X_:Con:=λd Q=>∃(T:List (YX×Fb)) (b:YX) (i:Nat) (rest:Ql) (a c:Int) (x y:V3),d=[.fz<|tK T,.fz<|BX b]/\b.1.length=b.2.length/\b.2.length<=3/\i<b.2.length/\cH b=(i:Int)::rest/\b.1[i]?=O a/\b.2[i]?=O c /\
 0<=a/\a<c/\c<=1000/\(bJ b i (a,(a+c) / 2),prT x)∈T/\(bJ b i ((a+c) / 2+1,c),prT y)∈T/\∀o,Q (.fz<|prT<|Xu x y) o
theorem QS(F:Vl K "_law_together" (top 33) f fd)(T:Txt mg):FnOk P w K mg base GJ 1 f fd ["_law_table","_law_box"] (tX K X_):=by
 have S:FnScope ["_law_table","_law_box","_law_low","_law_high","_law_way","_law_middle","_law_one","_law_other"] ["_law_table","_law_box"] (sX<|top 33):={};refine PY F S (λfc A outer s H E R=>qX (yU (wv 1)<|YJ Z rfl<|QX (qZ 2)<|QX (qZ 3) mJ)<|qX (fZ 4<|HX (wx<|qO ["_law_at"] [2,3] (nY T.Xm<|rX<|VJ T.Qm<|RX 2) (λ_ _ _ _=>RA<|pJ tU sV (wx<|HX (wn 1)<|wn 0)<|wx<|HX (wn 2)<|wn 0)<|λ_ _ _ _=>wv 0) xX)<|qX (fZ 5<|w_bin DK vK (wx<|JX (wx<|HX (wn 2)<|wn 4)<|wx<|HX (wn 3)<|wn 4) xX)<|qX (fZ 6<|nV (IJ R) (wn 0)<|wx<|vX<|yX (wv 2)<|rX<|JX (wx<|JX (wx<|fK Z (wn 3)<|wn 4)<|wx<|vX<|rX<|wv 5)<|wx<|IK Z (wn 3)<|wx<|JX (wn 4) xX)<|qX (fZ 7<|nV (IJ R) (wn 0)<|wx<|vX<|yX (JX (wx<|JX (wx<|fK Z (wn 2)<|wn 4)<|wx<|vX<|rX<|JX (wn 5) xX)<|wx<|IK Z (wn 2)<|wx<|JX (wn 4) xX)<|rX<|wv 3)<|vZ<|vX<|yX (JX (wx<|HX (wn 6) xX)<|wx<|HX (wn 7) xX)<|yX (eZ JI (vx Z) T.Qr boot_min<|yX (HX (wn 6) xX)<|rX<|HX (wn 7) xX)<|rX<|eZ JI (ux Z) T.Qo boot_max<|yX (HX (wn 6) xX)<|rX<|HX (wn 7) xX) ?_;rintro Y Qd ⟨l,b,i,rest,a,c,x,y,rfl,ge,G,hi,hp,ha,hc,ha0,cg,hc1,m1,m2,q⟩;have t:(b.1.map n0).length=b.1.length:=j0 _;have I:b.1.length<=3:=by rw[ge];exact G
 have B:kH (b.1.map n0) (i:Int)=O (.int a):=QZ (by rw[G1,ha];rfl);have zr:kH (b.2.map n0) (i:Int)=O (.int c):=QZ (by rw[G1,hc];rfl);have C:∀(p:Ql) (v:Int),i<p.length->(p.map n0).take (i:Int).toNat++[n0 v]++(p.map n0).drop ((i:Int)+1).toNat=(p.set i v).map n0:=λp v hi=>by rw[show (i:Int).toNat=i by lia,show ((i:Int)+1).toNat=i+1 by lia,<-Sj p hi v];simp[X9,List.map_drop]
 with_reducible refine mZ (λρ=>ρ=[Zt<|tK l,Zt<|BX b,Zt<|wX b.1,Zt<|wX b.2,U,U,U,U]) ?_ ?_
 .intro N hN;exact⟨Z,hN _ Z⟩
 rintro _ rfl;with_reducible refine mZ (λρ=>ρ=[Zt<|tK l,Zt<|BX b,Zt<|wX b.1,Zt<|wX b.2,Zt<|.int (i:Nat),U,U,U]) ?_ ?_
 .intro N hN;refine⟨by rw[t];lia,by rw[t];lia,by rw[SX,j0,e6,t];exact FX<|by lia,?_⟩;refine wR (λd=>decide<|b.1.getD (unI d).toNat 0<b.2.getD (unI d).toNat 0) id ?_ ?_
  .intro d hd N M hN L;rw[SX]at hd;obtain⟨k,m,rfl⟩:=J0.mp hd;have m:=Q4.mp m;rw[t]at m;have m:k<b.1.length:=lt_of_lt_of_eq m<|t7 _;have e0:(0+(k:Int))=(k:Int):=M7 _;rw[e0]at hN L ⊢;have ek:(unI<|.int (k:Int)).toNat=k:=by show (k:Int).toNat=k;exact t7 _
   simp only[ek]at hN L;refine⟨_,zJ m,_,zJ<|lt_of_lt_of_eq m ge,kJ (λh=>hN h)<|λh=>L<|g6.mpr h⟩
  have e:((SX 0 ((b.1.map n0).length:Int).toNat).filter λd=>decide<|b.1.getD (unI d).toNat 0<b.2.getD (unI d).toNat 0).map id=(cH b).map n0:=by
   unfold cH;rw[U6,SX,t,List.filter_map,show ((b.1.length:Int)).toNat=b.1.length by exact t7 _,O0];have e:(S2 b.1.length).filter ((λd=>decide<|b.1.getD (unI d).toNat 0<b.2.getD (unI d).toNat 0)∘λ(i:Nat)=>n0<|0+i)=(S2 b.1.length).filter λi=>Uo (b.1.getD i 0<b.2.getD i 0):=by refine List.filter_congr λk _=>?_;show Uo (b.1.getD (0+(k:Int)).toNat 0<b.2.getD (0+(k:Int)).toNat 0)=_;rw[show (0+(k:Int)).toNat=k by lia]
   rw[e];refine S1 λk _=>?_;show n0 (0+(k:Int))=n0 (k:Int);rw[M7]
  rw[e,hp];exact⟨_,QZ (j:=0) Z,hN _ Z⟩
 rintro _ rfl;with_reducible refine mZ (λρ=>ρ=[Zt<|tK l,Zt<|BX b,Zt<|wX b.1,Zt<|wX b.2,Zt<|.int (i:Nat),Zt<|.int<|(a+c) / 2,U,U]) ?_ ?_
 .intro N hN;exact⟨_,B,_,zr,⟨by decide,by decide⟩,hN _ Z⟩
 rintro _ rfl;have k1:J1 [wX b.1,.tuple<|(b.2.map n0).take (i:Int).toNat++[n0<|(a+c) / 2]++(b.2.map n0).drop ((i:Int)+1).toNat]=BX (bJ b i (a,(a+c) / 2)):=by rw[C b.2 _ hi];show _=J1 [wX<|b.1.set i a,wX<|b.2.set i<|(a+c) / 2];rw[KD ha]
 have k2:J1 [.tuple<|(b.1.map n0).take (i:Int).toNat++[n0<|(a+c) / 2+1]++(b.1.map n0).drop ((i:Int)+1).toNat,wX b.2]=BX (bJ b i ((a+c) / 2+1,c)):=by rw[C b.1 _<|lt_of_lt_of_eq hi ge.symm];show _=J1 [wX<|b.1.set i<|(a+c) / 2+1,wX<|b.2.set i c];rw[KD hc]
 with_reducible refine mZ (λρ=>ρ=[Zt<|tK l,Zt<|BX b,Zt<|wX b.1,Zt<|wX b.2,Zt<|.int (i:Nat),Zt<|.int<|(a+c) / 2,Zt<|prT x,U]) ?_ ?_
 .intro N hN;exact⟨nn i,WK (tk3 G _) (A0 1)<|by decide,n1 i,WK (TY (tk3 G _)<|A0 1) (MS G _)<|by decide,l,_,_,Z,k1,m1,hN _ Z⟩
 rintro _ rfl;with_reducible refine mZ (λρ=>ρ=[Zt<|tK l,Zt<|BX b,Zt<|wX b.1,Zt<|wX b.2,Zt<|.int (i:Nat),Zt<|.int<|(a+c) / 2,Zt<|prT x,Zt<|prT y]) ?_ ?_
 .intro N hN;exact⟨nn i,WK (tk3 I _) (A0 1)<|by decide,n1 i,WK (TY (tk3 I _)<|A0 1) (MS I _)<|by decide,l,_,_,Z,k2,m2,hN _ Z⟩
 rintro _ rfl;unfold Xu at q;rw[NS,OS]at q;exact⟨_,Z,_,Z,_,Z,_,Z,_,Z,_,Z,q _⟩
def Bd(b:YX)(y:V3):Prop:=y.1.natAbs<=(QW b).toNat*(10 ^ 27+1)/\y.2.1.natAbs<=10 ^ 27+1/\y.2.2.natAbs<=10 ^ 27+1
noncomputable def tbl(V:YX->V3)(bs:List YX):List (YX×Fb):=bs.map λb=>(b,prT<|V b)
theorem nF{V:YX->V3}{bs:List YX}{b:YX}(h:b∈bs):(b,prT<|V b)∈tbl V bs:=J0.mpr ⟨b,h,Z⟩
theorem qI{V:YX->V3}{bs:List YX}{b:YX}(h:b∉bs)(y:V3):NU (tbl V bs) b (prT y)=tbl (λc=>if c=b then y else V c) (bs++[b]):=by
 have e:(tbl V bs).map (·.1)=bs:=by unfold tbl;rw[O0];exact U6 bs
 unfold NU;rw[e,if_neg h];unfold tbl;rw[Q3];congr 1
 .refine S1 λc a=>?_;dsimp only;rw[if_neg λz:c=b=>h<|z ▸ a]
 .show [(b,prT y)]=[(b,prT<|if b=b then y else V b)];rw[Ib Z]
noncomputable abbrev RS:=Yi<|YX×V3
noncomputable def CL:RS->Fb
 |none=>.none
 |some z=>BX z.1
noncomputable def bP:RS->Fb
 |none=>.none
 |some z=>prT z.2
def SS(sd cl:Ql)(a:RS)(b:YX)(y:V3):Prop:=Bd b y/\(a=U->y=dH sd cl b)/\∀x,a=O (b,x)->y=x
theorem MO{a b:Int}(h:a.natAbs<=n)(k:b.natAbs<=n):(min a b).natAbs<=n:=by rw[Int.min_def];split<;>assumption
theorem NO{a b:Int}(h:a.natAbs<=n)(k:b.natAbs<=n):(max a b).natAbs<=n:=by rw[Int.max_def];split<;>assumption
theorem Tk{sd:Ql}{d:List (Int×Fb)}(h:d.Perm (((VX sd).map QW).zip<|(VX sd).map BX))(a:d.Pairwise λp q=>p.1<=q.1):∃bs:List YX,bs.Perm (VX sd)/\d.map (·.2)=bs.map BX/\bs.Pairwise λb c=>QW b<=QW c:=by
 have e:((VX sd).map QW).zip ((VX sd).map BX)=(VX sd).map λb=>(QW b,BX b):=by rw[List.zip_map']
 rw[e]at h;have j:∀p∈d,p=(QW<|xF p.2,BX<|xF p.2):=λp a=>by obtain⟨b,_,rfl⟩:=J0.mp<|h.mem_iff.mp a;show (QW b,BX b)=(QW<|xF<|BX b,BX<|xF<|BX b);rw[yY]
 refine⟨d.map λp=>xF p.2,?_,?_,?_⟩
 .have:=h.map λp=>xF p.2;rw[O0]at this;have i:(VX sd).map ((λp:Int×Fb=>xF p.2)∘λb:YX=>(QW b,BX b))=VX sd:=by
   have:((λp:Int×Fb=>xF p.2)∘λb:YX=>(QW b,BX b))=id:=by funext b;exact yY b
   rw[this,U6]
  rw[i]at this;exact this
 .rw[O0];refine S1 λp a=>?_;exact Rb Prod.snd<|j p a
 .rw[J3];refine a.imp_of_mem λ{p q} a l hl=>?_;have k:=Rb Prod.fst<|j p a;have i:=Rb Prod.fst<|j q l;dsimp only at k i;rw[<-k,<-i];exact hl
theorem US(a:RS)(b:YX):Nice 2 (CL a)/\SeqAt.noMix (BX b) (CL a)=Ul/\(Kg (BX b) (CL a)=Ul ↔ ∃x,a=O (b,x)):=by
 cases a with
 |none=>exact⟨Nice.none 2,Z,λz=>(by cases z),λ⟨x,z⟩=>by cases z⟩
 |some z =>
  refine⟨WV z.1,aB _ _ _ _,?_⟩;show Kg (.tuple [wX b.1,wX b.2]) (.tuple [wX z.1.1,wX z.1.2])=Ul↔_;rw[Vj,X1,decide_eq_true_eq,decide_eq_true_eq];refine⟨λh=>⟨z.2,?_⟩,λ⟨x,h⟩=>?_⟩
  .rw[show b=z.1 from Prod.ext h.1 h.2]
  .injection h with h;rw[h];exact⟨Z,Z⟩
theorem MD{sd:Ql}{bs done i:List YX}{b l:YX}(j:bs.Perm (VX sd))(e:bs=done++b::i)(a:bs.Pairwise λb c=>QW b<=QW c)(hl:l∈VX sd)(h:QW l<QW b):l∈done:=by
 have d:l∈bs:=j.mem_iff.mpr hl;rw[e]at d a;rcases W0.mp d with z|z
 .exact z
 .have k:=(O6.mp a).2.1;have m:=V6.mp k;rcases T0.mp z with y|y
  .rw[y]at h;lia
  .have:=m.1 l y;exact False.elim<|U8 _<|Int.lt_of_lt_of_le h this
theorem gB{sd p:Ql}(a:∀c∈sd,1<=c)(hl:cl.length=(DJ sd).length)(h:p∈DJ sd):(p,n0<|cel sd cl p)∈eJ sd cl:=by unfold eJ;rw[cF a hl,O0];exact J0.mpr ⟨p,h,Z⟩
theorem Yj{sd p:Ql}(a:∀c∈sd,1<=c)(hl:cl.length=(DJ sd).length)(h:p∈DJ sd):cel sd cl p∈cl:=by
 have b:(p,cel sd cl p)∈(DJ sd).zip cl:=by rw[cF a hl];exact J0.mpr ⟨p,h,Z⟩
 exact(l6 b).2
theorem OO{b:YX}(h:b.2=b.1):cH b=[]:=by unfold cH;rw[i9,tQ];intro i _;rw[h];simp
theorem iB(a b:Ql):Kg (wX a) (wX b)=Ul↔a=b:=by rw[ID,decide_eq_true_eq]
variable (P w K mg base) in
structure CalsMd:Prop where
 Yp:Cal P w K mg base 2 "_law_half_boxes" ["_law_sides"] (tX K H_)
 Yr:Cal P w K mg base 1 "_law_size" ["_law_box"] (tX K W_)
 Ys:Cal P w K mg base 1 "_law_together" ["_law_table","_law_box"] (tX K X_)
def DL:Con:=λd Q=>∃(sd cl:Ql) (a:RS),d=[.fz<|wX sd,.fz<|wG<|eJ sd cl,.fz<|CL a,.fz<|bP a]/\Sd sd/\cl.length=(DJ sd).length/\(∀c∈cl,Jk c)/\(∀z,a=O z->Bd z.1 z.2) /\
 ∀(V:YX->V3) (o:Ev),(∀b∈VX sd,SS sd cl a b<|V b)->Q (.ow<|.list<|(VX sd).map<|Rk V) o
theorem sI(F:Vl K "_law_made" (top 34) f fd)(T:Txt mg)(C:CalsMd P w K mg base):FnOk P w K mg base GJ 12 f fd ["_law_sides","_law_known","_law_at","_law_bent"] (tX K DL):=by
 have S:FnScope ["_law_sides","_law_known","_law_at","_law_bent","_law_table","_law_box"] ["_law_sides","_law_known","_law_at","_law_bent"] (sX<|top 34):={};refine PY F S (λfc A outer s H E I=>qX (fZ 4 IE)<|qX (nK [5] (hZ rfl<|RE Z C.Yr I.m T.Xo<|EZ C.Yp I.m<|RX 0) (qZ 5)<|iZ<|BJ (XE I (wn 5)<|wn 2) (iZ<|Qq (IJ I) (wn 4) (wn 5)<|wv 3)<|iZ<|BJ (XE I (wx<|HX (wn 5) xX)<|wx<|HX (wn 5) xX) (iZ<|Qq (IJ I) (wn 4) (wn 5)<|w_bin XG VG (wx<|vX<|rX<|pO (IJ I) (wn 1)<|wx<|HX (wn 5) xX) xX)<|iZ<|Qq (IJ I) (wn 4) (wn 5)<|EZ C.Ys I.m<|KZ 4<|RX 5)<|vZ<|LK ["_law_box"] [4] (hZ rfl<|EZ C.Yp I.m<|RX 0)<|λ_ _ _ _=>vX<|yX (wv 0)<|rX<|nV (IJ I) (wn 1)<|wn 0) ?_;rintro args Qd ⟨sd,cl,a,rfl,j,jd,hB,hbt,q⟩;have h3:=j.l3;have hm:=j.m;have hl:=LY j;with_reducible refine mZ (λρ=>ρ=[Zt<|wX sd,Zt<|wG<|eJ sd cl,Zt<|CL a,Zt<|bP a,Yt<|tK [],U]) ?_ ?_
 .intro N hN;exact hN _ Z
 rintro _ rfl;with_reducible refine mZ (λρ=>∃(V:YX->V3) (bs:List YX),bs.Perm (VX sd)/\(∀b∈VX sd,SS sd cl a b<|V b)/\ρ=[Zt<|wX sd,Zt<|wG<|eJ sd cl,Zt<|CL a,Zt<|bP a,Yt<|tK<|tbl V bs,U]) ?_ ?_
 .intro N hN;refine⟨sd,Z,j,λo=>?_⟩;refine⟨(VX sd).map BX,(VX sd).map QW,Z,by rw[j0,j0],?_,λps Y hpw=>?_⟩
  .intro i d k h1 h2;rw[G1]at h1 h2;cases e:(VX sd)[i]? with
   |none=>rw[e]at h1;cases h1
   |some b=>rw[e]at h1 h2;cases h1;cases h2;exact⟨sd,b,Z,tZ j.p<|P2 e,K6 hm<|by decide,h3,λo=>rfl⟩
  obtain⟨bs,M,e,hup⟩:=Tk Y hpw;rw[e];have dg:bs.Nodup:=M.nodup_iff.mpr<|qK j.p;refine XZ (λrest ρ=>∃(V:YX->V3) (done R:List YX),bs=done++R/\rest=R.map BX/\(∀b∈done,SS sd cl a b<|V b)/\ρ=[Zt<|wX sd,Zt<|wG<|eJ sd cl,Zt<|CL a,Zt<|bP a,Yt<|tK<|tbl V done,U]) ?_ ?_ ⟨λ_=>(0,0,0),[],bs,Z,Z,λb v=>(by cases v),Z⟩
  .rintro d ds ρ ⟨V,done,R,B,er,hV,rfl⟩ N' wc;cases R with
   |nil=>cases er
   |cons b R =>
    cases er;have vp:b∈VX sd:=M.mem_iff.mp (by rw[B];simp);have v:=tZ j.p vp;have ge:=wJ v;have hno:b∉done:=λz=>by rw[B]at dg;exact(N6.mp dg).2.2 b z b u0 Z
    have ur:(tbl V done).length<sizeLine:=by unfold tbl;rw[j0];have:=M.length_eq;rw[B,N0,U1]at this;exact R0 (show done.length<=960 by lia) (by decide)
    have step:∀y:V3,SS sd cl a b y->N' [Zt<|wX sd,Zt<|wG<|eJ sd cl,Zt<|CL a,Zt<|bP a,Yt<|tK<|NU (tbl V done) b<|prT y,U]:=λy hy=>by
     refine wc _ ⟨λc=>if c=b then y else V c,done++[b],R,by rw[B,Y2];rfl,Z,λc L=>?_,by rw[qI hno y]⟩;dsimp only;split
     .rename_i z;rw[z];exact hy
     .rename_i z;rcases W0.mp L with y'|y'
      .exact hV c y'
      .exact absurd (Y0.mp y') z
    obtain⟨na,nm,ns⟩:=US a b;have nb:=WV b;refine⟨nb.p,na.p,nb.sh<|by decide,na.sh<|by decide,nm,kJ (λh=>?_)<|λh=>?_⟩
    .obtain⟨x,G⟩:=ns.mp h;have hx:=hbt _ G;refine⟨b,tbl V done,Z,Z,Z,ur,?_⟩;have:=step x ⟨hx,λz=>(by rw[z]at G;cases G),λx' h'=>(by rw[G]at h';injection h' with h';injection h')⟩;have B:bP a=prT x:=by rw[G];rfl
     rw[<-B]at this;exact this
    .have hna:∀x,a≠O (b,x):=λx z=>h<|ns.mpr ⟨x,z⟩;have n1:=Nice.tup b.1;have n2:=Nice.tup b.2;refine⟨_,Z,_,Z,n1.p,n2.p,n1.sh<|by decide,n2.sh<|by decide,lF _ _,kJ (λh=>?_)<|λh=>?_⟩
     .have hs:b.1=b.2:=(iB _ _).mp h;have jc:b.1∈DJ sd:=bz<|Yu v;have L:=hB _<|Yj j.p jd jc;unfold Jk at L;have hz:1<=QW b:=(MY v).1;refine⟨_,Z,eJ sd cl,b.1,.int<|cel sd cl b.1,Z,Z,gB j.p jd jc,by simp,by decide,by decide,FX<|by simp,b,tbl V done,Z,Z,Z,ur,?_⟩;exact step (cel sd cl b.1,cel sd cl b.1,cel sd cl b.1) ⟨⟨by show (cel sd cl b.1).natAbs<=_;omega,by show (cel sd cl b.1).natAbs<=_;omega,by show (cel sd cl b.1).natAbs<=_;omega⟩,λ_=>(mF v<|OO hs.symm).symm,λx z=>(hna x z).elim⟩
     .have hs:¬b.1=b.2:=λz=>h<|(iB _ _).mpr z;have qc:cH b≠[]:=λz=>hs (Tj v z).symm;obtain⟨x,rest,ep⟩:=L9 qc;obtain⟨i,l,t,hx,hi,G,L,cg⟩:=TV (b:=b) (t9 ge.2 ge.1.symm) (x:=x) (by rw[ep];exact u0);rw[hx]at ep;have hpr:=KW v (l,t) (by
        have:(b.1.zip b.2)[i]?=O (l,t):=by rw[S7];exact⟨G,L⟩
        exact P2 this);obtain⟨p1,p2,s',rm,p3⟩:=hpr;have dm:=EJ j.p s' rm;simp only at p1 p2 p3;obtain⟨l1,l2⟩:=wY j.p vp (lt_of_lt_of_eq hi ge.1) G L cg;have z0:=Xj (m:=(l+t) / 2) G L;have z0:QW (bJ b i (l,(l+t) / 2))+QW (bJ b i ((l+t) / 2+1,t))=QW b:=z0;have z1:1<=QW (bJ b i (l,(l+t) / 2)):=(MY<|tZ j.p l1).1;have z2:1<=QW (bJ b i ((l+t) / 2+1,t)):=(MY<|tZ j.p l2).1;have m1:=MD M B hup l1<|le_of_le_of_eq (SQ z2 _) z0;have m2:=MD M B hup l2 (by omega);have g1:=hV _ m1;have g2:=hV _ m2;refine⟨tbl V done,b,i,rest,l,t,_,_,Z,t9 ge.1 ge.2.symm,le_of_eq_of_le ge.2 h3,lt_of_lt_of_eq hi<|t9 ge.1 ge.2.symm,ep,G,L,p1,cg,by lia,nF m1,nF m2,λo=>?_⟩;refine⟨Z,b,tbl V done,Z,Z,Z,ur,?_⟩;refine step (Xu _ _) ⟨⟨?_,?_,?_⟩,λz=>?_,λx z=>(hna x z).elim⟩
      .have w1:=g1.1.1;have w2:=g2.1.1;show ((V<|bJ b i (l,(l+t) / 2)).1+(V<|bJ b i ((l+t) / 2+1,t)).1).natAbs<=_;omega
      .exact MO g1.1.2.1 g2.1.2.1
      .exact NO g1.1.2.2 g2.1.2.2
      .rw[fH (cl:=cl) j.p vp (by omega) G L cg,jW G L,g1.2.1 z,g2.2.1 z]
  .rintro ρ ⟨V,done,R,B,er,hV,rfl⟩;cases R with
   |cons _ _=>cases er
   |nil=>rw[B3]at B;exact hN _ ⟨V,done,B ▸ M,λb v=>hV b<|B ▸ M.mem_iff.mpr v,Z⟩
 rintro _ ⟨V,bs,M,hV,rfl⟩;refine⟨sd,Z,j,λo=>?_⟩;refine⟨FX (by rw[j0];exact q0 hl<|by decide),EK (λd=>Rk V<|xF d) ?_ ?_⟩
 .intro d hd N' wc;obtain⟨b,v,rfl⟩:=J0.mp hd;rw[yY]at wc;exact⟨tbl V bs,b,_,Z,Z,nF<|M.mem_iff.mpr v,wc⟩
 .have em:((VX sd).map BX).map (λd=>Rk V<|xF d)=(VX sd).map (Rk V):=by
   rw[O0];refine S1 λb _=>?_;show Rk V (xF<|BX b)=_;rw[yY]
  rw[em];exact q V _ hV
structure Slf(K:B0)(mg:Str->Yi Bb)(x:Str)(f:Eb)(fd:Hd)(ps:Us):Prop where
 m:mg x=O (.ref f)
 k:Y5 K (.ref f)=Ul
 b:Binds K fd ps []
theorem VS{P:Cc}{w:Wb}{K:B0}{mg:Str->Yi Bb}{base:Dc}{k:Nat}{b:Us}:FnOk P w K mg base GJ k f fd b (tX K λ_ _=>Al):=⟨λc H Q E h=>by obtain⟨_,_,_,_,_,h,_⟩:=h;exact h.elim,λA outer s H a us c Q E _ _ _ _ h=>by obtain⟨_,_,_,_,_,h,_⟩:=h;exact h.elim⟩
noncomputable def XS:Nat->Fb->Prop
 |_,.int _=>True
 |n+1,.tuple a=>a.length<=4/\∀d∈a,XS n d
 |_,_=>Al
theorem jB:∀{n:Nat}{d:Fb},XS n d->BV d=Ul
 |_,.int _,_=>rfl
 |n+1,.tuple a,h=>by show okAll a=Ul;exact oJ λd hd=>jB<|h.2 d hd
 |0,.tuple _,h=>h.elim
 |0,.none,h=>h.elim
 |0,.bool _,h=>h.elim
 |0,.str _,h=>h.elim
 |0,.list _,h=>h.elim
 |0,.dict _,h=>h.elim
 |_+1,.none,h=>h.elim
 |_+1,.bool _,h=>h.elim
 |_+1,.str _,h=>h.elim
 |_+1,.list _,h=>h.elim
 |_+1,.dict _,h=>h.elim
noncomputable def YS:Nat->Con
 |0=>λ_ _=>Al
 |n+1=>λa Q=>∃d:Fb,a=[.fz d]/\XS n d/\n<=3/\∀(b:Ur) (o:Ev),(∀e∈b,e≠d/\BV e=Ul)->b.length<=2*4 ^ n->Q (.ow<|.list b) o
structure CalsBn(n:Nat)(P:Cc)(w:Wb)(K:B0)(mg:Str->Yi Bb)(base:Dc):Prop where
 Wl:Cal P w K mg base n "_law_by_one" ["_law_thing"] (tX K<|YS n)
theorem lB(F:Vl K "_law_by_one" (top 37) f fd)(T:Txt mg)(C:CalsBn n P w K mg base):FnOk P w K mg base GJ (n+1) f fd ["_law_thing"] (tX K<|YS<|n+1):=by
 have S:FnScope ["_law_thing","_law_found","_law_at","_law_inner"] ["_law_thing"] (sX<|top 37):={};refine PY F S (λfc A outer s H E R=>qX (BJ (AW<|jV .int Z T.Xp T.Qt boot_int<|wn 0) (vZ<|aZ<|yX (JX (wn 0) xX)<|rX<|YG (wn 0) xX) MZ)<|qX (fZ 1<|aZ HZ)<|qX (nK [2,3] (TN Z T.Zn<|RX 0) (YJ Z rfl<|QX (qZ 2)<|QX (qZ 3) mJ)<|iZ<|ZZ<|xq GY Z PySem.F.slot_list_extend PySem.F.type_list_extend DY (wn 1)<|rX<|LK ["_law_one"] [0,2] (hZ rfl<|EZ C.Wl R.m<|RX 3)<|λ_ _ _ _=>JX (wx<|JX (wx<|fK Z (wn 1)<|wn 2)<|wx<|vX<|rX<|wv 0)<|wx<|IK Z (wn 1)<|wx<|JX (wn 2) xX)<|Hk 1) ?_;rintro B Qd ⟨d,rfl,hd,G,q⟩;cases d with
 |int i =>
  refine q [.int<|i+1,.int<|i-1] _ (λe l=>?_) ?_
  .have l:e=.int (i+1)\/e=.int (i-1):=by simpa using l
   rcases l with rfl|rfl
   .exact⟨λz=>by injection z with z;exact U8 _<|E7<|iX z,Z⟩
   .exact⟨λz=>by injection z with z;exact U8 _<|Int.sub_one_lt_of_le<|iX z.symm,Z⟩
  .have:1<=4 ^ n:=Nat.one_le_pow _ _ (by decide);show 2<=2*4 ^ n
   lia
 |tuple j =>
  cases n with
  |zero=>exact hd.elim
  |succ n =>
   obtain⟨hl,hi⟩:=hd;have h4:4 ^ (n+1)=4 ^ n*4:=Nat.pow_succ ..;refine XZ (λrest ρ=>∃(pre a fs:Ur),j=pre++a/\rest=(a.zipIdx pre.length).map (λp=>J1 [.int (p.2:Nat),p.1])/\(∀e∈fs,e≠.tuple j/\BV e=Ul)/\fs.length<=pre.length*(2*4 ^ n)/\ρ=[Zt<|.tuple j,Yt<|.list fs,U,U]) ?_ ?_ ⟨[],j,[],Z,Z,by simp,by simp,Z⟩
   .rintro d Y ρ ⟨pre,a,fs,c,k,v,nh,rfl⟩ N hN;cases a with
    |nil=>cases k
    |cons x a =>
     rw[gQ,E1]at k;cases k;have hx:=hi x (by rw[c];simp);have jc:pre.length+1<=4:=by
      rw[c,N0,U1]at hl
      lia
     have e0:((pre.length:Nat):Int).toNat=pre.length:=rfl;have e1:(((pre.length:Nat):Int)+1).toNat=pre.length+1:=rfl;have et:j.take pre.length=pre:=by rw[c,List.take_left]
     have ed:j.drop (pre.length+1)=a:=by rw[c,show pre++x::a=(pre++[x])++a by simp];exact List.drop_left' (by simp)
     refine⟨Z,x,Z,hx,V0 G,λI o y xn=>?_⟩;have p3:4 ^ n<=4 ^ 3:=Nat.pow_le_pow_right (by decide)<|V0 G;refine⟨FX<|by lia,EK (λone=>.tuple<|pre++[one]++a) ?_ ?_⟩
     .intro one L N' M;have eL:J1 (pre++[one]++a)=.tuple (j.take ((pre.length:Nat):Int).toNat++[one]++j.drop (((pre.length:Nat):Int)+1).toNat):=by rw[e0,e1,et,ed]
      rw[eL]at M;exact⟨nn _,WK (X' hl _) (A0 1)<|by decide,n1 _,WK (TY (X' hl _)<|A0 1) (U_ hl _)<|by decide,M⟩
     .refine⟨?_,hN _ ⟨pre++[x],a,fs++I.map λone=>.tuple<|pre++[one]++a,by rw[c];simp,by rw[N0];rfl,λe l=>?_,?_,Z⟩⟩
      .rw[j0];have:pre.length*(2*4 ^ n)<=4*(2*4 ^ n):=B5 _<|V0 jc;exact FX (by lia)
      .rcases W0.mp l with z|z
       .exact v e z
       .obtain⟨one,ho,rfl⟩:=J0.mp z;obtain⟨k1,k2⟩:=y one ho;refine⟨λz=>?_,?_⟩
        .injection z with z;rw[c,Y2]at z;have:=oQ z;simp at this;exact k1 this
        .have t:∀d∈j,BV d=true:=λd hd=>jB<|hi d hd;refine oJ λd hd=>?_;simp only[W0,Y0]at hd;rcases hd with (hd|hd)|hd
         .exact t d (by rw[c];simp[hd])
         .rw[hd];exact k2
         .exact t d (by rw[c];simp[hd])
      .rw[N0,j0,N0,P3,Nat.add_mul]
       lia
   .rintro ρ ⟨pre,a,fs,c,k,v,nh,rfl⟩;cases a with
    |cons x a=>rw[gQ]at k;cases k
    |nil =>
     rw[B3]at c;refine q fs _ v ?_;have:pre.length*(2*4 ^ n)<=4*(2*4 ^ n):=B5 _ (by rw[<-c];exact hl)
     lia
 |none=>cases n<;>exact hd.elim
 |bool b=>cases n<;>exact hd.elim
 |str x=>cases n<;>exact hd.elim
 |list xs=>cases n<;>exact hd.elim
 |dict I=>cases n<;>exact hd.elim
theorem ZS(F:Vl K "_law_by_one" (top 37) f fd)(T:Txt mg)(R:Slf K mg "_law_by_one" f fd ["_law_thing"]):FnOk P w K mg base GJ 4 f fd ["_law_thing"] (tX K<|YS 4):=by
 have all:∀n,Cal P w K mg base n "_law_by_one" ["_law_thing"] (tX K<|YS n):=λn=>by
  induction n with
  |zero=>exact⟨⟨f,fd,VS,R.m,R.k,R.b⟩⟩
  |succ n a=>exact⟨⟨f,fd,lB F T ⟨a⟩,R.m,R.k,R.b⟩⟩
 exact lB F T ⟨all 3⟩
variable (P w K mg base) in
structure CalsWh:Prop where
 Jm:Cal P w K mg base 1 "_law_take" ["_law_pen_here","_law_most"] (tX K yD)
def mB:Con:=λa Q=>∃(ns:Ql) (k l m:Int),a=[.io<|OJ ns k l,.fz<|.int m]/\0<=k/\0<=l/\1<=m/\m<=100000 /\
 ∀(b:Ql) (c d:Int) (o:Ev),(∀r∈b,0<=r/\r<m)->b.length<=60->0<=c->0<=d->Q (.ow<|.list<|b.map n0) (O (.io<|OJ ns c d)::o)
theorem nB(F:Vl K "_law_where" (top 38) f fd)(T:Txt mg)(C:CalsWh P w K mg base):FnOk P w K mg base GJ 2 f fd ["_law_pen_here","_law_many"] (tX K mB):=by
 have S:FnScope ["_law_pen_here","_law_many"] ["_law_pen_here","_law_many"] (sX<|top 38):={};refine PY F S (λfc A outer s H E y=>qX (BJ (pJ tU sV (wn 1) xX) (vZ<|dS Z T.Xr T.Xm<|RX 1) MZ)<|vZ<|LK ["_law_k"] [0,1] (nY T.Xm<|rX UX)<|λ_ _ _ _=>XJ C.Jm y.m<|KZ 1<|RX 2) ?_;rintro Y Qd ⟨ns,k,l,m,rfl,hk,hl,B,ir,q⟩;refine kJ (λh=>?_)<|λh=>?_
 .have h:=Ob h;refine⟨(show VC 0 m from ⟨by lia,by lia⟩),by lia,?_⟩;have e:SX 0 m.toNat=((S2 m.toNat).map λ(i:Nat)=>(i:Int)).map n0:=by
   rw[SX,O0];exact S1 λi _=>by show n0 (0+(i:Int))=n0 (i:Int);rw[M7]
  refine(?_:Qd (.ow<|.list<|SX 0 m.toNat) _);rw[e];refine q _ k l _ (λr y=>?_) (by simp;lia) hk hl;obtain⟨i,hi,rfl⟩:=J0.mp y;have:=Q4.mp hi;exact⟨G9 _,Int.lt_toNat.1 this⟩
 .refine⟨by decide,by decide,FX<|by decide,Xz (λrest a G=>∃(b:Ql) (j t:Int),a=b.map n0/\b.length+rest.length=20/\(∀c∈b,0<=c/\c<m)/\G=[U,O<|.io<|OJ ns j t,Zt<|.int m]/\0<=j/\0<=t) ?_ ?_ ⟨[],k,l,Z,Z,λc I=>(by cases I),Z,hk,hl⟩⟩
  .rintro d ds a G ⟨b,j,t,rfl,v,hB,rfl,L,M⟩ N' wc;refine⟨ns,j,t,m,Z,L,M,B,m5 ir<|by decide,λx k5 l5 _ x0 x1 R vi=>?_⟩;refine wc _ _ ⟨b++[x],k5,l5,by simp[Sl.d],by simp at v ⊢;lia,λc I=>?_,Z,R,vi⟩;rcases W0.mp I with z|z
   .exact hB c z
   .rw[Y0.mp z];exact⟨x0,x1⟩
  .rintro a G ⟨b,j,t,rfl,v,hB,rfl,L,M⟩;exact q b j t _ hB (by simp at v;exact le_of_eq_of_le v<|by decide) L M
def Nr(y z:V3):Prop:=z≠y/\z.1.natAbs<=y.1.natAbs+1/\z.2.1.natAbs<=y.2.1.natAbs+1/\z.2.2.natAbs<=y.2.2.natAbs+1
def Y_:Con:=λa Q=>∃y:V3,a=[.fz<|prT y]/\∀(ys:List V3) (o:Ev),(∀z∈ys,Nr y z)->ys.length<=6->Q (.ow<|.list<|ys.map prT) o
theorem Va{y:V3}{m:Int}(h:m=1\/m=-1):Nr y (y.1+m,y.2.1,y.2.2):=⟨λe=>by have:=Rb (λz:V3=>z.1) e;dsimp only at this;lia,by dsimp only;omega,by dsimp only;exact B1 _ _,by dsimp only;exact B1 _ _⟩
theorem Wa{y:V3}{m:Int}(h:m=1\/m=-1):Nr y (y.1,y.2.1+m,y.2.2):=⟨λe=>by have:=Rb (λz:V3=>z.2.1) e;dsimp only at this;lia,by dsimp only;exact B1 _ _,by dsimp only;omega,by dsimp only;omega⟩
theorem Xa{y:V3}{m:Int}(h:m=1\/m=-1):Nr y (y.1,y.2.1,y.2.2+m):=⟨λe=>by have:=Rb (λz:V3=>z.2.2) e;dsimp only at this;lia,by dsimp only;omega,by dsimp only;omega,by dsimp only;omega⟩
theorem aT(F:Vl K "_law_others" (top 35) f fd)(T:Txt mg):FnOk P w K mg base GJ 1 f fd ["_law_entry"] (tX K Y_):=by
 have S:FnScope ["_law_entry","_law_found","_law_k","_law_more"] ["_law_entry"] (sX<|top 35):={};refine PY F S (λfc A outer s H E hr=>qX (fZ 1<|aZ HZ)<|qX (nK [2,3] (nY T.Xm<|rX UX) (qZ 2)<|iZ<|nK [3] (hZ rfl<|vX<|yX UX<|rX<|Wv xX) (qZ 3)<|iZ<|ZZ<|xq CZ Z PySem.F.slot_list_append PySem.F.type_list_append AZ (wn 1)<|rX<|JX (wx<|JX (wx<|fK Z (wn 0)<|wn 2)<|wx<|vX<|rX<|JX (wx<|HX (wn 0)<|wn 2)<|wn 3)<|wx<|IK Z (wn 0)<|wx<|JX (wn 2) xX)<|Hk 1) ?_;rintro L Qd ⟨y,rfl,q⟩;refine⟨by decide,by decide,?_⟩;refine XZ (λrest ρ=>∃(ys:List V3) (b:Ql),(∀z∈ys,Nr y z)/\ys.length+2*b.length=6/\(∀k∈b,k=0\/k=1\/k=2)/\rest=b.map n0/\ρ=[Zt<|prT y,Yt<|.list<|ys.map prT,U,U]) ?_ ?_ ⟨[],[0,1,2],λz x=>(by cases x),Z,by decide,Z,Z⟩
 .rintro d M ρ ⟨ys,b,B,l,C,c,rfl⟩ N hN;cases b with
  |nil=>cases c
  |cons k b =>
   cases c;have R:=C k u0;refine XZ (λrest ρ=>∃(a:List V3) (e:Ql),(∀z∈a,Nr y z)/\a.length+e.length=ys.length+2/\(∀m∈e,m=1\/m=-1)/\rest=e.map n0/\ρ=[Zt<|prT y,Yt<|.list<|a.map prT,Zt<|.int k,U]) ?_ ?_ ⟨ys,[1,-1],B,Z,by decide,Z,Z⟩
   .rintro d M ρ ⟨a,e,G,v,i,c,rfl⟩ Y wc;cases e with
    |nil=>cases c
    |cons m e =>
     cases c;have I:=i m u0;have go:∀z:V3,Nr y z->Y [Zt<|prT y,Yt<|.list<|(a++[z]).map prT,Zt<|.int k,U]:=λz x=>wc _ ⟨a++[z],e,λu t=>(W0.mp t).elim (G u) λh=>(by rw[Y0.mp h];exact x),by simp at v ⊢;lia,λu t=>i u<|i0 _ t,Z,Z⟩;simp only[Q3]at go;have j:(a.map prT).length<sizeLine:=by rw[j0];exact R0 (show a.length<=100 by simp at v l;lia) (by decide)
     rcases R with rfl|rfl|rfl
     .exact⟨by decide,_,Z,lz Z,by decide,lz Z,j,go _<|Va I⟩
     .exact⟨by decide,_,Z,lz Z,by decide,lz Z,j,go _<|Wa I⟩
     .exact⟨by decide,_,Z,lz Z,by decide,lz Z,j,go _<|Xa I⟩
   .rintro ρ ⟨a,e,G,v,i,c,rfl⟩;cases e with
    |cons _ _=>cases c
    |nil=>exact hN _ ⟨a,b,G,by simp at v l ⊢;lia,λu t=>C u<|i0 _ t,Z,Z⟩
 .rintro ρ ⟨ys,b,B,l,C,c,rfl⟩;cases b with
  |cons _ _=>cases c
  |nil=>exact q ys _ B (by simp at l;exact A1 l)
noncomputable def gd(m:Bool)(d:Fb):Bool:=if m then JJ d else TX d
structure Sh(m:Bool)(b k:Nat)(d:Fb):Prop where
 o:BV d=Ul
 p:gd m d=Ul
 s:d.showable=Ul
 z:d.depth<=k
 l:d.shown.length<=b
section
variable {m:Bool}{b k b' k':Nat}{d:Fb}{l:Ur}
theorem Sh.mono(h:Sh m b k d)(a:b<=b')(c:k<=k'):Sh m b' k' d:=⟨h.o,h.p,h.s,q0 h.z c,q0 h.l a⟩
theorem bK:∀{l:Ur},(∀d∈l,TX d=Ul)->plainAll l=Ul
 |[],_=>rfl
 |x::l,h=>by simp[plainAll,h x u0];exact bK λd hd=>h d<|i0 _ hd
theorem iH:∀{l:Ur},(∀d∈l,JJ d=Ul)->tupGs l=Ul
 |[],_=>rfl
 |x::l,h=>by simp[tupGs,h x u0];exact iH λd hd=>h d<|i0 _ hd
theorem NY:∀{xs:Ur}{n:Nat},(∀d∈xs,d.depth<=n)->e7 xs<=n
 |[],_,_=>by simp[e7]
 |x::xs,n,h=>by have a:=h x (by simp);have c:=NY (xs:=xs) λd hd=>h d (by simp[hd]);simp only[e7];exact Nat.max_le.2<|⟨a,c⟩
theorem Sh.tup(h:∀d∈l,Sh m b k d)(a:l.length<=n):Sh m (n*(b+2)+3) (k+1) (.tuple l):=by
 refine⟨oJ λd hd=>(h d hd).o,?_,by simp only[t6];exact L3.showableAll_of λd hd=>(h d hd).s,?_,?_⟩
 .cases m with
  |true=>show JJ (.tuple l)=Ul;simp only[JJ];exact iH λd hd=>(h d hd).p
  |false=>show TX (.tuple l)=Ul;simp only[TX];exact bK λd hd=>(h d hd).p
 .have:=NY λd hd=>(h d hd).z;simp only[P4];omega
 .have:=dD λd hd=>(h d hd).l;have c:=B5 (b+2) a;omega
theorem Sh.lst(h:∀d∈l,Sh Um b k d)(a:l.length<=n):Sh Um (n*(b+2)+3) (k+1) (.list l):=by
 refine⟨oJ λd hd=>(h d hd).o,by show TX (.list l)=Ul;simp only[TX];exact bK λd hd=>(h d hd).p,by simp only[t6];exact L3.showableAll_of λd hd=>(h d hd).s,?_,?_⟩
 .have:=NY λd hd=>(h d hd).z;simp only[P4];omega
 .have:=CU λd hd=>(h d hd).l;have c:=B5 (b+2) a;omega
theorem ND(h:TX d=Ul)(k:JJ d=Ul):gd m d=true:=by cases m<;>assumption
theorem xJ{x:Int}(h:x.natAbs<10 ^ 29):Sh m 30 0 (.int x):=⟨Z,ND Z Z,IG (k:=97) (L7 h<|by decide)<|by decide,by simp[P4],UH (k:=29) (by decide) h⟩
theorem MW:Sh m 30 0 .none:=⟨Z,ND Z Z,Z,by simp[P4],by decide +kernel⟩
theorem XV(b:Bool):Sh m 30 0 (.bool b):=⟨Z,ND Z Z,Z,by simp[P4],by cases b<;>decide +kernel⟩
theorem oB:Sh m 30 0 (.str ""):=⟨Z,ND Z Z,Z,by simp[P4],by decide +kernel⟩
theorem QO{x:Int}(h:x.natAbs<10 ^ 29):Sh m 310 1 (.str<|Str.ofString<|toString x):=by
 refine⟨Z,ND Z Z,Z,by simp[P4],?_⟩;have e:(Str.ofString<|toString x).length<=30:=UH (k:=29) (by decide) h;have i:=PySem.StrLaws.reprText_len (Str.ofString<|toString x) λc a=>by rw[Str.ofString_eq_toList]at a;have a:c∈(toString x).toList.map Char.toNat:=a;obtain⟨ch,_,rfl⟩:=J0.mp a;exact ch.val.toNat_lt
 show (reprText<|Str.ofString<|toString x).length<=310
 lia
theorem OD:∀{a:List (Fb×Fb)},(∀e∈a,(EG e.1).isSome=Ul/\JJ e.2=Ul)->tupGk a=Ul
 |[],_=>rfl
 |(x,y)::l,h=>by simp[tupGk,h _ u0];exact OD λd hd=>h d<|i0 _ hd
theorem qV:∀{a:List (Fb×Fb)},(∀e∈a,e.1.showable=Ul/\e.2.showable=Ul)->lX a=Ul
 |[],_=>rfl
 |(x,y)::l,h=>by simp[lX,h _ u0];exact qV λd hd=>h d<|i0 _ hd
theorem kW:∀{es:List (Fb×Fb)}{n:Nat},(∀e∈es,e.1.depth<=n/\e.2.depth<=n)->IQ es<=n
 |[],_,_=>by simp[IQ]
 |(x,y)::a,n,h=>by have c:=h _ u0;have i:=kW (es:=a) λd hd=>h d<|i0 _ hd;simp only[IQ];dsimp only at c;omega
theorem CV:∀a:List (Fb×Fb),JQ a=a.map λe=>e.1.shown++(": ":Str)++e.2.shown
 |[]=>rfl
 |(x,y)::l=>by simp[JQ,CV l]
theorem jH{c:Nat}{a:List (Fb×Fb)}(h:∀e∈a,e.1.shown.length<=c/\e.2.shown.length<=b)(i:a.length<=n):(j8 a).shown.length<=n*(c+b+4)+2:=by
 show (dictText<|JQ a).length<=_;rw[CV];have j:((", ":String):Str).length=2:=by rw[bZ];decide
 have q:((": ":String):Str).length=2:=by rw[bZ];decide
 have v:=BU (Str.ofString ", ") (c+b+2) (a.map λe=>e.1.shown++(": ":Str)++e.2.shown) λt x=>by obtain⟨e,y,rfl⟩:=J0.mp x;have:=h e y;rw[Str.length_append,Str.length_append,q];omega
 rw[j0,j,show c+b+2+2=c+b+4 from Z]at v;unfold dictText;rw[Str.length_append,Str.length_append,bZ,bZ];have B:("{":String).length=1:=by decide
 have C:("}":String).length=1:=by decide
 have F:=B5 (c+b+4) i
 lia
theorem Sh.dct{es:List (Fb×Fb)}(h:∀e∈es,(EG e.1).isSome=Ul/\Sh Ul 30 0 e.1/\Sh Ul b k e.2)(i:es.length<=n)(j:eK es=Ul):Sh Ul (n*(b+34)+2) (k+1) (.dict es):=by
 refine⟨j,by show JJ (.dict es)=Ul;simp only[JJ];exact OD λe a=>⟨(h e a).1,(h e a).2.2.p⟩,by simp only[t6];exact qV λe a=>⟨(h e a).2.1.s,(h e a).2.2.s⟩,?_,?_⟩
 .have:=kW (n:=k) λe a=>⟨q0 (h e a).2.1.z<|V2 _,(h e a).2.2.z⟩;simp only[P4];omega
 .have:=jH (c:=30) (λe a=>⟨(h e a).2.1.l,(h e a).2.2.l⟩) i;have e:n*(30+b+4)=n*(b+34):=by congr 1;exact Nat.add_right_cancel_iff.2<|k9 _ _
  omega
theorem am{p:Fb->Prop}{x:Fb}{l:Ur}(h:p x)(t:∀d∈l,p d):∀d∈x::l,p d:=G3.mpr ⟨h,t⟩
theorem a0{p:Fb->Prop}:∀d∈([]:Ur),p d:=λd hd=>by cases hd
theorem PK(h:Sh m 30 0 d):Sh m 310 1 d:=h.mono (by decide) (by decide)
theorem rK(h:Sh m 310 1 d):Sh m 1000 2 d:=h.mono (by decide) (by decide)
theorem zY(h:∀d∈l,Sh m 30 0 d)(a:l.length<=4):Sh m 310 1 (.tuple l):=(Sh.tup h a).mono (by decide) (by decide)
theorem EL(h:∀d∈l,Sh Um 30 0 d)(a:l.length<=4):Sh Um 310 1 (.list l):=(Sh.lst h a).mono (by decide) (by decide)
theorem WY(h:∀d∈l,Sh m 310 1 d)(a:l.length<=2):Sh m 1000 2 (.tuple l):=(Sh.tup h a).mono (by decide) (by decide)
theorem Zj(h:∀d∈l,Sh m 1000 2 d)(a:l.length<=3):Sh m 3100 3 (.tuple l):=(Sh.tup h a).mono (by decide) (by decide)
theorem oF{l:Ql}(h:∀x∈l,x.natAbs<10 ^ 29):∀d∈l.map n0,Sh m 30 0 d:=λd hd=>by obtain⟨x,hx,rfl⟩:=J0.mp hd;exact xJ<|h x hx
end
structure Nop(jb:Ur)(t:Fb):Prop where
 ne:t≠.list jb
 ok:BV t=Ul\/∃ps,t=tK ps
 sh:lO t
 ss:(wF t).showable=Ul
 dd:(wF t).depth+1<=64
 ll:(wF t).shown.length<=sizeLine
theorem Sh.nop{m:Bool}{t:Fb}(h:Sh m 4000000 5 t)(a:t≠.list jb):Nop jb t:=by
 have e:wF t=t:=by
  cases m with
  |true=>exact Cj h.p
  |false=>exact dG h.p
 refine⟨a,.inl h.o,?_,by rw[e];exact h.s,by rw[e];have:=h.z;exact R0 this<|by decide,by rw[e];exact q0 h.l<|by decide⟩;cases m with
 |true=>exact .inr<|.inl h.p
 |false=>exact .inl h.p
theorem FJ{m:Bool}{l:Ur}(h:∀d∈l,Sh m 3100 3 d)(hl:l.length<=1000)(a:l≠jb):Nop jb (.list l):=by
 have e:=NY λd hd=>(h d hd).z;have b:=CU λd hd=>(h d hd).l;have c:=B5 (3100+2) hl;refine⟨λz=>by injection z with z;exact a z,.inl<|oJ λd hd=>(h d hd).o,?_,?_,?_,?_⟩
 .cases m with
  |true=>exact .inr<|.inr<|.inl<|iH λd hd=>(h d hd).p
  |false=>exact .inl (by simp only[TX];exact bK λd hd=>(h d hd).p)
 .show (X3 l).showable=Ul;simp only[t6];exact L3.showableAll_of λd hd=>(h d hd).s
 .show (X3 l).depth+1<=64;simp only[P4];omega
 .show (X3 l).shown.length<=sizeLine;exact q0 b (q0 (A5 c 3)<|by decide)
theorem pB{i:Nat}{r one:Fb}(a:jb[i]?=O r)(b:one≠r):jb.take i++[one]++jb.drop (i+1)≠jb:=λz=>by
 have hi:i<jb.length:=(L1.mp a).1;have e:(jb.take i++[one]++jb.drop (i+1))[i]?=O one:=by rw[Y2,Q2 (by rw[E2];exact b9 _ _),E2,show i-min i jb.length=0 by exact Eq.symm<|Nat.eq_sub_of_add_eq'<|J4<|V0 hi];rfl
 rw[z,a]at e;injection e with e;exact b e.symm
theorem pF{m:Bool}{i:Nat}{r one:Fb}(h:∀d∈jb,Sh m 3100 3 d)(hl:jb.length<=960)(a:jb[i]?=O r)(b:Sh m 3100 3 one)(c:one≠r):Nop jb (.list<|jb.take i++[one]++jb.drop (i+1)):=by
 have hi:i<jb.length:=(L1.mp a).1;refine FJ (m:=m) (λd hd=>?_) ?_<|pB a c
 .simp only[W0,Y0]at hd;rcases hd with (hd|hd)|hd
  .exact h d (v4 hd)
  .rw[hd];exact b
  .exact h d (u5 hd)
 .simp only[N0,E2,K2,P3];omega
structure Og(r d:Fb):Prop where
 sh:∃m,Sh m 3100 3 d
 ne:d≠r
theorem AY{r:Fb}{a ts:Ur}(h:∀d∈a,Og r d)(k:∀d∈ts,Og r d):∀d∈a++ts,Og r d:=λd hd=>(W0.mp hd).elim (h d)<|k d
theorem Y'{r d:Fb}(h:Og r d):∀x∈[d],Og r x:=λx hx=>by rw[Y0.mp hx];exact h
noncomputable abbrev pz(b:YX)(y:V3):Fb:=.tuple [BX b,prT y]
noncomputable def Z_:Fb->Bool
 | .tuple _=>Ul
 |_=>Um
noncomputable def aa:Fb->Bool
 | .list _=>Ul
 |_=>Um
theorem Uk{x:Fb}{l:Ur}(h:Z_ x=Um):x≠.tuple l:=λe=>by rw[e]at h;cases h
theorem neL{x:Fb}{l:Ur}(h:aa x=Um):x≠.list l:=λe=>by rw[e]at h;cases h
theorem JV{m:Bool}{b:YX}{v:V3}{x y:Fb}(hx:Sh m 1000 2 x)(hy:Sh m 1000 2 y)(a:x≠BX b\/y≠prT v):Og (pz b v) (.tuple [x,y]):=by
 refine⟨⟨m,Zj (am hx<|am hy a0)<|N1 Z⟩,λe=>?_⟩;injection e with e;injection e with e1 e;injection e with e2 e;rcases a with h|h
 .exact h e1
 .exact h e2
theorem Z'{m:Bool}{b:YX}{v:V3}{l:Ur}(h:∀d∈l,Sh m 1000 2 d)(hl:(Nat.ble l.length 3&&!Nat.beq l.length 2)=Ul):Og (pz b v) (.tuple l):=by rw[X1]at hl;refine⟨⟨m,Zj h<|N1 hl.1⟩,λe=>?_⟩;injection e with e;rw[e]at hl;cases hl.2
theorem ba{b:YX}{v:V3}{d:Fb}(h:Sh Um 310 1 d)(a:Z_ d=Um):Og (pz b v) d:=⟨⟨_,h.mono (by decide)<|by decide⟩,Uk a⟩
theorem qB{t:Fb}(h:Sh Um 310 1 t)(a:aa t=Um):Nop jb t:=(h.mono (by decide) (by decide):Sh Um 4000000 5 t).nop<|neL a
theorem rB:∀{lo hi sd:Ql},Bx lo hi sd->(∀x∈lo,0<=x/\∃s∈sd,x<s)/\∀x∈hi,0<=x/\∃s∈sd,x<s
 |[],[],[],_=>⟨λx h=>(by cases h),λx h=>(by cases h)⟩
 |a::lo,b::hi,s::sd,h=>by
  obtain⟨⟨i,j,k⟩,h⟩:=h;obtain⟨i1,i2⟩:=rB h;refine⟨λx hx=>?_,λx hx=>?_⟩
  .rcases T0.mp hx with z|z
   .rw[z];exact⟨i,s,u0,m5 j k⟩
   .obtain⟨c,s',d,e⟩:=i1 x z;exact⟨c,s',i0 _ d,e⟩
  .rcases T0.mp hx with z|z
   .rw[z];exact⟨K6 i j,s,u0,k⟩
   .obtain⟨c,s',d,e⟩:=i2 x z;exact⟨c,s',i0 _ d,e⟩
 |[],[],_::_,h=>h.elim
 |[],_::_,_,h=>h.elim
 |_::_,[],_,h=>h.elim
 |_::_,_::_,[],h=>h.elim
theorem ax{x d:Fb}(h:d∈(O1 n [x]).flatten):d=x:=by obtain⟨l,hl,hd⟩:=List.mem_flatten.mp h;rw[(List.mem_replicate.mp hl).2]at hd;exact Y0.mp hd
theorem RO{x d:Fb}{a:Ur}(hd:d∈a)(b:d≠x):J1 (O1 n [x]).flatten≠.tuple a:=λe=>by injection e with e;rw[<-e]at hd;exact b<|ax hd
theorem uI(n:Nat)(x:Fb):((O1 n [x]).flatten).length=n:=by simp
theorem sB{m:Bool}{v:Int}(a:v.natAbs<10 ^ 29)(b:n<=4):Sh m 310 1 (.tuple (O1 n [n0 v]).flatten):=zY (λd hd=>by rw[ax hd];exact xJ a) (by rw[uI];exact b)
theorem FL{v:Int}{l:Ql}(a:1<=l.length)(h:∀x∈l,0<=x/\x<24)(b:v<0\/24<=v):J1 (O1 n [.int v]).flatten≠wX l:=by
 cases l with
 |nil=>cases a
 |cons y l=>have:=h y u0;exact RO (d:=.int y) u0 λe=>by injection e with e;lia
theorem rV{a b:Ur}(h:a.length≠b.length):J1 a≠.tuple b:=λe=>by injection e with e;exact h (by rw[e])
theorem qF{l:Ur}{c:Bool}{ns:Ql}(h:Y3 c∈l):J1 l≠wX ns:=λe=>by injection e with e;rw[e]at h;obtain⟨x,_,e⟩:=J0.mp h;cases e
theorem XT{x y:Fb}{b:YX}(h:x≠wX b.1):J1 [x,y]≠BX b:=λe=>by injection e with e;injection e with e1 e;exact h e1
theorem YT{x y:Fb}{b:YX}(h:y≠wX b.2):J1 [x,y]≠BX b:=λe=>by injection e with e;injection e with e1 e;injection e with e2 e;exact h e2
theorem qz{m:Bool}{ns:Ql}{k:Nat}{d:Fb}(h:∀x∈ns.map n0,Sh m 30 0 x)(hd:Sh m 30 0 d)(a:k<ns.length)(hl:ns.length<=4):Sh m 310 1 (.tuple<|(ns.map n0).take k++[d]++(ns.map n0).drop (k+1)):=by
 refine zY (λx hx=>?_) ?_
 .simp only[W0,Y0]at hx;rcases hx with (hx|hx)|hx
  .exact h x (v4 hx)
  .rw[hx];exact hd
  .exact h x (u5 hx)
 .simp only[N0,E2,K2,P3,j0];omega
noncomputable abbrev WJ(K:Int)(n:Nat):Nat:=if K<0 then (K+(n:Int)).toNat else K.toNat
theorem sK{K:Int}{k:Nat}(h:K=k):WJ K n=k:=by subst h;unfold WJ;rw[if_neg<|S8<|G9 _];rfl
theorem rz{m:Bool}{l k:Ur}(h:∀d∈l,Sh m 3100 3 d)(h':∀d∈k,Sh m 3100 3 d):∀d∈l++k,Sh m 3100 3 d:=λd hd=>(W0.mp hd).elim (h d)<|h' d
structure Fc(b:YX)(y:V3):Prop where
 lo:∀{m},Sh m 310 1 (wX b.1)
 hi:∀{m},Sh m 310 1 (wX b.2)
 bx:∀{m},Sh m 1000 2 (BX b)
 td:∀{m},Sh m 310 1 (prT y)
 li:∀{m},∀d∈b.1.map n0,Sh m 30 0 d
 hl:∀{m},∀d∈b.2.map n0,Sh m 30 0 d
 yi:∀{m},∀d∈[y.1,y.2.1,y.2.2].map n0,Sh m 30 0 d
 p1:1<=b.1.length
 p3:b.1.length<=3
 e:b.2.length=b.1.length
 pr:∀x∈b.1,0<=x/\x<24
 pr2:∀x∈b.2,0<=x/\x<24
 t:y.2.2.natAbs<10 ^ 29
 en:∀{m},Sh m 3100 3 (pz b y)
theorem NW{sd:Ql}(i:Sd sd)(L:dZ sd<=24){b:YX}(j:Bx b.1 b.2 sd){y:V3}(hy:Bd b y):Fc b y:=by
 obtain⟨M,R⟩:=rB j;have q:=i.l1;have c:=i.l3;obtain⟨l1,l2⟩:=wJ j;have z:QW b<=dZ sd:=(MY j).2;obtain⟨k,Y,t⟩:=hy;have e:(10:Nat) ^ 27+1<10 ^ 29:=by decide
 have e1:24*((10:Nat) ^ 27+1)<10 ^ 29:=by decide
 have k:y.1.natAbs<10 ^ 29:=R0 (q0 k<|B5 _<|show (QW b).toNat<=24 by exact Int.toNat_le.2<|K6 z L) e1;have a:∀{l:Ql},(∀x∈l,0<=x/\∃s∈sd,x<s)->∀x∈l,0<=x/\x<24:=λh x hx=>by obtain⟨q,s,h2,c⟩:=h x hx;have:=EJ i.p s h2;omega
 have v:=a M;have B:=a R;have C:∀{m},∀d∈b.1.map n0,Sh m 30 0 d:=λ{m}=>oF λx hx=>by have:=v x hx;lia
 have hl:∀{m},∀d∈b.2.map n0,Sh m 30 0 d:=λ{m}=>oF λx hx=>by have:=B x hx;omega
 have F:∀{m},∀d∈[y.1,y.2.1,y.2.2].map n0,Sh m 30 0 d:=λ{m}=>oF λx hx=>by
  rcases T0.mp hx with z|hx
  .rw[z];exact k
  .rcases T0.mp hx with z|hx
   .rw[z];exact R0 Y e
   .rw[Y0.mp hx];exact R0 t e
 have lo:∀{m},Sh m 310 1 (wX b.1):=λ{m}=>zY C (by rw[j0];exact le_of_eq_of_le l1<|q0 c<|by decide);have hi:∀{m},Sh m 310 1 (wX b.2):=λ{m}=>zY hl (by rw[j0];exact le_of_eq_of_le l2<|q0 c<|by decide);have G:∀{m},Sh m 1000 2 (BX b):=λ{m}=>WY (am lo<|am hi a0)<|N1 Z;have I:∀{m},Sh m 310 1 (prT y):=λ{m}=>zY F<|N1 Z;exact⟨lo,hi,G,I,C,hl,F,le_of_le_of_eq q l1.symm,le_of_eq_of_le l1 c,t9 l2 l1.symm,v,B,R0 t e,λ{m}=>Zj (am G<|am (rK I) a0)<|N1 Z⟩
theorem PD{m:Nat}(h:n<=m)(k:m<=100000):n<sizeLine:=R0 (q0 h k) (by decide)
theorem tz{m:Nat}(a:∀d∈jb,Sh Um 3100 3 d)(b:m<=jb.length)(h:m+(jb.length-n)≠jb.length)(c:m+(jb.length-n)<=1000):Nop jb (.list<|jb.take m++jb.drop n):=by
 refine FJ (rz (λd hd=>a d<|v4 hd) λd hd=>a d<|u5 hd) ?_ λe=>?_
 .rw[N0,E2,K2];lia
 .have:=Rb U4 e;rw[N0,E2,K2]at this;omega
theorem SO(b:jb.Nodup)(h:1<jb.length):jb.reverse≠jb/\jb.drop 1++jb.take 1≠jb:=by
 refine⟨λe=>?_,λe=>?_⟩
 .have a:jb.reverse[0]?=jb[jb.length-1]?:=by rw[List.getElem?_reverse<|Nat.lt_of_succ_le<|V0 h];rfl
  rw[e]at a;have:=(T9 (by omega) b).mp a;omega
 .have a:(jb.drop 1++jb.take 1)[0]?=jb[1]?:=by rw[m3 (by rw[K2];exact NQ h),A9]
  rw[e]at a;have:=(T9 (by omega) b).mp a;omega
theorem sF{d:Fb}{l r:Ur}:d∈l++[d]++r:=i3 _<|S0 _ u0
theorem uz{l m:Ur}{a c:Nat}(h:l.length<=a)(k:Nat.ble (a+m.length) c=Ul):(l++m).length<=c:=by rw[N0];exact q0 (A5 h _)<|N1 k
theorem gnC{i:Nat}{d:Fb}{ρ':Ev}{Q:Ev->Prop}(h:Vk i d ρ Q=Q ρ')(w:Q ρ'):Vk i d ρ Q:=by rw[h];exact w
theorem vI{b c:YX}(h:BX b=BX c):b=c:=by injection h with h;injection h with h1 h;injection h with h2 h;exact Prod.ext (oV h1)<|oV h2
theorem wI{sd:Ql}{b c:YX}(h:KJ sd cl b=KJ sd cl c):b=c:=by injection h with h;injection h with h1 h;exact vI h1
theorem vz{sd:Ql}(h:∀c∈sd,1<=c)(cl:Ql):((VX sd).map<|KJ sd cl).Nodup:=by rw[K9,J3];exact(qK h).imp λ{a b} h z=>h<|wI z
theorem lW{r a ts:Ur}(h:∀d∈a,Nop r d)(k:∀d∈ts,Nop r d):∀d∈a++ts,Nop r d:=λd hd=>(W0.mp hd).elim (h d)<|k d
theorem UO{a:List (YX×Fb)}(h:∀p∈a,Sh Ul 1000 2 (BX p.1)/\Sh Ul 310 1 p.2)(hl:a.length<=1000):Nop jb (tK a):=by
 have e:=ou a;have all:∀x∈a.map (λp=>(L3.bxD p.1,p.2)),Sh Ul 1000 2 x.1/\Sh Ul 310 1 x.2:=λx hx=>by obtain⟨p,d,rfl⟩:=J0.mp hx;exact h p d
 refine⟨λz=>(by cases z),.inr ⟨a,Z⟩,.inr<|.inr<|.inr ⟨a,Z,λp d=>(h p d).2.p⟩,?_,?_,?_⟩
 .rw[e];show (j8 _).showable=Ul;simp only[t6];exact qV λx hx=>⟨(all x hx).1.s,(all x hx).2.s⟩
 .rw[e];show (j8 _).depth+1<=64;have:=kW (n:=2) λx hx=>⟨(all x hx).1.z,q0 (all x hx).2.z<|by decide⟩;simp only[P4];exact q0 (A5 this 2) (by decide)
 .rw[e];refine q0 (jH (c:=1000) (b:=310) (n:=1000) (λx hx=>⟨(all x hx).1.l,(all x hx).2.l⟩)<|by rw[j0];exact hl) (by decide)
theorem bT{l:Ql}{b:YX}:wX l≠BX b:=λe=>by
 injection e with e;have:wX b.1∈l.map n0:=by rw[e];exact u0
 obtain⟨x,_,h⟩:=J0.mp this;cases h
theorem e0{p:Fb×Fb->Prop}:∀e∈([]:List (Fb×Fb)),p e:=λ_ h=>nomatch h
noncomputable abbrev rF(jb:Ur)(i:Nat)(b:YX)(y:V3)(a c d:Yi Sl):Ev:=[Zt<|.list jb,Zt<|.int (i:Nat),Zt<|BX b,Zt<|prT y,Zt<|wX b.1,Zt<|wX b.2,a,c,d]
def ca(x:Yi Sl):Prop:=x=U\/∃d,x=Zt d
abbrev JF(jb:Ur)(i:Nat)(b:YX)(y:V3)(n:Nat):Ev->Prop:=λρ=>∃a:Ur,(∀d∈a,Og (pz b y) d)/\a.length<=n/\ρ=rF jb i b y (Yt<|.list a) U U
abbrev JK(jb:Ur)(i:Nat)(b:YX)(y:V3)(n:Nat):Ev->Prop:=λρ=>∃(a:Ur) (c:Yi Sl),(∀d∈a,Og (pz b y) d)/\a.length<=n/\ca c/\ρ=rF jb i b y (Yt<|.list a) c U
theorem GL{l:Ql}(hl:∀d∈l.map n0,Sh Ul 30 0 d)(j:l.length<=3){a:List (wZ×Fb)}(i:∀q∈a,q∈l.map λx=>((.inl x:wZ),n0 0))(c:a.length<=(l.map λx=>((.inl x:wZ),n0 0)).length):Sh Ul 310 1 (.dict<|a.map aj):=by
 refine(Sh.dct (k:=0) (b:=30) (n:=3) (λe m=>?_) (by rw[j0]at c ⊢;exact q0 c j) ?_).mono (by decide) (by decide)
 .obtain⟨q,t,rfl⟩:=J0.mp m;obtain⟨x,hx,rfl⟩:=J0.mp<|i q t;exact⟨Z,hl _<|u6 hx,xJ<|by decide⟩
 .cases a with
  |nil=>rfl
  |cons q a=>obtain⟨x,hx,rfl⟩:=J0.mp<|i q u0;rfl
noncomputable def ga:Fb->Fb
 | .tuple [_,y]=>y
 |_=>.none
abbrev JG(jb:Ur)(i:Nat)(b:YX)(y:V3)(n:Nat):Ev->Prop:=λρ=>∃(fs:Ur) (a c:Yi Sl),(∀d∈fs,Nop jb d)/\fs.length<=n/\ρ=rF jb i b y a c (Yt<|.list fs)
def uB:Con:=λa Q=>∃(sd cl:Ql) (i:Nat),a=[.fz<|.list<|(VX sd).map<|KJ sd cl,.fz<|.int (i:Nat)]/\i<(VX sd).length/\Sd sd/\dZ sd<=24/\(∀b∈VX sd,Bd b<|dH sd cl b)/\∀(ts:Ur) (o:Ev),(∀t∈ts,Nop ((VX sd).map<|KJ sd cl) t)->ts.length<=100->Q (.ow<|.list ts) o
theorem vB(F:Vl K "_law_forms" (top 36) f fd)(T:Txt mg):FnOk P w K mg base GJ 1 f fd ["_law_rows","_law_at"] (tX K uB):=by
 have S:FnScope ["_law_rows","_law_at","_law_box","_law_told","_law_low","_law_high","_law_some","_law_k","_law_found"] ["_law_rows","_law_at"] (sX<|top 36):={};refine PY F S (λfc A outer s H E hr=>qX (yU (HX (wn 0)<|wn 1)<|YJ Z rfl<|QX (qZ 2)<|QX (qZ 3) mJ)<|qX (yU (wv 2)<|YJ Z rfl<|QX (qZ 4)<|QX (qZ 5) mJ)<|qX (fZ 6<|aZ<|yX (aZ<|yX (wv 2)<|rX<|wv 3)<|yX (vX<|yX (wv 2)<|yX (wv 3)<|rX UX)<|yX (vX<|rX<|wv 2)<|yX (vX<|yX (wv 2)<|rX<|yJ FY (sJ (K:=K) Z) T.Xr Se<|RX 3)<|yX (vX<|yX (wv 2)<|rX<|fK Z (wn 3) xX)<|yX (vX<|yX (wv 2)<|rX<|JX (wn 3)<|wx<|vX<|rX UX)<|yX wU<|yX UX<|rX<|wv 2)<|qX (fZ 6<|JX (wn 6)<|wx<|aZ<|yX (vX<|yX (yJ FY (sJ (K:=K) Z) T.Xr Se<|RX 2)<|rX<|wv 3)<|yX (vX<|yX (vX<|rX<|wv 4)<|rX<|wv 3)<|yX (vX<|yX (vX<|yX (wv 4)<|rX<|yJ FY (sJ (K:=K) Z) T.Xr Se<|RX 5)<|rX<|wv 3)<|yX (vX<|yX (wv 3)<|rX<|wv 2)<|rX<|vX<|yX (vX<|yX (wv 4)<|yX (wv 5)<|rX<|wv 5)<|rX<|wv 3)<|qX (fZ 6<|JX (wn 6)<|wx<|aZ<|yX (vX<|yX (wv 2)<|rX<|JX (wx<|fK Z (wn 3) xX)<|wx<|vX<|rX<|yJ aE lG T.Zo boot_str<|rX<|HX (wn 3) xX)<|yX (vX<|yX (wv 2)<|rX<|JX (wx<|vX<|rX wU)<|wx<|IK Z (wn 3) xX)<|yX (vX<|yX (vX<|yX (vX HZ)<|rX<|vX HZ)<|rX<|wv 3)<|yX (vX<|yX MI<|rX<|wv 3)<|rX<|vX HZ)<|qX (fZ 6<|JX (wn 6)<|wx<|aZ<|yX (vX<|yX (vX<|yX (w_bin XG VG (wx<|vX<|rX<|Wv xX)<|wx<|VJ T.Qm<|RX 4)<|rX<|wv 5)<|rX<|wv 3)<|yX (vX<|yX (vX<|yX (wv 4)<|rX<|w_bin XG VG (wx<|vX<|rX UX)<|wx<|VJ T.Qm<|RX 4)<|rX<|wv 3)<|yX (vX<|yX wU<|rX<|wv 3)<|rX<|vX<|yX (wv 2)<|rX wU)<|qX (fZ 6<|JX (wn 6)<|wx<|aZ<|yX (vX<|yX (wv 2)<|rX<|Yv [(.inl 4,.inr<|.int 0),(.inl 5,.inr<|.int 0),(.inl 6,.inr<|.int 0)] (by decide +kernel) (by decide) (by simp)<|Oz (iK gJ gJ<|iK gJ gJ<|iK gJ gJ Nz) Z Z (by simp)<|by simp)<|yX (vX<|yX (wv 2)<|rX<|qS Z Z T.Zm (by decide +kernel) T.Zn<|RX 3)<|rX<|vX<|yX (qS Z Z T.Zm (by decide +kernel) T.Zn<|RX 2)<|rX<|wv 3)<|qX (fZ 6<|JX (wn 6)<|wx<|aZ<|yX (vX<|yX (vX<|yX (vD Z Z T.Zm (by decide +kernel)<|rX<|LK ["_law_one"] [] (hZ rfl<|wv 4)<|λ_ _ _ _=>vX<|yX (wv 0)<|rX UX)<|rX<|wv 5)<|rX<|wv 3)<|rX<|vX<|yX (vX<|yX (wv 4)<|rX<|vD Z Z T.Zm (by decide +kernel)<|rX<|LK ["_law_one"] [] (hZ rfl<|wv 5)<|λ_ _ _ _=>vX<|yX (wv 0)<|rX UX)<|rX<|wv 3)<|qX (nK [] (hZ rfl<|qO ["_law_k"] [3] (nY T.Xm<|rX UX) (λ_ _ _ _=>RA<|Iy Z (wx<|HX (wn 1)<|wn 0)<|wx<|vX<|yX UX<|rX UX)<|λ_ _ _ _=>wv 0) (qZ 7)<|iZ<|ZZ<|xq CZ Z PySem.F.slot_list_append PySem.F.type_list_append AZ (wn 6)<|rX<|vX<|yX (wv 2)<|rX<|JX (wx<|JX (wx<|fK Z (wn 3)<|wn 7)<|wx<|vX<|rX<|zW uU (dW (K:=K) Z hr.units) (wx<|HX (wn 3)<|wn 7) xX)<|wx<|IK Z (wn 3)<|wx<|JX (wn 7) xX)<|qX (nK [7] (nY T.Xm<|rX<|VJ T.Qm<|RX 4) (qZ 7)<|qX (BJ (Iy Z (wx<|HX (wn 4)<|wn 7)<|wx<|vX<|yX UX<|rX UX) (iZ<|ZZ<|xq CZ Z PySem.F.slot_list_append PySem.F.type_list_append AZ (wn 6)<|rX<|vX<|yX (vX<|yX (JX (wx<|JX (wx<|fK Z (wn 4)<|wn 7)<|wx<|vX<|rX<|zW uU (dW (K:=K) Z hr.units) (wx<|HX (wn 4)<|wn 7) xX)<|wx<|IK Z (wn 4)<|wx<|JX (wn 7) xX)<|rX<|wv 5)<|rX<|wv 3) MZ)<|iZ<|BJ (Iy Z (wx<|HX (wn 5)<|wn 7)<|wx<|vX<|yX UX<|rX UX) (iZ<|ZZ<|xq CZ Z PySem.F.slot_list_append PySem.F.type_list_append AZ (wn 6)<|rX<|vX<|yX (vX<|yX (wv 4)<|rX<|JX (wx<|JX (wx<|fK Z (wn 5)<|wn 7)<|wx<|vX<|rX<|zW uU (dW (K:=K) Z hr.units) (wx<|HX (wn 5)<|wn 7) xX)<|wx<|IK Z (wn 5)<|wx<|JX (wn 7) xX)<|rX<|wv 3) MZ)<|qX (Zv (i:=8) S.nd Z Z Z (own:=["_law_one"]) (fr:=[0,1]) (by kernel_rfl) (hZ rfl<|wv 6) (λ_ _ _ _=>qZ 0) (λ_ _ _ _=>wT)<|λ_ _ _ _=>JX (wx<|JX (wx<|ZJ Z (wn 1)<|wn 2)<|wx<|aZ<|rX<|wv 0)<|wx<|MJ Z (wn 1)<|wx<|JX (wn 2) xX)<|qX (fZ 8<|JX (wn 8)<|wx<|aZ<|yX (Gk T.Xs<|RX 0)<|yX (JX (wx<|ZJ Z (wn 0)<|wn 1)<|wx<|MJ Z (wn 0)<|wx<|JX (wn 1) xX)<|yX (JX (wn 0)<|wx<|XN Z (wn 0) (wn 1)<|wx<|JX (wn 1) xX)<|rX<|JX (wx<|ZJ Z (wn 0)<|wx<|JX (wn 1) xX)<|wx<|MJ Z (wn 0)<|wn 1)<|qX (BJ (pJ YF CF (wx<|VJ T.Qm<|RX 0) xX) (iZ<|fZ 8<|JX (wn 8)<|wx<|aZ<|yX (UN Z (wn 0)<|wx<|Wv xX)<|rX<|JX (wx<|MJ Z (wn 0) xX)<|wx<|ZJ Z (wn 0) xX) MZ)<|vZ<|JX (wn 8)<|wx<|aZ<|yX wU<|yX UX<|yX OY<|yX MI<|yX GN<|yX (aZ HZ)<|yX (vX HZ)<|yX (tD Z Z (IJ hr) T.Zm (by decide +kernel)<|RX 0)<|yX (aZ<|rX<|wv 0)<|rX<|yu ["_law_one","_law_told"] [] (hZ rfl<|wv 0) (λ_ _ _ _=>YJ Z rfl<|QX (qZ 0)<|QX (qZ 1) mJ)<|λ_ _ _ _=>wv 1) ?_;rintro args Qd ⟨sd,cl,i,rfl,hi,M,fg,xm,q⟩;obtain⟨b,fF⟩:∃b,(VX sd)[i]?=O b:=⟨_,M0 hi⟩;have vp:=P2 fF;have C:=NW M fg (tZ M.p vp)<|xm b vp;have R:∀{m:Bool},∀d∈(VX sd).map (KJ sd cl),Sh m 3100 3 d:=λ{m} d hd=>by obtain⟨c,hc,rfl⟩:=J0.mp hd;exact(NW M fg (tZ M.p hc)<|xm c hc).en
 have hr:((VX sd).map<|KJ sd cl)[i]?=O (pz b<|dH sd cl b):=by rw[G1,fF];rfl
 have Y:((VX sd).map<|KJ sd cl).length<=960:=by rw[j0];exact LY M
 have hil:i<((VX sd).map<|KJ sd cl).length:=by rw[j0];exact hi
 have dg:=vz M.p cl;have hy0:∀c∈VX sd,KJ sd cl c=pz c (dH sd cl c):=λc hc=>rfl;generalize dH sd cl b=y at C hr;have hat:kH ((VX sd).map<|KJ sd cl) ((i:Nat):Int)=O (pz b y):=QZ hr;have s0:∀{m},Sh m 1000 2 (.int 0):=λ{m}=>rK (PK<|xJ<|by decide);have G:∀{m},Sh m 1000 2 (prT y):=λ{m}=>rK C.td;have dctI:∀{x:Int},x.natAbs<10 ^ 29->(EG<|.int x).isSome=Ul/\Sh Ul 30 0 (.int x):=λh=>⟨Z,xJ h⟩;with_reducible refine mZ (λρ=>ρ=[Zt<|.list<|(VX sd).map<|KJ sd cl,Zt<|.int (i:Nat),Zt<|BX b,Zt<|prT y,U,U,U,U,U]) ?_ ?_
 .intro N hN;exact⟨_,hat,Z,hN _ Z⟩
 rintro _ rfl;with_reducible refine mZ (λρ=>ρ=rF ((VX sd).map<|KJ sd cl) i b y U U U) ?_ ?_
 .intro N hN;exact⟨Z,hN _ Z⟩
 rintro _ rfl;with_reducible refine mZ (JF ((VX sd).map<|KJ sd cl) i b y 9) ?_ ?_
 .intro N hN;refine⟨by decide,lz Z,hN _ ⟨_,?_,?_,Z⟩⟩
  .refine am ⟨⟨Um,(Sh.lst (am C.bx<|am G a0) (n:=2)<|A0 2).mono (by decide)<|by decide⟩,Uk Z⟩ ?_;refine am (Z' (m:=Um) (l:=[BX b,prT y,.int 0]) (am C.bx<|am G<|am s0 a0) Z) ?_;refine am (Z' (m:=Um) (l:=[BX b]) (am C.bx a0) Z) ?_;refine am (JV (m:=Um) (y:=.list _) C.bx (rK<|EL C.yi<|N1 Z)<|.inr<|Uk Z) ?_;refine am (JV (m:=Um) C.bx (rK<|zY (λd hd=>C.yi d<|v4 hd)<|N1 Z)<|.inr<|rV<|w6 Z) ?_;refine am (JV (m:=Um) C.bx (rK<|zY (λd hd=>(W0.mp hd).elim (C.yi d) λz=>by rw[Y0.mp z];exact xJ<|by decide)<|N1 Z)<|.inr<|rV<|w6 Z) ?_;exact am (ba (PK MW) Z)<|am (ba (PK<|xJ (x:=7)<|by decide) Z)<|am (JV (m:=Um) (rK C.lo) (rK C.hi)<|.inl bT) a0
  .exact A0 9
 rintro _ ⟨B,j,a,rfl⟩;with_reducible refine mZ (JF ((VX sd).map<|KJ sd cl) i b y 14) ?_ ?_
 .intro N hN;refine⟨WK a (A0 5)<|by decide,hN _ ⟨_,AY j ?_,uz a Z,Z⟩⟩;refine am (JV (m:=Um) (x:=.list _) ((Sh.lst (am C.lo<|am C.hi a0) (n:=2)<|A0 2).mono (by decide)<|by decide) G<|.inl<|Uk Z) ?_;refine am (JV (m:=Um) (x:=.tuple [wX b.1]) (WY (am C.lo a0)<|N1 Z) G<|.inl<|rV<|w6 Z) ?_;refine am (JV (m:=Um) (x:=.tuple [wX b.1,.list _]) (WY (am C.lo<|am (EL C.hl (by rw[j0,C.e];have:=C.p3;exact q0 this<|by decide)) a0)<|N1 Z) G<|.inl<|YT<|Uk Z) ?_;refine am (JV (m:=Um) G C.bx<|.inl<|rV<|w6 Z) ?_;exact am (JV (m:=Um) (x:=.tuple [wX b.1,wX b.2,wX b.2]) ((Sh.tup (am C.lo<|am C.hi<|am C.hi a0) (n:=3)<|A0 3).mono (by decide)<|by decide) G<|.inl<|rV<|w6 Z) a0
 rintro _ ⟨B,j,a,rfl⟩;with_reducible refine mZ (JF ((VX sd).map<|KJ sd cl) i b y 19) ?_ ?_
 .intro N hN;refine⟨by decide,_,Z,Ob (xJ (m:=Um) C.t).s,lz Z,by decide,lz Z,WK a (A0 5)<|by decide,hN _ ⟨_,AY j ?_,uz a Z,Z⟩⟩;refine am (JV (m:=Um) (y:=.tuple [.int y.1,.int y.2.1,.str _]) C.bx ((Sh.tup (n:=3) (am (PK<|C.yi _ u0)<|am (PK<|C.yi _<|i0 _ u0)<|am (QO C.t) a0)<|A0 3).mono (by decide)<|by decide)<|.inr λe=>by injection e with e;injection e with _ e;injection e with _ e;injection e with e;cases e) ?_;refine am (JV (m:=Um) (y:=.tuple [.none,.int y.2.1,.int y.2.2]) C.bx (rK<|zY (am MW λd hd=>C.yi d<|i0 _ hd)<|N1 Z)<|.inr λe=>by injection e with e;injection e with e;cases e) ?_;refine am (JV (m:=Um) (x:=.tuple [.tuple [],.tuple []]) (WY (am (zY a0<|V2 _)<|am (zY a0<|V2 _) a0)<|N1 Z) G<|.inl<|XT<|rV (by rw[j0];have:=C.p1;show 0≠_;exact U0 this)) ?_;exact am (JV (m:=Um) (x:=.str "") (rK<|PK oB) G<|.inl<|Uk Z)<|am (Z' (m:=Um) (l:=[]) a0 Z) a0
 rintro _ ⟨B,j,a,rfl⟩;have hq1:(1:Int)<=((b.1.map n0).length:Nat):=by rw[j0];have:=C.p1;exact q9.2 this
 have hq3:(b.1.map n0).length<=3:=by rw[j0];exact C.p3
 have hq4:((b.1.map n0).length:Int).toNat<=4:=by lia
 have hq2:((b.1.map n0).length:Int)<2 ^ 63:=by lia
 have hq5:∀d:Fb,[d].length*((b.1.map n0).length:Int).toNat<=sizeLine:=λd=>FX (by rw[P3,EQ];exact q0 hq4<|by decide);have hq6:(b.2.map n0).length<=3:=by rw[j0,C.e];exact C.p3
 with_reducible refine mZ (JF ((VX sd).map<|KJ sd cl) i b y 23) ?_ ?_
 .intro N hN;refine⟨List.cons_ne_nil _ _,hq1,hq2,hq5 _,List.cons_ne_nil _ _,hq1,hq2,hq5 _,WK a (A0 4)<|by decide,hN _ ⟨_,AY j ?_,uz a Z,Z⟩⟩;refine am (JV (m:=Um) (WY (am (sB (v:=-1) (by decide) hq4)<|am C.hi a0)<|N1 Z) G<|.inl<|XT<|FL C.p1 C.pr<|.inl<|by decide) ?_;refine am (JV (m:=Um) (WY (am C.lo<|am (sB (v:=99) (by decide) hq4) a0)<|N1 Z) G<|.inl<|YT<|FL (by rw[C.e];exact C.p1) C.pr2<|.inr<|by decide) ?_;exact am (JV (m:=Um) (rK<|PK MW) G<|.inl<|Uk Z)<|am (JV (m:=Um) C.bx (rK<|PK MW)<|.inr<|Uk Z) a0
 rintro _ ⟨B,j,a,rfl⟩;with_reducible refine mZ (JF ((VX sd).map<|KJ sd cl) i b y 26) ?_ ?_
 .intro N hN;refine⟨_,Z,_,Z,WK a (A0 3)<|by decide,hN _ ⟨_,AY j ?_,uz a Z,Z⟩⟩;have z0:Sh Ul 30 0 (.int 0):=xJ (by decide);have dI:∀{x:Int}{k:Nat}{y:Fb}{b:Nat},x.natAbs<10 ^ 29->Sh Ul b k y->(EG<|.int x).isSome=Ul/\Sh Ul 30 0 (.int x)/\Sh Ul b k y:=λh h'=>⟨Z,xJ h,h'⟩;refine am (JV (m:=Ul) (y:=.dict [(.int 4,.int 0),(.int 5,.int 0),(.int 6,.int 0)]) C.bx ((Sh.dct (es:=[(.int 4,.int 0),(.int 5,.int 0),(.int 6,.int 0)]) (k:=0) (b:=30) (n:=3) (G3.mpr ⟨dI (by decide) z0,G3.mpr ⟨dI (by decide) z0,G3.mpr ⟨dI (by decide) z0,e0⟩⟩⟩) (A0 3) Z).mono (by decide)<|by decide)<|.inr<|Uk Z) ?_;refine am (JV (m:=Ul) (y:=.dict [(.int 0,.int y.1),(.int 1,.int y.2.1),(.int 2,.int y.2.2)]) C.bx ((Sh.dct (es:=[(.int 0,.int y.1),(.int 1,.int y.2.1),(.int 2,.int y.2.2)]) (k:=0) (b:=30) (n:=3) (G3.mpr ⟨dI (by decide)<|C.yi _ u0,G3.mpr ⟨dI (by decide)<|C.yi _<|i0 _ u0,G3.mpr ⟨dI (by decide)<|C.yi _<|i0 _<|i0 _ u0,e0⟩⟩⟩) (A0 3) Z).mono (by decide)<|by decide)<|.inr<|Uk Z) ?_;exact am (JV (m:=Ul) (x:=.dict [(.int 0,wX b.1),(.int 1,wX b.2)]) ((Sh.dct (es:=[(.int 0,wX b.1),(.int 1,wX b.2)]) (k:=1) (b:=310) (n:=2) (G3.mpr ⟨dI (by decide) C.lo,G3.mpr ⟨dI (by decide) C.hi,e0⟩⟩) (A0 2) Z).mono (by decide)<|by decide) G<|.inl<|Uk Z) a0
 rintro _ ⟨B,j,a,rfl⟩;with_reducible refine mZ (JF ((VX sd).map<|KJ sd cl) i b y 28) ?_ ?_
 .intro N hN;refine⟨FX (q0 hq3<|by decide),EK (λd=>.tuple [d,.int 0]) (λd hd N' I=>I) ?_⟩;refine⟨b.1.map λx=>(.inl x,.int 0),by rw[O0,O0];rfl,λqs hq hql=>?_⟩;refine⟨FX (q0 hq6<|by decide),EK (λd=>.tuple [d,.int 0]) (λd hd N' I=>I) ?_⟩;refine⟨b.2.map λx=>(.inl x,.int 0),by rw[O0,O0];rfl,λrs hr' hrl'=>?_⟩;refine⟨WK a (A0 2)<|by decide,hN _ ⟨_,AY j ?_,uz a Z,Z⟩⟩;have wd:b.2.length<=3:=by rw[C.e];exact C.p3
  exact am (JV (m:=Ul) (x:=.tuple [.dict<|qs.map aj,wX b.2]) (WY (am (GL C.li C.p3 hq hql)<|am C.hi a0)<|N1 Z) G<|.inl<|XT<|Uk Z)<|am (JV (m:=Ul) (x:=.tuple [wX b.1,.dict<|rs.map aj]) (WY (am C.lo<|am (GL C.hl wd hr' hrl') a0)<|N1 Z) G<|.inl<|YT<|Uk Z) a0
 rintro _ ⟨B,j,a,rfl⟩;with_reducible refine mZ (JK ((VX sd).map<|KJ sd cl) i b y 31) ?_ ?_
 .intro N hN;have gp:∀t:Nat,t<3->kH ([y.1,y.2.1,y.2.2].map n0) ((t:Nat):Int)=O (.int<|[y.1,y.2.1,y.2.2].getD t 0):=λt ht=>zJ ht;refine⟨by decide,by decide,lz Z,Wz (λrest acc τ=>τ=[U,Zt<|prT y]/\∃(t k:Nat) (ks:Bm),t+k=3/\rest=(List.range' t k).map (λi:Nat=>n0<|0+i)/\acc=ks.map (λi:Nat=>n0 (i:Nat))/\(∀x∈ks,x<3)/\ks.length<=t) ?_ ?_ ⟨Z,0,3,[],Z,Z,Z,List.forall_mem_nil _,A0 0⟩⟩
  .rintro d ds acc _ ⟨rfl,t,k,ks,hk,L,rfl,cr,hkl⟩ N' I;cases k with
   |zero=>cases L
   |succ k =>
    rw[List.range'_succ,E1]at L;cases L;rw[show (0:Int)+(t:Int)=((t:Nat):Int) from M7 _];refine⟨_,gp t<|by lia,[0,1],Z,kJ (λ_=>?_)<|λ_=>?_⟩
    .refine I _ _ ⟨Z,t+1,k,ks++[t],by lia,Z,by rw[Q3];rfl,λx hx=>?_,by rw[N0];exact A5 hkl 1⟩;rcases W0.mp hx with z|z
     .exact cr x z
     .rw[Y0.mp z];omega
    .exact I _ _ ⟨Z,t+1,k,ks,by omega,Z,Z,cr,Z4 hkl⟩
  .rintro acc _ ⟨rfl,t,k,ks,hk,L,rfl,cr,hkl⟩;refine XZ (λrest ρ=>∃(ls:Bm) (B:Ur) (x7:Yi Sl),rest=ls.map (λi:Nat=>n0 (i:Nat))/\(∀x∈ls,x<3)/\(∀d∈B,Og (pz b y) d)/\B.length+ls.length<=31/\ca x7/\ρ=rF ((VX sd).map<|KJ sd cl) i b y (Yt<|.list B) x7 U) ?_ ?_ ⟨ks,B,U,Z,cr,j,by lia,.inl Z,Z⟩
   .rintro d ds ρ ⟨ls,B,x7,L,hls,j,a,hx7,rfl⟩ N2 jr;cases ls with
    |nil=>cases L
    |cons t ls=>cases L;have ht:t<3:=hls t u0;rw[U1]at a;refine gnC (ρ':=rF ((VX sd).map<|KJ sd cl) i b y (Yt<|.list B) (Zt<|.int (t:Nat)) U) (by rcases hx7 with rfl|⟨d,rfl⟩<;>rfl) ?_;refine⟨nn t,_,gp t ht,WK (tk3 (l:=[y.1,y.2.1,y.2.2]) (A0 3) _) (A0 1)<|by decide,n1 t,WK (TY (tk3 (l:=[y.1,y.2.1,y.2.2]) (A0 3) _)<|A0 1) (MS (l:=[y.1,y.2.1,y.2.2]) (A0 3) _)<|by decide,PD (show B.length<=31 by exact Q1 a)<|by decide,jr _ ⟨ls,_,_,Z,λx hx=>hls x<|i0 _ hx,AY j<|Y' ?_,by rw[N0,P3];lia,.inr ⟨_,Z⟩,Z⟩⟩;exact JV (m:=Um) C.bx (rK<|qz (ns:=[y.1,y.2.1,y.2.2]) (k:=t) C.yi (XV<|decide<|[y.1,y.2.1,y.2.2].getD t 0=1) ht<|N1 Z)<|.inr<|qF sF
   .rintro ρ ⟨ls,B,x7,L,hls,j,a,hx7,rfl⟩;exact hN _ ⟨B,x7,j,Q1 a,hx7,Z⟩
 rintro _ ⟨B,x7,j,a,hx7,rfl⟩;with_reducible refine mZ (JF ((VX sd).map<|KJ sd cl) i b y 37) ?_ ?_
 .intro N hN;have ao:(b.1.map n0).length=b.1.length:=j0 ..;refine⟨by lia,by lia,?_⟩;refine XZ (λrest ρ=>∃t k:Nat,t+k=b.1.length/\rest=(List.range' t k).map (λi:Nat=>n0<|0+i)/\JF ((VX sd).map<|KJ sd cl) i b y (31+2*t) ρ) ?_ ?_ ⟨0,b.1.length,o8 _,by rw[SX,j0,List.range_eq_range'];rfl,B,j,a,by rcases hx7 with rfl|⟨d,rfl⟩<;>rfl⟩
  .rintro d ds ρ ⟨t,k,hk,L,B,j,a,rfl⟩ N hN;cases k with
   |zero=>cases L
   |succ k =>
    rw[List.range'_succ,E1]at L;cases L;rw[show (0:Int)+(t:Int)=((t:Nat):Int) from M7 _];have ht1:t<b.1.length:=by lia
    have ht2:t<b.2.length:=by rw[C.e];exact ht1
    have h32:b.2.length<=3:=by rw[C.e];exact C.p3
    have ht3:32+2*t<=100000:=by have:=C.p3;lia
    refine gnC (ρ':=rF ((VX sd).map<|KJ sd cl) i b y (Yt<|.list B) (Zt<|.int (t:Nat)) U) Z ?_;with_reducible refine mZ (λρ=>∃ss':Ur,(∀d∈ss',Og (pz b y) d)/\ss'.length<=32+2*t/\ρ=rF ((VX sd).map<|KJ sd cl) i b y (Yt<|.list ss') (Zt<|.int (t:Nat)) U) ?_ ?_
    .intro N' I;refine⟨_,zJ ht1,[0,1],Z,kJ (λ_=>?_)<|λ_=>I _ ⟨B,j,q0 a<|A5 (by decide) _,Z⟩⟩;refine⟨nn t,_,zJ ht1,WK (tk3 C.p3 _) (A0 1)<|by decide,n1 t,WK (TY (tk3 C.p3 _)<|A0 1) (MS C.p3 _)<|by decide,PD a<|by lia,I _ ⟨_,AY j<|Y' ?_,q0 (TY a<|A0 1)<|Nat.add_lt_add_right (by decide) _,Z⟩⟩;exact JV (m:=Um) (WY (am (qz (k:=t) C.li (XV<|decide<|b.1.getD t 0=1) ht1<|Z4 C.p3)<|am C.hi a0)<|N1 Z) G<|.inl<|XT<|qF sF
    rintro _ ⟨ss',hss',hsl',rfl⟩;refine⟨_,zJ ht2,[0,1],Z,kJ (λ_=>?_)<|λ_=>hN _ ⟨t+1,k,by lia,Z,ss',hss',by lia,Z⟩⟩;refine⟨nn t,_,zJ ht2,WK (tk3 h32 _) (A0 1)<|by decide,n1 t,WK (TY (tk3 h32 _)<|A0 1) (MS h32 _)<|by decide,PD hsl' ht3,hN _ ⟨t+1,k,by omega,Z,_,AY hss'<|Y' ?_,q0 (TY hsl'<|A0 1)<|by lia,Z⟩⟩;exact JV (m:=Um) (WY (am C.lo<|am (qz (k:=t) C.hl (XV<|decide<|b.2.getD t 0=1) ht2<|Z4 h32) a0)<|N1 Z) G<|.inl<|YT<|qF sF
  .rintro ρ ⟨t,k,hk,L,B,j,a,rfl⟩;exact hN _ ⟨B,j,by have:=C.p3;lia,Z⟩
 rintro _ ⟨B,j,a,rfl⟩;have h0:(VX sd).map (KJ sd cl)≠[]:=λe=>by rw[e]at hil;cases hil
 have hdB:∀jb,Nop jb (tK<|(VX sd).map λc=>(c,prT<|dH sd cl c)):=λjb=>UO (λp hp=>by
   obtain⟨c,hc,rfl⟩:=J0.mp hp;have D:=NW M fg (tZ M.p hc)<|xm c hc;exact⟨D.bx,D.td⟩) (by rw[j0];exact q0 (LY M)<|by decide);have hTd:∀d∈(VX sd).map (KJ sd cl),∃(c:YX) (v:V3),d=pz c v/\Fc c v:=λd hd=>by
  obtain⟨c,hc,rfl⟩:=J0.mp hd;exact⟨c,dH sd cl c,Z,NW M fg (tZ M.p hc)<|xm c hc⟩
 have hbd:(VX sd).map (KJ sd cl)=((VX sd).map λc=>(c,prT<|dH sd cl c)).map λp=>.tuple [b2 p.1,p.2]:=by rw[O0];rfl
 have hbn:(((VX sd).map λc=>(c,prT<|dH sd cl c)).map (·.1)).Nodup:=by rw[O0];exact(U6<|VX sd).symm ▸ qK M.p
 generalize (VX sd).map (λc=>(c,prT<|dH sd cl c))=pb at hdB hbd hbn;generalize (VX sd).map (KJ sd cl)=jb at q hr R hTd Y hil dg hat h0 hbd ⊢;have c1:WJ ((i:Nat):Int) jb.length=i:=sK Z;have c2:WJ (((i:Nat):Int)+1) jb.length=i+1:=sK Z;have xh:∀n:Nat,(jb.take n).length<=960:=λn=>q0 (Y8 _ _) Y;have vn:∀n:Nat,(jb.drop n).length<=960:=λn=>by rw[K2];exact q0 (A7 _ _) Y
 with_reducible refine mZ (JG jb i b y 37) ?_ ?_
 .intro N hN;refine⟨q0 a<|by decide,EK (λone=>.list<|jb.take (WJ ((i:Nat):Int) jb.length)++[one]++jb.drop (WJ (((i:Nat):Int)+1) jb.length)) ?_ ?_⟩
  .intro d hd N' I;exact⟨WK (xh _) (A0 1)<|by decide,WK (TY (xh _)<|A0 1) (vn _)<|by decide,I⟩
  .refine hN _ ⟨_,_,_,λd hd=>?_,by rw[j0];exact a,Z⟩;obtain⟨one,ho,rfl⟩:=J0.mp hd;rw[c1,c2];obtain⟨m,hm⟩:=(j one ho).sh;exact pF (m:=m) R Y hr hm (j one ho).ne
 rintro _ ⟨fs,x6,x7,cn,nh,rfl⟩;with_reducible refine mZ (JG jb i b y 41) ?_ ?_
 .intro N hN;refine⟨WK (xh _) (vn _)<|by decide,nn i,n1 i,WK (b:=960) Y (by rw[K2];exact q0 (A7 _ _)<|xh _)<|by decide,WK (xh _) (vn _)<|by decide,WK nh (A0 4)<|by decide,hN _ ⟨_,_,_,lW cn<|am ?_<|am ?_<|am ?_<|am ?_ a0,uz nh Z,Z⟩⟩
  .exact((Sh.tup (m:=Um) R (n:=1000)<|q0 Y<|by decide).mono (by decide) (by decide):Sh Um 4000000 5 (.tuple jb)).nop (neL Z)
  .exact tz (m:=WJ ((i:Nat):Int) jb.length) (n:=WJ (((i:Nat):Int)+1) jb.length) R (by rw[c1];exact V0 hil) (by rw[c1,c2];lia) (by rw[c1,c2];lia)
  .refine FJ (m:=Um) (rz R λd hd=>R d<|v4<|u5 hd) (TY (m:=(jb.take<|i+1).drop i) Y (b:=40) ?_) λe=>?_
   .rw[K2,E2];lia
   .have e:jb++(jb.take<|i+1).drop i=jb:=e;have:=Rb U4 e;rw[N0,K2,E2]at this
    lia
  .exact tz (m:=WJ (((i:Nat):Int)+1) jb.length) (n:=WJ ((i:Nat):Int) jb.length) R (by rw[c2];exact hil) (by rw[c1,c2];lia) (by rw[c1,c2];lia)
 rintro _ ⟨fs,x6,x7,cn,nh,rfl⟩;with_reducible refine mZ (JG jb i b y 43) ?_ ?_
 .intro N hN;refine kJ (λh=>?_)<|λ_=>hN _ ⟨fs,_,_,cn,q0 nh<|by decide,Z⟩;have h2:(1:Int)<(jb.length:Int):=Ob h;obtain⟨r1,r2⟩:=SO dg<|L6.1 h2;exact⟨Z,WK (vn _) (xh _)<|by decide,WK nh (A0 2)<|by decide,hN _ ⟨_,_,_,lW cn<|am (FJ (m:=Um) (λd hd=>R d<|dQ.mp hd) (by rw[UQ];exact q0 Y<|by decide) r1)<|am (FJ (m:=Um) (rz (λd hd=>R d<|u5 hd) λd hd=>R d<|v4 hd) (by rw[N0,K2,E2];lia) r2) a0,uz nh Z,Z⟩⟩
 rintro _ ⟨fs,x6,x7,cn,nh,rfl⟩;refine⟨pb,hbd,hbn,?_⟩;refine⟨q0 Y<|by decide,EK ga ?_ ?_⟩
 .intro d hd N' I;obtain⟨c,v,rfl,_⟩:=hTd d hd;exact⟨Z,I⟩
 refine⟨WK nh (A0 10)<|by decide,q _ _ (lW cn<|am (qB (PK MW) Z)<|am (qB (PK<|xJ (x:=7)<|by decide) Z)<|am (qB (PK<|XV Ul) Z)<|am (qB (PK oB) Z)<|am ⟨neL Z,.inl Z,.inr<|.inl Z,Z,by decide,by decide +kernel⟩<|am (FJ (m:=Um) (l:=[]) a0 (by decide) λe=>h0 e.symm)<|am (qB (zY (l:=[]) a0<|by decide) Z)<|am (hdB jb)<|am ?_<|am ?_ a0)<|q0 (TY nh<|A0 10)<|by decide⟩
 .have s1:Sh Um 3500000 4 (.list jb):=(Sh.lst R (n:=1000)<|q0 Y<|by decide).mono (by decide) (by decide);refine((Sh.lst (l:=[.list jb]) (n:=1) (am s1 a0)<|A0 1).mono (by decide) (by decide):Sh Um 4000000 5 (.list [.list jb])).nop λe=>?_;injection e with e;obtain⟨c,v,e2,_⟩:=hTd (.list jb) (by rw[<-e];exact Y0.mpr<|by rw[e]);cases e2
 .refine FJ (m:=Um) (l:=jb.map ga) (λd hd=>?_) (by rw[j0];exact q0 Y<|by decide) λe=>?_
  .obtain⟨r,hr',rfl⟩:=J0.mp hd;obtain⟨c,v,rfl,D⟩:=hTd r hr';exact D.td.mono (by decide) (by decide)
  .cases jb with
   |nil=>exact h0 Z
   |cons r rs=>obtain⟨c,v,e2,_⟩:=hTd r u0;rw[e2]at e;injection e with e;injection e with e;injection e with _ e;injection e with _ e;cases e
theorem cx:∀{lo hi sd:Ql},Bx lo hi sd->(lenP ((lo.zip hi).map λq=>aJ q.1 q.2):Int)=IV lo hi
 |[],[],[],_=>rfl
 |x::lo,y::hi,s::sd,h=>by
  have a:=cx h.2;have hx:=h.1;show (((aJ x y).length*lenP ((lo.zip hi).map λq=>aJ q.1 q.2):Nat):Int)=(y-x+1)*IV lo hi;rw[Au,xQ,a];congr 1
  lia
 |[],[],_::_,h=>h.elim
 |[],_::_,z,h=>by cases z<;>exact h.elim
 |_::_,[],z,h=>by cases z<;>exact h.elim
 |_::_,_::_,[],h=>h.elim
theorem wB{sd:Ql}{b:YX}(h:Bx b.1 b.2 sd):((MK sd cl b.1 b.2).length:Int)=QW b:=by unfold MK Xk;rw[j0,SZ,P3,EQ];exact cx h
theorem gx:∀{l:Ql},(∀c∈l,Jk c)->l.sum.natAbs<=l.length*10 ^ 27
 |[],_=>by simp
 |c::l,h=>by have a:=gx λx hx=>h x<|i0 _ hx;obtain⟨b,d⟩:=h c u0;rw[X5,U1,n8];omega
theorem xB{sd:Ql}(d:Sd sd)(e:cl.length=(DJ sd).length)(hB:∀c∈cl,Jk c){b:YX}(i:Bx b.1 b.2 sd):∀c∈MK sd cl b.1 b.2,Jk c:=λc a=>by unfold MK at a;obtain⟨p,j,rfl⟩:=J0.mp a;exact hB _<|Yj d.p e<|bz<|Mu i j
theorem cT{sd:Ql}(i:Sd sd)(j:cl.length=(DJ sd).length)(hB:∀c∈cl,Jk c){b:YX}(a:Bx b.1 b.2 sd){z:V3}(h:Nr (dH sd cl b) z):Bd b z:=by
 have all:=xB i j hB a;have d:=iF (cl:=cl) a;have y:=gx all;have k:((MK sd cl b.1 b.2).length:Int)=IV b.1 b.2:=wB (cl:=cl) a;have l:=all _ (uY d).1;have m:=all _ (vY d).1;have q:1<=IV b.1 b.2:=(MY a).1;obtain⟨_,t,v,x⟩:=h;dsimp only[dH]at t v x;unfold Jk at l m;have e:(IV b.1 b.2).toNat=(MK sd cl b.1 b.2).length:=by lia
 have B:1<=(MK sd cl b.1 b.2).length:=q9.1<|le_of_le_of_eq q k.symm;refine⟨?_,by lia,by lia⟩;rw[e,Nat.mul_add]
 lia
theorem tF:∀{sd:Ql},(∀c∈sd,1<=c)->Fj (sd.map λs=>((0:Int),s-1)) (sd.map XX)
 |[],_=>trivial
 |s::sd,h=>⟨dF<|jF _ _,tF λc a=>h c<|i0 _ a⟩
noncomputable abbrev BY(sd:Ql):YX:=bo<|sd.map λs=>((0:Int),s-1)
theorem yB(sd:Ql):Xk (BY sd).1 (BY sd).2=DJ sd:=by
 have e:(((BY sd).1).zip (BY sd).2).map (λp=>aJ p.1 p.2)=sd.map rng:=by
  induction sd with
  |nil=>rfl
  |cons s sd b =>
   have c:aJ 0 (s-1)=rng s:=by unfold aJ rng;rw[show (s-1+1-0).toNat=s.toNat by lia];exact S1 λn _=>M7 _
   have a:(((BY sd).1).zip (BY sd).2).map (λp=>aJ p.1 p.2)=sd.map rng:=b;show aJ 0 (s-1)::(((BY sd).1).zip (BY sd).2).map (λp=>aJ p.1 p.2)=rng s::sd.map rng;rw[c,a]
 unfold Xk DJ;rw[e]
theorem jG{sd:Ql}(b:∀c∈sd,1<=c)(a:cl.length=(DJ sd).length):MK sd cl (BY sd).1 (BY sd).2=cl:=by unfold MK;rw[yB];have h:=Rb (y7 Prod.snd)<|cF b a;rw[fQ<|A1 a,O0]at h;exact h.symm
theorem ix:∀{l:Ql}{r:Nat},r<l.length->(l.set r<|l.getD r 0+1).sum=l.sum+1
 |[],_,h=>nomatch h
 |x::l,0,_=>by simp;lia
 |x::l,r+1,h=>by have:=ix (l:=l) (r:=r) (by simpa using h);simp only[F9,X5,List.getD_cons_succ];omega
theorem wz{sd cl a:Ql}(i:Sd sd)(j:cl.length=(DJ sd).length){r:Nat}(k:r<cl.length)(e:a=cl.set r (cl.getD r 0+1)):X3 ((VX sd).map<|KJ sd cl)≠.list ((VX sd).map<|KJ sd a):=λh=>by
 injection h with h;have c:a.length=(DJ sd).length:=by rw[e,j5];exact j
 have b:=U9.mp h (BY sd)<|hbs_mem.mpr ⟨_,tF i.p,Z⟩;injection b with b;injection b with _ b;injection b with b _;have d:=oV b;unfold AL FO at d;injection d with d;rw[jG i.p j,jG i.p c,e,ix k]at d;exact U8 _<|E7<|iX d.symm
theorem zB{sd cl:Ql}(a:Sd sd)(l:dZ sd<=24){V:YX->V3}{b:YX}{x:V3}(i:b∈VX sd)(hx:x≠dH sd cl b)(j:∀c∈VX sd,SS sd cl (O (b,x)) c<|V c):Nop ((VX sd).map<|KJ sd cl) (.list<|(VX sd).map<|Rk V):=by
 refine FJ (m:=Um) (λd hd=>?_) (by rw[j0];exact q0 (LY a)<|by decide) λe=>?_
 .obtain⟨c,k,rfl⟩:=J0.mp hd;exact(NW a l (tZ a.p k) (j c k).1).en
 .have h:=U9.mp e b i;injection h with h;injection h with _ h;injection h with h _;have h:=oV h;have q:=(j b i).2.2 x Z;refine hx ?_;rw[<-q];injection h with e1 h;injection h with e2 h;injection h with e3 h;exact Prod.ext e1<|Prod.ext e2 e3
theorem VO{b:YX}(y:V3)(c:b.1.length<=4)(e:b.2.length<=4):XS 3 (pz b y):=by have a:∀{n:Nat} (l:Ql),l.length<=4->XS (n+1) (wX l):=λ{n} l hl=>⟨by rw[j0];exact hl,λd hd=>by obtain⟨x,_,rfl⟩:=J0.mp hd;cases n<;>trivial⟩;exact⟨by show 2<=4;decide,am ⟨by show 2<=4;decide,am (a _ c)<|am (a _ e) a0⟩<|am (a [y.1,y.2.1,y.2.2]<|by show 3<=4;decide) a0⟩
theorem Ya{p:Fb×Fb->Prop}:∀e∈([]:List (Fb×Fb)),p e:=e0
theorem a_{ks:Bm}{b:RD}{g:UK}{c:gY}{E:DE}(d:Ur)(a:Ev)(h:∀Q:Ur->Ev->Prop,Q d a->b ρ Q)(w:eW ks g c E d (clean ks a)):aD ks b g c E ρ:=h _ w
noncomputable abbrev QD(ns:Ql)(k l:Int)(sd cl:Ql)(e i j a b c d:Yi Sl):Ev:=[Zt<|SK ns,Yt<|OJ ns k l,Zt<|JW sd cl,Zt<|wG<|eJ sd cl,Zt<|wX sd,e,i,U,j,U,a,b,c,d]
variable (P w K mg base) in
structure CalsL:Prop where
 Wm:Cal P w K mg base 1 "_law_pen" ["_law_script"] (tX K uS)
 Jm:Cal P w K mg base 1 "_law_take" ["_law_pen_here","_law_most"] (tX K yD)
 Wn:Cal P w K mg base 3 "_law_small" ["_law_pen_here"] (tX K cB)
 Wo:Cal P w K mg base 12 "_law_made" ["_law_sides","_law_known","_law_at","_law_bent"] (tX K DL)
 Wp:Cal P w K mg base 1 "_law_forms" ["_law_rows","_law_at"] (tX K uB)
 Wr:Cal P w K mg base 2 "_law_where" ["_law_pen_here","_law_many"] (tX K mB)
 Wl:Cal P w K mg base 4 "_law_by_one" ["_law_thing"] (tX K<|YS 4)
 Ws:Cal P w K mg base 1 "_law_others" ["_law_entry"] (tX K Y_)
 Wt:Cal P w K mg base 6 "holds_halves" ["field","thing"] (tX K S_)
def cLaw:Con:=λa Q=>∃ns:Ql,a=[.fz<|SK ns]/\ns.length<=63/\∀o,Q (.fz<|.bool Ul) o
theorem cLaw_at(ns:Ql)(h:ns.length<=63):cLaw [.fz<|SK ns] λr _=>r=.fz (.bool Ul):=⟨ns,Z,h,λ_=>rfl⟩
theorem WO(F:Vl K "law" (top 39) f fd)(T:Txt mg)(C:CalsL P w K mg base):FnOk P w K mg base GJ 13 f fd ["_law_script"] (tX K cLaw):=by
 have S:FnScope ["_law_script","_law_pen_here","_law_field","_law_known","_law_sides","_law_rows","_law_wrong","_law_k","_law_at","_law_other","_law_thing","_law_kept","_law_some","_law_cells"] ["_law_script"] (sX<|top 39):={};refine PY F S (λfc A outer s H E j=>qX (fZ 1<|EZ C.Wm j.m<|RX 0)<|qX (yU (XJ C.Wn j.m<|RX 1)<|YJ Z rfl<|QX (qZ 2)<|QX (qZ 3) mJ)<|qX (fZ 4<|HX (wn 2) xX)<|qX (fZ 5<|EZ C.Wo j.m<|KZ 4<|KZ 3<|yX wU<|rX wU)<|qX (BJ (pJ HG lV (wx<|EZ C.Wt j.m<|KZ 2<|rX<|yJ FY (sJ (K:=K) Z) T.Xr Se<|RX 5)<|wx OY) (vZ OY) MZ)<|qX (fZ 6<|JX (wx<|EZ C.Wp j.m<|yX (wv 5)<|rX<|XJ C.Jm j.m<|KZ 1<|rX<|VJ T.Qm<|RX 5)<|wx<|aZ<|rX<|JX (wx<|aZ<|rX<|vX<|yX (HX (wx<|HX (wn 5) xX) xX)<|rX<|Yv [(.inl 4,.inr<|.int 0),(.inl 5,.inr<|.int 0),(.inl 6,.inr<|.int 0)] (by decide +kernel) (by decide) (by simp)<|Oz (iK gJ gJ<|iK gJ gJ<|iK gJ gJ Nz) Z Z (by simp)<|by simp)<|wx<|MJ Z (wn 5) xX)<|qX (BJ (pJ tU sV (wx<|VJ T.Qm<|RX 5) xX) (iZ<|fZ 6<|JX (wn 6)<|wx<|EZ C.Wp j.m<|yX (wv 5)<|rX UX) MZ)<|qX (nK [7,8,9] (nY T.Xm<|rX UX) (qZ 7)<|qX (fZ 8<|XJ C.Jm j.m<|KZ 1<|rX<|VJ T.Qm<|RX 5)<|iZ<|nK [9] (hZ rfl<|EZ C.Ws j.m<|rX<|HX (wx<|HX (wn 5)<|wn 8) xX) (qZ 9)<|qX (ZZ<|xq CZ Z PySem.F.slot_list_append PySem.F.type_list_append AZ (wn 6)<|rX<|JX (wx<|JX (wx<|ZJ Z (wn 5)<|wn 8)<|wx<|aZ<|rX<|vX<|yX (HX (wx<|HX (wn 5)<|wn 8) xX)<|rX<|wv 9)<|wx<|MJ Z (wn 5)<|wx<|JX (wn 8) xX)<|iZ<|ZZ<|xq CZ Z PySem.F.slot_list_append PySem.F.type_list_append AZ (wn 6)<|rX<|EZ C.Wo j.m<|KZ 4<|KZ 3<|yX (HX (wx<|HX (wn 5)<|wn 8) xX)<|RX 9)<|qX (nK [10,11] (hZ rfl<|wv 6) (qZ 10)<|qX (fZ 11<|eZ wD (TU (K:=K) Z j) T.Xn boot_repr<|RX 10)<|iZ<|BJ (BN<|Yx (pJ HG lV (wx<|EZ C.Wt j.m<|KZ 2<|RX 10)<|wx OY)<|SH<|Ek j (wx<|eZ wD (TU (K:=K) Z j) T.Xn boot_repr<|RX 10)<|wn 11) (vZ OY) MZ)<|qX (nK [12,10] (hZ rfl<|XJ C.Wr j.m<|KZ 1<|rX<|VJ T.Qm<|RX 5) (qZ 8)<|qX (Zv (i:=12) S.nd Z Z Z (own:=["_law_one"]) (fr:=[5,8]) (by kernel_rfl) (hZ rfl<|EZ C.Wl j.m<|rX<|HX (wn 5)<|wn 8) (λ_ _ _ _=>qZ 0) (λ_ _ _ _=>wT)<|λ_ _ _ _=>JX (wx<|JX (wx<|ZJ Z (wn 1)<|wn 2)<|wx<|aZ<|rX<|wv 0)<|wx<|MJ Z (wn 1)<|wx<|JX (wn 2) xX)<|iZ<|nK [10] (hZ rfl<|JX (wn 12)<|wx<|aZ<|yX (JX (wx<|ZJ Z (wn 5)<|wn 8)<|wx<|MJ Z (wn 5)<|wx<|JX (wn 8) xX)<|rX<|JX (wx<|ZJ Z (wn 5)<|wx<|JX (wn 8) xX)<|wx<|MJ Z (wn 5)<|wn 8) (qZ 10)<|iZ<|BJ (pJ HG lV (wx<|EZ C.Wt j.m<|KZ 2<|RX 10)<|wx OY) (vZ OY) MZ)<|qX (fZ 13<|yJ FY (sJ (K:=K) Z) T.Xr Se<|rX<|HX (wn 2) xX)<|qX (OE (wn 13)<|wx<|XJ C.Jm j.m<|KZ 1<|rX<|VJ T.Qm<|RX 13)<|vZ<|Yz (zW jy iy (wx<|EZ C.Wt j.m<|yX (vX<|yX (wv 4)<|rX<|Gk T.Xs<|RX 13)<|rX<|yJ FY (sJ (K:=K) Z) T.Xr Se<|RX 5)<|wx OY)<|Xv<|zW jy iy (wx<|EZ C.Wt j.m<|KZ 2<|RX 5)<|wx OY) ?_;rintro args Qd ⟨ns,rfl,hn,q⟩;with_reducible refine mZ (λρ=>ρ=[Zt<|SK ns,Yt<|OJ ns 0 0,U,U,U,U,U,U,U,U,U,U,U,U]) ?_ ?_
 .intro N hN;exact⟨ns,Z,λo=>hN _ Z⟩
 rintro _ rfl;with_reducible refine mZ (λρ=>∃(sd cl:Ql) (k l:Int),Sd sd/\dZ sd<=24/\cl.length=(DJ sd).length/\(∀c∈cl,Jk c)/\0<=k/\0<=l/\ρ=[Zt<|SK ns,Yt<|OJ ns k l,Zt<|JW sd cl,Zt<|wG<|eJ sd cl,U,U,U,U,U,U,U,U,U,U]) ?_ ?_
 .intro N hN;refine⟨ns,0,0,Z,by decide,by decide,λsd cl k l o B fg jd hB I hl=>?_⟩;exact⟨Z,hN _ ⟨sd,cl,k,l,B,fg,jd,hB,I,hl,Z⟩⟩
 rintro _ ⟨sd,cl,k,l,B,fg,jd,hB,I,hl,rfl⟩;with_reducible refine mZ (λρ=>ρ=QD ns k l sd cl U U U U U U U) ?_ ?_
 .intro N hN;exact⟨_,Z,hN _ Z⟩
 rintro _ rfl;have h9:=LY B;have hnr:∀b∈VX sd,∀z,Nr (dH sd cl b) z->Bd b z:=λb G z hz=>cT B jd hB (tZ B.p G) hz;have zg:((VX sd).map<|KJ sd cl).length=(VX sd).length:=j0 ..;have xr:1<=(VX sd).length:=List.length_pos_of_mem<|hbs_mem.mpr ⟨_,tF B.p,Z⟩;have hat:∀i:Nat,i<(VX sd).length->∃b,b∈VX sd/\((VX sd).map<|KJ sd cl)[i]?=O (pz b<|dH sd cl b):=λi hi=>by obtain⟨b,G⟩:∃b,(VX sd)[i]?=O b:=⟨_,M0 hi⟩;exact⟨b,P2 G,by rw[G1,G];rfl⟩
 have R:((VX sd).map<|KJ sd cl).length<=960:=by rw[zg];exact h9
 have xh:∀n:Nat,(((VX sd).map<|KJ sd cl).take n).length<=960:=λn=>q0 (Y8 _ _) R;have vn:∀n:Nat,(((VX sd).map<|KJ sd cl).drop n).length<=960:=λn=>by rw[K2];exact q0 (A7 _ _) R
 have qr:=@wz sd cl;have hmade:=@zB sd cl B fg;with_reducible refine mZ (λρ=>(∀b∈VX sd,Bd b<|dH sd cl b)/\ρ=QD ns k l sd cl (Yt<|.list<|(VX sd).map<|KJ sd cl) U U U U U U) ?_ ?_
 .intro N hN;refine⟨sd,cl,U,Z,B,jd,hB,λz h=>(by cases h),λV o hV=>?_⟩;have e:(VX sd).map (Rk V)=(VX sd).map (KJ sd cl):=S1 λb G=>by
   have:=(hV b G).2.1 Z;unfold Rk;rw[this];rfl
  rw[e];exact hN _ ⟨λb G=>(hV b G).2.1 Z ▸ (hV b G).1,Z⟩
 rintro _ ⟨xm,rfl⟩;have hS:∀{m:Bool},∀d∈(VX sd).map (KJ sd cl),Sh m 3100 3 d:=λ{m} d hd=>by obtain⟨c,hc,rfl⟩:=J0.mp hd;exact(NW B fg (tZ B.p hc)<|xm c hc).en
 have hok:BV (.list<|(VX sd).map<|KJ sd cl)=true:=oJ λd hd=>(hS (m:=Um) d hd).o;have hStk:∀{m:Bool} (n:Nat),∀d∈((VX sd).map<|KJ sd cl).take n,Sh m 3100 3 d:=λn d hd=>hS d<|v4 hd;have hSdr:∀{m:Bool} (n:Nat),∀d∈((VX sd).map<|KJ sd cl).drop n,Sh m 3100 3 d:=λn d hd=>hS d<|u5 hd;with_reducible refine mZ (λρ=>ρ=QD ns k l sd cl (Yt<|.list<|(VX sd).map<|KJ sd cl) U U U U U U) ?_ ?_
 .intro N hN;refine⟨sd,cl,_,Z,.inl hok,B,jd,λt o ht=>?_⟩;rw[ht.mpr Z];exact hN _ Z
 rintro _ rfl;have hat0:=hat 0 xr;generalize v:(VX sd).map (KJ sd cl)=jb at *;have jl:(1:Int)<=(jb.length:Nat):=by rw[zg];exact q9.mpr xr
 have lp:(jb.length:Int)<1000000:=m5 (q9.mpr R) (by decide);have hr3:(jb.length:Int)<=100000:=j9 (m5 (q9.mpr R)<|by decide);with_reducible refine mZ (λρ=>∃(a:Ur) (k l:Int),(∀d∈a,Nop jb d)/\a.length<=101/\0<=k/\0<=l/\ρ=QD ns k l sd cl (Zt<|.list jb) (Yt<|.list a) U U U U U) ?_ ?_
 .intro N hN;refine⟨ns,k,l,_,Z,I,hl,jl,lp,λr M l1 o r0 Y re ud=>?_⟩;obtain⟨i,rfl⟩:=J5 r0;rw[zg]at Y;refine⟨sd,cl,i,by rw[v];rfl,L6.mp Y,B,fg,xm,λts o rg htl=>?_⟩;rw[v]at rg;obtain⟨b0,fF,e0⟩:=hat0;have C0:=NW B fg (tZ B.p fF)<|xm b0 fF;have z0:Sh Ul 30 0 (.int 0):=xJ (by decide);have dI:∀{x:Int},x.natAbs<10 ^ 29->(EG<|.int x).isSome=Ul/\Sh Ul 30 0 (.int x)/\Sh Ul 30 0 (.int 0):=λh=>⟨Z,xJ h,z0⟩;have g1:Sh Ul 1000 2 (.dict [(.int 4,.int 0),(.int 5,.int 0),(.int 6,.int 0)]):=(Sh.dct (es:=[(.int 4,.int 0),(.int 5,.int 0),(.int 6,.int 0)]) (k:=0) (b:=30) (n:=3) (G3.mpr ⟨dI<|by decide,G3.mpr ⟨dI<|by decide,G3.mpr ⟨dI<|by decide,Ya⟩⟩⟩) (A0 3) Z).mono (by decide) (by decide);have g2:Nop jb (.list<|jb.take 0++[.tuple [BX b0,.dict [(.int 4,.int 0),(.int 5,.int 0),(.int 6,.int 0)]]]++jb.drop (0+1)):=pF (m:=Ul) hS R e0 (Zj (am C0.bx<|am g1 a0)<|N1 Z) λe=>by
   injection e with e;injection e with _ e;injection e with e;cases e
  exact⟨_,QZ e0,_,Z,WK (A0 1) (vn _)<|by decide,WK htl (A0 1)<|by decide,hN _ ⟨_,M,l1,lW rg<|am g2 a0,TY (b:=1) htl<|A0 1,re,ud,Z⟩⟩
 rintro _ ⟨a,k,l,vm,mh,I,hl,rfl⟩;with_reducible refine mZ (λρ=>∃(a:Ur) (k l:Int),(∀d∈a,Nop jb d)/\a.length<=201/\0<=k/\0<=l/\ρ=QD ns k l sd cl (Zt<|.list jb) (Yt<|.list a) U U U U U) ?_ ?_
 .intro N hN;refine kJ (λ_=>?_)<|λ_=>hN _ ⟨a,k,l,vm,q0 mh<|by decide,I,hl,Z⟩;refine⟨sd,cl,0,by rw[v];rfl,xr,B,fg,xm,λts o rg htl=>?_⟩;rw[v]at rg;exact⟨WK mh htl<|by decide,hN _ ⟨_,k,l,lW vm rg,TY mh htl,I,hl,Z⟩⟩
 rintro _ ⟨a,k,l,vm,mh,I,hl,rfl⟩;with_reducible refine mZ (λρ=>∃(a:Ur) (k l:Int),(∀d∈a,Nop jb d)/\a.length<=300/\0<=k/\0<=l/\ρ=QD ns k l sd cl (Zt<|.list jb) (Yt<|.list a) U U U U U) ?_ ?_
 .intro N hN;refine⟨by decide,by decide,?_⟩;have hL:(SX 0 (4:Int).toNat).length=4:=by rw[SX,j0,e6];rfl
  generalize SX 0 (4:Int).toNat=L at hL ⊢;refine XZ (λrest ρ=>∃(a:Ur) (k l:Int),(∀d∈a,Nop jb d)/\a.length+12*rest.length<=249/\0<=k/\0<=l/\ρ=QD ns k l sd cl (Zt<|.list jb) (Yt<|.list a) U U U U U) ?_ ?_ ⟨a,k,l,vm,by lia,I,hl,Z⟩
  .rintro d ds ρ ⟨a,k,l,vm,mh,I,hl,rfl⟩ N' wc;rw[U1]at mh;refine⟨ns,k,l,_,Z,I,hl,jl,lp,λr M l1 o r0 Y re ud=>?_⟩;obtain⟨i,rfl⟩:=J5 r0;rw[zg]at Y;obtain⟨b,G,j⟩:=hat i<|L6.mp Y;have c1:WJ ((i:Nat):Int) jb.length=i:=sK Z;have c2:WJ (((i:Nat):Int)+1) jb.length=i+1:=sK Z;have Cb:=NW B fg (tZ B.p G)<|xm b G;have hnb:=hnr b G;have hmb:=@hmade;generalize hg:dH sd cl b=g at j hnb Cb;refine⟨_,QZ j,_,Z,g,Z,λys o gp hyl=>?_⟩;refine XZ (λrest ρ=>∃(qi:Ur) (zs:List V3),rest=zs.map prT/\(∀z∈zs,Nr g z)/\(∀d∈qi,Nop jb d)/\qi.length+2*zs.length<=a.length+12/\ρ=[Zt<|SK ns,Yt<|OJ ns M l1,Zt<|JW sd cl,Zt<|wG<|eJ sd cl,Zt<|wX sd,Zt<|.list jb,Yt<|.list qi,Zt d,Zt<|.int (i:Nat),U,U,U,U,U]) ?_ ?_ ⟨a,ys,Z,gp,vm,by lia,Z⟩
   .rintro d' ds' ρ ⟨qi,zs,ez,yp,nr,hwl',rfl⟩ N2 jr;cases zs with
    |nil=>cases ez
    |cons z zs =>
     cases ez;rw[U1]at hwl';have hz:=yp z u0;have ud:qi.length<=300:=by lia
     have hbz:=hnb z hz;refine gnC (ρ':=[Zt<|SK ns,Yt<|OJ ns M l1,Zt<|JW sd cl,Zt<|wG<|eJ sd cl,Zt<|wX sd,Zt<|.list jb,Yt<|.list qi,Zt d,Zt<|.int (i:Nat),Zt<|prT z,U,U,U,U]) Z ?_;refine⟨_,QZ j,_,Z,WK (xh _) (A0 1)<|by decide,WK (TY (xh _)<|A0 1) (vn _)<|by decide,PD ud<|by decide,?_⟩;refine⟨_,QZ j,_,Z,sd,cl,O (b,z),Z,B,jd,hB,λz' h=>(by cases h;exact hbz),λV o hV=>?_⟩;have n1:Nop jb (.list<|jb.take (WJ ((i:Nat):Int) jb.length)++[pz b z]++jb.drop (WJ (((i:Nat):Int)+1) jb.length)):=by rw[c1,c2];refine pF (m:=Um) hS R j (NW B fg (tZ B.p G) hbz).en λe=>hz.1 ?_;injection e with e;injection e with _ e;injection e with e _;have e:=oV e;injection e with e1 e;injection e with e2 e;injection e with e3 e;exact Prod.ext e1<|Prod.ext e2 e3
     have n2:=hmb G (by rw[hg];exact hz.1) hV;refine⟨PD (TY ud<|A0 1)<|by decide,?_⟩;refine jr _ ⟨(qi++[_])++[_],zs,Z,λy hy=>yp y<|i0 _ hy,lW (lW nr<|am n1 a0)<|am n2 a0,?_,Z⟩;rw[N0,N0];show qi.length+1+1+_<=_
     lia
   .rintro ρ ⟨qi,zs,ez,_,nr,hwl',rfl⟩;exact wc _ ⟨qi,M,l1,nr,by lia,re,ud,Z⟩
  .rintro ρ ⟨a,k,l,vm,mh,I,hl,rfl⟩;exact hN _ ⟨a,k,l,vm,q0 mh<|by decide,I,hl,Z⟩
 rintro _ ⟨a,k,l,vm,mh,I,hl,rfl⟩;with_reducible refine mZ (λρ=>ρ=QD ns k l sd cl (Zt<|.list jb) (Zt<|.list a) U U U U U) ?_ ?_
 .intro N hN;refine XZ (λrest ρ=>(∀d∈rest,Nop jb d)/\ρ=QD ns k l sd cl (Zt<|.list jb) (Zt<|.list a) U U U U U) ?_ ?_ ⟨vm,Z⟩
  .rintro d ds ρ ⟨hd,rfl⟩ N' wc;have bn:=hd d u0;refine⟨bn.sh,bn.ss,bn.dd,bn.ll,?_⟩;refine⟨sd,cl,d,Z,bn.ok,B,jd,λt o ht=>?_⟩;have et:t=false:=g6.mpr λz=>bn.ne (by rw[<-v];exact ht.mp z);rw[et];refine⟨bn.sh,bn.ss,bn.dd,bn.ll,kJ (λh=>?_)<|λh=>wc _ ⟨λd mr=>hd d<|i0 _ mr,Z⟩⟩;exfalso;have h:(!Uo ((wF d).shown=(wF d).shown))=true:=h;simp at h
  .rintro ρ ⟨_,rfl⟩;exact hN _ Z
 rintro _ rfl;with_reducible refine mZ (λρ=>∃(k l:Int) (x8:Yi Sl),0<=k/\0<=l/\ρ=QD ns k l sd cl (Zt<|.list jb) (Zt<|.list a) x8 U U U U) ?_ ?_
 .intro N hN;refine⟨ns,k,l,_,Z,I,hl,jl,hr3,λrs M l1 o ei hrn re ud=>?_⟩;rw[zg]at ei;refine XZ (λrest ρ=>∃(rs:Ql) (x8:Yi Sl),rest=rs.map n0/\(∀r∈rs,0<=r/\r<((VX sd).length:Int))/\(x8=U\/∃d,x8=Zt d)/\ρ=QD ns M l1 sd cl (Zt<|.list jb) (Zt<|.list a) x8 U U U U) ?_ ?_ ⟨rs,U,Z,ei,.inl Z,Z⟩
  .rintro d ds ρ ⟨rs,x8,er,ei,hx8,rfl⟩ N' wc;cases rs with
   |nil=>cases er
   |cons r rs =>
    cases er;obtain⟨r0,Y⟩:=ei r u0;obtain⟨i,rfl⟩:=J5 r0;obtain⟨b,G,j⟩:=hat i<|L6.mp Y;have ge:=wJ<|tZ B.p G;have h3:=B.l3;have c1:WJ ((i:Nat):Int) jb.length=i:=sK Z;have c2:WJ (((i:Nat):Int)+1) jb.length=i+1:=sK Z;with_reducible refine gnC (ρ':=QD ns M l1 sd cl (Zt<|.list jb) (Zt<|.list a) (Zt<|.int (i:Nat)) U U U U) ?_ ?_
    .rcases hx8 with rfl|⟨d,rfl⟩<;>rfl
    with_reducible refine mZ (λρ=>∃ss:Ur,(∀d∈ss,d≠.list jb/\BV d=Ul)/\ss.length<=128/\ρ=QD ns M l1 sd cl (Zt<|.list jb) (Zt<|.list a) (Zt<|.int (i:Nat)) U U (Yt<|.list ss) U) ?_ ?_
    .intro N2 jr;refine⟨_,QZ j,_,Z,VO _ (le_of_eq_of_le ge.1<|q0 h3<|by decide) (le_of_eq_of_le ge.2<|q0 h3<|by decide),by decide,λes o hes xn=>?_⟩;have xn:es.length<=128:=xn;refine⟨FX (q0 xn<|by decide),EK (λone=>.list<|jb.take (WJ ((i:Nat):Int) jb.length)++[one]++jb.drop (WJ (((i:Nat):Int)+1) jb.length)) ?_ ?_⟩
     .intro one ho N3 hN3;exact⟨WK (xh _) (A0 1)<|by decide,WK (TY (xh _)<|A0 1) (vn _)<|by decide,hN3⟩
     .refine jr _ ⟨_,λd hd=>?_,by rw[j0];exact xn,Z⟩;obtain⟨one,ho,rfl⟩:=J0.mp hd;obtain⟨h1,h2⟩:=hes one ho;rw[c1,c2];exact⟨λe=>pB j h1 (by injection e),oJ λd hd=>(W0.mp hd).elim (λz=>(W0.mp z).elim (λy=>(hStk (m:=Um) _ d y).o) λy=>by rw[Y0.mp y];exact h2) λz=>(hSdr (m:=Um) _ d z).o⟩
    rintro _ ⟨ss,ze,ie,rfl⟩;with_reducible refine a_ (ss++[.list<|jb.take (WJ ((i:Nat):Int) jb.length)++jb.drop (WJ (((i:Nat):Int)+1) jb.length),.list<|jb.take (WJ (((i:Nat):Int)+1) jb.length)++jb.drop (WJ ((i:Nat):Int) jb.length)]) (QD ns M l1 sd cl (Zt<|.list jb) (Zt<|.list a) (Zt<|.int (i:Nat)) U U (Yt<|.list ss) U) ?_ ?_
    .exact λQ h=>⟨WK (xh _) (vn _)<|by decide,WK (xh _) (vn _)<|by decide,WK ie (A0 2)<|by decide,h⟩
    with_reducible refine XZ (λrest ρ=>(∀d∈rest,d≠.list jb/\BV d=Ul)/\ρ=QD ns M l1 sd cl (Zt<|.list jb) (Zt<|.list a) (Zt<|.int (i:Nat)) U U (Yt<|.list ss) U) ?_ ?_ ⟨?_,Z⟩
    .rintro d ds ρ ⟨hd,rfl⟩ N2 jr;obtain⟨d1,d2⟩:=hd d u0;refine⟨sd,cl,d,Z,.inl d2,B,jd,λt o ht=>?_⟩;have et:t=false:=g6.mpr λz=>d1 (by rw[<-v];exact ht.mp z);rw[et];exact jr _ ⟨λd mr=>hd d<|i0 _ mr,Z⟩
    .rintro ρ ⟨_,rfl⟩;exact wc _ ⟨rs,Zt<|.int (i:Nat),Z,λr j=>ei r<|i0 _ j,.inr ⟨_,Z⟩,Z⟩
    .intro d hd;rcases W0.mp hd with z|z
     .exact ze d z
     .rw[c1,c2]at z;have two:∀m n:Nat,m+(jb.length-n)≠jb.length->m<=jb.length->m+(jb.length-n)<=1000->X3 (jb.take m++jb.drop n)≠.list jb/\BV (.list<|jb.take m++jb.drop n)=true:=λm n h1 h2 h3=>⟨(tz hS h2 h1 h3).ne,oJ λd hd=>(W0.mp hd).elim (λy=>(hStk (m:=Um) _ d y).o) λy=>(hSdr (m:=Um) _ d y).o⟩;exact am (p:=λd=>d≠.list jb/\BV d=Ul) (two i (i+1) (by lia) (by lia)<|by lia) (am (two (i+1) i (by lia) (by lia)<|by lia) a0) d z
  .rintro ρ ⟨rs,x8,_,_,_,rfl⟩;exact hN _ ⟨M,l1,x8,re,ud,Z⟩
 rintro _ ⟨k,l,x8,I,hl,rfl⟩;have hcm:(cl.map n0).length=cl.length:=j0 ..;have hc0:=aF B.p;have hc1:1<=cl.length:=by
  have h2:=SJ B.p
  lia
 have og:cl.length<=120:=by lia
 with_reducible refine mZ (λρ=>ρ=QD ns k l sd cl (Zt<|.list jb) (Zt<|.list a) x8 U U U (Yt<|.list<|cl.map n0)) ?_ ?_
 .intro N hN;exact⟨_,Z,hN _ Z⟩
 rintro _ rfl;with_reducible refine mZ (λρ=>∃(k l:Int) (r:Nat),r<cl.length/\ρ=QD ns k l sd cl (Zt<|.list jb) (Zt<|.list a) x8 U U U (Yt<|.list<|(cl.set r<|cl.getD r 0+1).map n0)) ?_ ?_
 .intro N hN;refine⟨ns,k,l,_,Z,I,hl,by rw[hcm];exact L6.2 hc1,by rw[hcm];exact L6.2 (R0 og<|by decide),λr M l1 o r0 Y re ud=>?_⟩;obtain⟨i,rfl⟩:=J5 r0;rw[hcm]at Y;refine⟨cl.getD i 0,r0,?_,?_⟩
  .show (cl.map n0)[i]?=_;rw[G1,M0<|L6.1 Y,B2,M0<|L6.1 Y];rfl
  .refine hN _ ⟨M,l1,i,L6.1 Y,?_⟩;rw[hX];rfl
 rintro _ ⟨k,l,r,j,rfl⟩;refine⟨sd,cl.set r<|cl.getD r 0+1,.list jb,Z,.inl hok,B,by rw[j5];exact jd,λt o ht=>?_⟩;have et:t=false:=g6.mpr λz=>qr B jd j rfl<|ht.mp z;rw[et];refine⟨sd,cl,.list jb,Z,.inl hok,B,jd,λt o ht=>?_⟩;rw[ht.mpr<|by rw[v]];exact q _
theorem b_(h:p []):∀us:Up,us.length=0->p us:=λus e=>by
 cases us with
 |nil=>exact h
 |cons x us=>cases e
theorem len1(h:∀a,p [a]):∀us:Up,us.length=1->p us:=λus e=>by
 cases us with
 |nil=>cases e
 |cons x us=>exact b_ (p:=λl=>p (x::l)) (h x) us<|m9 e
theorem len2(h:∀b a,p [b,a]):∀us:Up,us.length=2->p us:=λus e=>by
 cases us with
 |nil=>cases e
 |cons x us=>exact len1 (p:=λl=>p (x::l)) (λa=>h x a) us<|m9 e
theorem eT(h:∀c a b,p [c,a,b]):∀us:Up,us.length=3->p us:=λus e=>by
 cases us with
 |nil=>cases e
 |cons x us=>exact len2 (p:=λl=>p (x::l)) (λa b=>h x a b) us<|m9 e
theorem c_(h:∀d a b c,p [d,a,b,c]):∀us:Up,us.length=4->p us:=λus e=>by
 cases us with
 |nil=>cases e
 |cons x us=>exact eT (p:=λl=>p (x::l)) (λa b c=>h x a b c) us<|m9 e
structure Df(K:B0)(mg:Str->Yi Bb)(x:Str)(st:Be)(f:Eb)(d:Hd):Prop where
 F:Fun K x x st f d
 m:mg x=O (.ref f)
 k:Y5 K (.ref f)=Ul
section
variable {K:B0}{mg:Str->Yi Bb}
theorem df_mk(X:K.In h)(G:h.Ns Ub mg){x:Str}{st:Be}{f:Eb}{m:Bb}{q d:Yi Eb}{t:Zi (Yi Bb)}{kV e i b j:Bb}(a:i4 K Ub x=O (O<|.ref f))(l:K.lookup f=O ⟨m,q,.func<|J6 x x (xK st) (jJ st) (sX st) .none kV e i d b j,t⟩)(c:u9 K b x=Ul)(k:Y5 K (.ref f)=Ul):Df K mg x st f (J6 x x (xK st) (jJ st) (sX st) .none kV e i d b j):=⟨DM l c k,PySem.W.mg_of X G a,k⟩
theorem TZ(P:Cc)(w:Wb)(base:Dc){k:Nat}{x:Str}{a:Us}{c:Sp}{st:Be}{f:Eb}{d:Hd}(D:Df K mg x st f d)(h:FnOk P w K mg base GJ k f d a c)(b:∀(kV e i:Bb) (j:Yi Eb) (l q:Bb) (us:Up),us.length=a.length->bindArgs (J6 x x (xK st) (jJ st) (sX st) .none kV e i j l q) ⟨us,[]⟩=pure (a.zip us):=by first|exact λ_ _ _ _ _ _=>len1 λ_=>rfl|exact λ_ _ _ _ _ _=>len2 λ_ _=>rfl|exact λ_ _ _ _ _ _=>eT λ_ _ _=>rfl|exact λ_ _ _ _ _ _=>c_ λ_ _ _ _=>rfl):Cal P w K mg base k x a c:=⟨⟨f,d,h,D.m,D.k,D.F.binds b⟩⟩
end
theorem all_mk{l:wQ}{w:Wb}{K:B0}{mg:Str->Yi Bb}{fa f0 f1 f2 f3 f4 f5 f6 f7 f8 f9 f10 f11 f12 f13 f14 f15 f16 f17 f18 f19 f20 f21 f22 f23 f24 f25 f26 f27 f28 f29 f30 f31 f32 f33 f34:Eb}{d0 d1 d2 d3 d4 d5 d6 d7 d8 d9 d10 d11 d12 d13 d14 d15 d16 d17 d18 d19 d20 d21 d22 d23 d24 d25 d26 d27 d28 d29 d30 d31 d32 d33 d:Hd}(X:K.In h)(G:h.Ns Ub mg)(hfa:mg "law"=O (.ref fa))(D0:Df K mg "_law_pen" (top 26) f0 d0) (D1:Df K mg "_law_take" (top 27) f1 d1) (D2:Df K mg "_law_number" (top 28) f2 d2) (D3:Df K mg "_law_small" (top 29) f3 d3) (D4:Df K mg "_law_stretches" (top 30) f4 d4) (D5:Df K mg "_law_half_boxes" (top 31) f5 d5) (D6:Df K mg "_law_size" (top 32) f6 d6) (D7:Df K mg "_law_together" (top 33) f7 d7) (D8:Df K mg "_law_made" (top 34) f8 d8) (D9:Df K mg "_law_forms" (top 36) f9 d9) (i:Df K mg "_law_where" (top 38) f10 d10) (a:Df K mg "_law_by_one" (top 37) f11 d11) (j:Df K mg "_law_others" (top 35) f12 d12) (q:Df K mg "one_of_each" (top 3) f13 d13) (t:Df K mg "box_of" (top 14) f14 d14) (x:Df K mg "boxes_by" (top 15) f15 d15) (y:Df K mg "two_halves" (top 11) f16 d16) (B:Df K mg "stretches" (top 12) f17 d17) (C:Df K mg "half_boxes" (top 16) f18 d18) (I:Df K mg "is_whole" (top 1) f19 d19) (L:Df K mg "are_wholes" (top 2) f20 d20) (M:Df K mg "is_place" (top 7) f21 d21) (R:Df K mg "is_box" (top 8) f22 d22) (Y:Df K mg "is_entry" (top 19) f23 d23) (D24:Df K mg "long_ways" (top 22) f24 d24) (D25:Df K mg "thrice" (top 21) f25 d25) (D26:Df K mg "index_of" (top 4) f26 d26) (D27:Df K mg "cell_at" (top 9) f27 d27) (D28:Df K mg "replaced" (top 5) f28 d28) (D29:Df K mg "with_stretch" (top 24) f29 d29) (D30:Df K mg "put_together" (top 17) f30 d30) (D31:Df K mg "from_halves" (top 23) f31 d31) (D32:Df K mg "is_right" (top 20) f32 d32) (D33:Df K mg "holds_halves" (top 18) f33 d33) (c:Df K mg "law" (top 39) f34 d)(z0:i4 K Ub "len"=O U) (z1:i4 K Ub "abs"=O U) (z2:i4 K Ub "max"=O U) (z3:i4 K Ub "min"=O U) (z4:i4 K Ub "zip"=O U) (z5:i4 K Ub "int"=O U) (z6:i4 K Ub "bool"=O U) (z7:i4 K Ub "range"=O U) (z8:i4 K Ub "repr"=O U) (z9:i4 K Ub "sorted"=O U) (z10:i4 K Ub "isinstance"=O U) (z11:i4 K Ub "list"=O U) (z12:i4 K Ub "tuple"=O U) (z13:i4 K Ub "all"=O U) (z14:i4 K Ub "sum"=O U) (z15:i4 K Ub "dict"=O U) (z16:i4 K Ub "enumerate"=O U) (z17:i4 K Ub "str"=O U):∃fd:Hd,(∀(s:Gb) (v:Bb),Jh s fd ⟨[v],[]⟩ [("_law_script",v)])/\∀base:Dc,K.In base->base.Ns Ub mg->FnOk l.prog w K mg base GJ 13 fa fd ["_law_script"] (tX K cLaw):=by
 cases hfa.symm.trans c.m;have T:Txt mg:=⟨O2 X G z0,O2 X G z1,O2 X G z2,O2 X G z3,O2 X G z4,O2 X G z5,O2 X G z6,O2 X G z7,O2 X G z8,O2 X G z9,O2 X G z10,O2 X G z11,O2 X G z12,O2 X G z13,O2 X G z14,O2 X G z15,O2 X G z16,O2 X G z17⟩;obtain⟨oc,od,kV,sf,pm,an,fc,ct,tm,e,lk,bg⟩:=c.F.ex;refine⟨d,λs v=>by subst e;exact .of_eq Z,λb _ _=>?_⟩;have C0:=TZ l.prog w b D0<|rO D0.F;have C1:=TZ l.prog w b D1<|YE D1.F T;have C2:=TZ l.prog w b D2<|Kk D2.F T ⟨C1⟩;have C3:=TZ l.prog w b D3<|eB D3.F T ⟨C1,C2⟩;have C4:=TZ l.prog w b D4<|aI D4.F T;have C5:=TZ l.prog w b D5<|AS D5.F T ⟨C4⟩;have C6:=TZ l.prog w b D6<|pI D6.F T;have C7:=TZ l.prog w b D7<|QS D7.F T;have C8:=TZ l.prog w b D8<|sI D8.F T ⟨C5,C6,C7⟩;have C9:=TZ l.prog w b D9<|vB D9.F T;have C10:=TZ l.prog w b i<|nB i.F T ⟨C1⟩;have C11:=TZ l.prog w b a<|ZS a.F T ⟨a.m,a.k,a.F.binds λ_ _ _ _ _ _=>len1 λ_=>rfl⟩;have C12:=TZ l.prog w b j<|aT j.F T;have C13:=TZ l.prog w b q<|gI q.F;have C14:=TZ l.prog w b t<|xS t.F T;have C15:=TZ l.prog w b x<|yS x.F T ⟨C13,C14⟩;have C16:=TZ l.prog w b y<|uO y.F;have C17:=TZ l.prog w b B<|vO B.F T ⟨C16⟩;have C18:=TZ l.prog w b C<|zS C.F T ⟨C15,C17⟩;have C19:=TZ l.prog w b I<|Fu I.F T;have C20:=TZ l.prog w b L<|eI L.F T ⟨C19⟩;have C21:=TZ l.prog w b M<|dz M.F T ⟨C20⟩;have C22:=TZ l.prog w b R<|Iu R.F T ⟨C21⟩;have C23:=TZ l.prog w b Y<|JS Y.F T ⟨C22,C20⟩;have C24:=TZ l.prog w b D24<|ES D24.F T;have C25:=TZ l.prog w b D25<|BS D25.F;have C26:=TZ l.prog w b D26<|Ku D26.F T;have C27:=TZ l.prog w b D27<|FS D27.F ⟨C26⟩;have C28:=TZ l.prog w b D28<|CS D28.F;have C29:=TZ l.prog w b D29<|DS D29.F ⟨C28⟩;have C30:=TZ l.prog w b D30<|GS D30.F T;have C31:=TZ l.prog w b D31<|HS D31.F T ⟨C16,C29,C30⟩;have C32:=TZ l.prog w b D32<|IS D32.F T ⟨C24,C25,C27,C31⟩;have C33:=TZ l.prog w b D33<|KS D33.F T ⟨C18,C23,C32⟩;exact WO c.F T ⟨C0,C1,C3,C8,C9,C10,C11,C12,C33⟩
end
end R16
open PySem.W
structure PySem.W.Fast:Prop where(tw737560182318331929 tw9033876339169785748 tw9303143152600346533 tw11238248471854157894 tw13356148521791659242 tw7519382963609877326 tw4795023191185965913 tw9542354158265916352 tw1191581915531198256 tw16193391972789295117 tw12017724994518900324 tw9943070878503559589 tw18347572791859272075 tw8335271407793706582 tw7138807053777661486 tw2095974588419190353 tw4197621049205608654 tw7803723119758548444 tw7710158078596176777 tw15012226782477014686 tw6651959584788893022 tw10899175369186476043 tw17120145848128671415 tw10177863492018005679 tw5863273582075905538 tw3244669273553909 tw16615685351093374778 tw4260597902140056091 tw8446884072379391340 tw16913264246629791997 tw10399802258550826981 tw2679849571259396597 tw17858149348926149524 tw16323129223965889683 tw5680465088109621677 tw6029478962123739656 tw8461647304840277499 tw37623597926633292 tw6676112060277749717 tw3101970931998546500 tw13597688979364861832 tw12232855287116447755 tw8240577356505228866 tw6189354533791955205 tw18276754861432224541 tw2229650279061340068 tw4446717683642624794 tw6245185066083276458 tw13536197373181859069 tw8451233165065945260 tw6771467649782963745 tw13195003547416330759 tw1931733463909922849 tw13155377258859522738 tw15282177726505541284 tw1784585531307261797 tw11316813533721653587 tw12448042692889992924 tw1324945658425684960 tw11519642086677357157 tw14138548780742631308 tw17674568119777003999 tw10966412842609026217 tw7261269687268694908 tw1102679242792173430 tw12627353450026605242 tw8116903873168706812 tw3453390994333771575 tw9678711928422584012 tw14172074263595995695 tw1420783944163904938 tw285261664133934876 tw2091676484957564735 tw2367265608455250685 tw5538082201539551184 tw17060528564223984257 tw10554407435606439752 tw17343669926679955850 tw2131802105831898853 tw5720760976896839856 tw9965153077146016752 tw11386385022596544161 tw14234841612855467208 tw16427668151157373858 tw2546073777614478070 tw3973127976018200800 tw7622312816810553987 tw8491564080815049081 tw16619944461954989819 tw1737125023569774665 tw2694095470292965399 tw9531544767423951089 tw5012236658543199067 tw6489810842769894346 tw3077771968458243782 tw5536139342038360736 tw14444432701579513124 tw16728277673746558182 tw15261813698981018572 tw1777433879334087667 tw11553852001870679129 tw6946817738705159389 tw7863154744710031750 tw12887128416944875305 tw16639736587267377582 tw614803511257355205 tw546746671580704454 tw4918711413812070567 tw16043173358682286301 tw16922453786492501568 tw17372250111453740056 tw14515065411459600868 tw1269963922106925178 tw8907172196790905169 tw14539573649087837342 tw12761587065368898025 tw14190686064752171900 tw17405996975569908154 tw9497363706868920449 tw10323525932382222479 tw15764350441868530896 tw7271450331940808113 tw17468436890441011900 tw12671279996525172511 tw9578830780327074022 tw9684612323518637487:True)
set_option maxRecDepth 100000 in
set_option maxHeartbeats 0 in
theorem PySem.Challenge.cw_boxsums_k16_what_is_no_halves_holds : PySem.Challenge.rw_boxsums_k16_what_is_no_halves.Holds := by
 w_on;o_law;k_head;(case hw=>w_witness2)
 k_fill
 refine L3.walkT (ts:=[]) (l:=PySem.Challenge.rw_boxsums_k16_what_is_no_halves) (k:=13) (x:="_law_script") R16.cLaw_at ⟨rfl,by decide,by decide,rfl⟩ rfl rfl (λw h Y=>⟨PySem.W.kIn_of Y,λP hP=>nomatch hP⟩) (λw=>by kernel_rfl) ?F
 case F =>
  intro w mg fa h KX G hmg
  refine' R16.all_mk KX G hmg ?_ ?_ ?_ ?_ ?_ ?_ ?_ ?_ ?_ ?_ ?_ ?_ ?_ ?_ ?_ ?_ ?_ ?_ ?_ ?_ ?_ ?_ ?_ ?_ ?_ ?_ ?_ ?_ ?_ ?_ ?_ ?_ ?_ ?_ ?_ ?_ ?_ ?_ ?_ ?_ ?_ ?_ ?_ ?_ ?_ ?_ ?_ ?_ ?_ ?_ ?_ ?_ ?_
  any_goals refine' R16.df_mk KX G ?_ ?_ ?_ ?_
  any_goals (show _=_;k_is)
