import PyProof.Rows.All
import Wide.All
import OpenK.AllK
import PySem.Challenge.RW_boxsums_k23_whole_whatever_table
set_option Elab.async false
set_option linter.all false
set_option maxRecDepth 100000
set_option maxHeartbeats 4000000
set_option bootstrap.genMatcherCode false
open PySem renaming wpAny_bind->Ad,wpAny_pure->Bd,Value->Cd,wpAny->Ed,Shared->Fd,Addr->Hd,model->Md,PyData->Od,starEach->Xd,wpAny_callSpecial?_slot->Yd,mainGlobals->Zd,World->Be,wpAny_holding->Ce,Program->De,wpAny_newObj_type->Fe,Expr->Ge,rawInt->He,wpAny_field->Ie,cellsFrom->Je,Heap->Ke,compareOp->Le,wpAny_setField_rec->Oe,wpAny_seqItems->Pe,builtinLookup_eq_fast->Re,bootBuiltins->Se,codeAny_builtin->Te,call_isinstance->Ue,wpAny_rule->Ve,assignEach->We,wpAny_isInstance->Ye,cLine->Ze,pyNext->Bf,eval->Cf,wpAny_typeNameOfWhole_itemiter->Ff,wpAny_attempt->Gf,attributeBase->Hf,intItems->Jf,wpAny_setField->Kf,wpAny_truthy_bool->Lf,wpAny_setState_of->Mf,sysModules->Nf,wpAny_forIn_list->Of,binaryOp->Qf,backTo->Rf,wpAny_typeNameOf_itemiter->Sf,scanBound->Tf,wpAny_passesOwn->Uf,typeLookup_type->Vf,wpAny_typeOf->Xf,foldedSetIterable->Yf,plainId_quiet->Ag,wpAny_setEntries_of->Bg,wpAny_askSetting->Cg,Around->Eg,call_meets->Gg,codeAny_mono->Hg,NameKind->Jg,wpAny_specialOf->Kg,wpAny_loadPart'->Lg,wpAny_pyIter_list->Pg,fits_of_scanBound->Qg,FuncData->Tg,unsupported->Ug,wpAny_fieldsOf->Vg,firstArgMember->Wg,Stmt->Xg,holding->Zg,codeAny->Ah,IsItemIter->Bh,wpAny_pyIter_tuple->Dh,wpAny_Call_Name_kw->Eh,getattributeRaised->Fh,wpAny_Call_method0_late->Hh,isSubtype_stop->Ih,wpAny_pyIter_slot->Jh,wpAny_dictEntries->Kh,wpAny_isOneOf_itemiter->Lh,richCompare_meets_room->Mh,wpAny_notOrdered_dict->Nh,isSubtype_tuple_tuple->Oh,typeLookup->Ph,wpAny_pyIter_zip->Qh,IsZip->Rh,wpAny_updateSeq->Th,wpAny_execs_nil->Uh,letOwnedTupleGo->Vh,setNext->Xh,IsTupleKey->Ai,wpAny_newTuple->Bi,isSubtype_type->Ci,entryFor_alias->Di,wpAny_tupleItemsOf->Ei,getItem->Fi,Keyword->Gi,richCompare->Ii,assign->Li,nums_intItems->Mi,behindInMarks->Ni,wpAny_comprehension_free->Oi,numAt->Qi,tupleKind->Vi,swapsWith->Xi,noFill_tuple_add->Al,IsPart->Bl,wpAny_dictEpoch->Il,isinstance_false_dict->Kl,entryFor->Ll,wpAny_of_eq->Ml,subscripted->Nl,seqIndex_of->Ol,keywordEach->Pl,intItems_at->Ql,newFunctionEnv->Vl,callerA->Wl,BindsTo->Xl,pickOrder->Yl,Scope->Bm,wpAny_standAt->Cm,wpAny_newList->Dm,wpAny_handled->Em,swapsWithSole->Fm,swappedStores->Gm,seq_tuple_add->Im,typeOf->Km,pyIter->Lm,argsOk->Mm,Result->Nm,typeIs_int->Om,setEntries->Qm,reduceHash->Rm,intKind_is->Sm,builtinsNs->Um,field->Vm,dictSet->Xm,ElemsOf->Ym,setNextDrawn->An,seqIndex_neg->Bn,concat_meets->Cn,callType_new->Dn,seqItems?->En,isSubtype->Fn,eqIsQuiet->Gn,PassesOwn->Hn,DictEntry->Jn,wpAny_throw->Kn,wpAny_letGo->Ln,sizeLine_eq->Mn,relabel->On,bindL->Pn,bindC->Qn,newExc->Tn,isTrue->Vn,raiseNew->Wn,numAt_eq->Xn,newTuple->Yn,getAttr?->Zn,fieldsOf->Ao,backToKw->Co
open PyProof.Rows renaming wpS_bind->Nd,wpS_pure->Td,Keyed->Ud,SortSt->Vd,pendingOf->Wd,wpS_forRange->Me,IntsAre->Qe,elem'->Xe,wpS_mono->Af,seqObj->Ef,firstMet->Pf,SortKind->Wf,wpS_modify->Zf,failedOf->Rg,reverseSlice'->Yg,boot_all->Sh,wpS_get->Wh,envOfC->Yh,step_dedup->Zh,AllBare->Hi,mirror->Ji,wpS_lift->Si,boot_min->Ti,boot_max->Ui,boot_list->Zi,pairsOf->Dl,setPending->El,boot_tuple->Fl,subscriptTail_builtinR->Hl,get?_update_seq->Jl,boot_sorted->Ul,getElem?_mirror_all->Zl,entry_tuple_getitem->Am,subscriptTail->Hm,listUpdate_at->Jm,sortedHeap->Pm,IsTup->Wm,gallopOf->Zm,seqEpoch_at->Nn,setArr->Sn,boot_sum->Bo
open PySem.Spec renaming same->Ng,sameAll->Og,same_self->Yi
abbrev Gd:=@if_neg
abbrev Jd:=@if_pos
abbrev Ld:=@of_decide_eq_true
abbrev Pd:=@decide_eq_true
abbrev Ae:=@congrArg
abbrev Ee:=@decide_eq_false
abbrev Ig:=@of_decide_eq_false
abbrev Do:=@Option
abbrev Eo:=@Array
abbrev Fo:=@False
open PySem.Heap renaming get?_push_of_some->j0,get?_push_size->O0,lt_size->Q0,size_push->Z1,SameBut->S3,get?_update_self->O4,get?_update_other->P7,get?_push_ne->S8,get?_update_ne->A9,size_update->pQ,ExtBut->MX
open List renaming length_map->l0,mem_cons_of_mem->q0,mem_map->v0,map_map->A0,mem_cons_self->G0,getElem?_eq_getElem->L0,mem_cons->R0,size_toArray->S0,length_append->T0,getElem?_map->Z0,map_congr_left->A1,mem_append_right->B1,getD_eq_getElem?_getD->G1,getElem?_eq_some_iff->O1,range->S1,mem_singleton->T1,length_zip->U1,getElem?_set_ne->V1,mem_append->B2,append_nil->E2,map_cons->G2,length_cons->J2,zip_cons_cons->U2,append_assoc->V2,getElem?_append_right->W2,flatMap_cons->Y2,replicate->u3,mem_of_getElem?->A3,getElem?_cons_succ->B3,take_of_length_le->K3,pairwise_singleton->Q3,mem_append_left->Y3,all_eq_true->Z3,length_set->o4,map_append->u4,getElem?_append_left->A4,pairwise_iff_getElem->B4,drop_of_length_le->K4,map_eq_nil_iff->Q4,getElem?_eq_none_iff->S4,mem_range->V4,map->Y4,length_pos_iff->c5,mem_flatMap->i5,length_range->v5,drop_eq_getElem_cons->A5,extract_eq_take_drop->B5,length_take->G5,length_drop->J5,pairwise_map->N5,getElem?_cons_zero->P5,lookup_cons->Q5,getElem_mem->S5,replicate_succ->U5,getElem_of_mem->V5,length->W5,length_singleton->Y5,take_append_drop->Z5,nodup_cons->i6,pairwise_cons->j6,mem_iff_getElem->l6,pairwise_append->o6,of_mem_zip->v6,getElem?_zip_eq_some->E6,pairwise_reverse->G6,filter_cons->K6,all_map->L6,sum_cons->M6,length_eq_zero_iff->U6,length_nil->W6,countP_cons->g7,not_mem_nil->h7,flatten_cons->y7,ext_getElem->L7,perm_append_comm->b8,cons_append->m8,mem_map_of_mem->o8,mem_filter->v8,map_id->B8,take_sublist->N8,drop_sublist->O8,getElem_drop->P8,getElem_take->Q8,eraseIdxIfInBounds_toArray->W8,mem_iff_getElem?->X8,eq_nil_or_concat->Y8,pairwise_flatMap->Z8,length_filter_le->a9,getElem_zip->g9,mem_of_mem_take->o9,filterMap_cons->y9,map_nil->E9,set_cons_zero->P9,set_cons_succ->Q9,length_eraseIdx_of_lt->S9,exists_cons_of_ne_nil->T9,exists_mem_of_ne_nil->U9,lookup->V9,nodup_append->Y9,reverse_perm->aQ,map_take->bQ,getElem?_take_of_lt->dQ,any_eq_true->qQ,map_flatMap->rQ,flatMap_nil->sQ,getElem?_replicate->vQ,eraseIdx_cons_succ->wQ,map_set->EQ,getElem?_set_self->FQ,pairwise_lt_range->JQ,filter_eq_nil_iff->LQ,nil_append->MQ,forIn_cons->OQ,zip_append->PQ,filter_map->SQ,dropLast_eq_take->XQ,forIn_nil->fX,drop_drop->gX,flatMap_append->rX,all_cons->tX,mem_filterMap->xX,getElem?_drop->yX,forIn_toArray->AX,map_inj_right->BX,filter_append->DX,zip_map_right->EX,ne_nil_of_mem->FX,zip_map->IX,foldl->PX
open PySem.PyData renaming int->n0,tuple->K1,list->P2,bool->L4,canLay0->N9,canLayAll0->Z9,depth->CQ,depthAll->QQ
open Nat renaming lt_of_lt_of_le->u0,le_trans->K0,le_refl->P0,add_le_add_left->U0,le_of_eq->V0,ne_of_lt->X0,le_of_lt->Y0,le_of_not_lt->E1,lt_of_le_of_lt->L1,le_of_add_right_le->N1,le_sub_of_add_le->Q1,le_add_right->W1,lt_succ_self->S2,le_add_left->X2,sub_lt_right_of_lt_add->O3,add_sub_cancel'->P3,lt_of_succ_lt->T3,lt_of_le_of_ne->W3,add_sub_cancel_left->i4,le_antisymm->j4,zero_le->v4,ne_of_gt->G4,lt_succ_of_le->N4,lt_irrefl->P4,add_lt_add_left->Z4,add_assoc->o5,le_of_lt_succ->u5,min_eq_left->E5,lt_succ_of_lt->M5,le_min_of_le_of_le->T5,le_succ_of_le->X5,le_of_add_left_le->c6,le_succ->k6,sub_lt_left_of_lt_add->A6,sub_le_sub_right->O6,sub_succ_lt_self->Q6,le_of_succ_le->T6,sub_lt->V6,sub_le_iff_le_add'->Z6,lt_of_not_le->e7,lt_of_sub_ne_zero->l7,min_le_left->t7,min_eq_right->J7,min_le_right->K7,lt_of_add_right_lt->R7,one_le_iff_ne_zero->S7,lt_add_left->U7,strongRecOn->V7,sub_eq_zero_of_le->X7,add_lt_of_lt_sub'->Y7,sub_le->e8,succ_le_succ->l8,add_comm->E8,lt_trans->J8,sub_pos_of_lt->R8,not_lt_of_le->b9,le_max_right->c9,lt_of_le_sub_one->m9,not_lt_zero->u9,lt_or_ge->B9,mul_assoc->cQ,succ_add_eq_add_succ->fQ,sub_sub_self->lQ,sub_lt_of_lt->oQ,eq_of_le_of_lt_succ->xQ,le_mul_of_pos_right->yQ,sub_self->zQ,succ_mul->AQ,zero_add->BQ,le_add_right_of_le->IQ,lt_add_of_pos_left->KQ,le_of_sub_eq_zero->WQ,lt_of_sub_eq_succ->YQ,le_sub_of_add_le'->ZQ,two_mul->bX,add_sub_add_left->hX,sub_lt_sub_right->iX,add_le_add_right->kX,add_le_of_le_sub->lX,mul_le_mul_right->nX,sub_le_sub_left->pX,lt_two_pow_self->sX,mul_comm->GX,one_mul->NX
open PySem.W renaming Frag->M0,mg_none_of->K2,nsIn->J4,keepIn->i7,fnOf->u7,findIn->L8,codeIn->M9,methodObj->X9,cellsFrom_some->GQ,OpenLaw->NQ,specialIn->JX,instObj->OX
open Array renaming length_toList->W0,getElem?_toList->E3,toList_append->E4,getElem?_eq_getElem->T4,getElem_toList->W4,toList_extract->t6,perm_iff_toList_perm->k7,toList_push->c8,toList_reverse->g8,getD->x8,size_extract->y8,getElem?_eq_none->T8,toList_map->i9,forIn_toList->O9,size_setIfInBounds->eQ,toList->HX
open Bool renaming and_eq_true->J1,false_ne_true->P1,false_eq_true->J3,eq_false_iff->u6,and_eq_true_iff->P6,and_true->F7,eq_iff_iff->T7,not_true->W7,beq_eq_decide_eq->Z7,false_and->eX
open Int renaming le_of_lt->X1,le_trans->Y1,sub_nonneg_of_le->Q2,natCast_nonneg->G3,lt_of_le_of_lt->X3,ofNat_lt->U4,eq_ofNat_of_zero_le->j5,not_lt_of_ge->J6,mul_le_mul->N6,le_sub_one_of_lt->S6,sub_pos_of_lt->v7,toNat_natCast->A7,lt_add_one_of_le->B7,le_refl->N7,mul_comm->j8,natCast_mul->w8,ne_of_gt->F8,ofNat_le->G8,zero_add->K8,le_add_one->M8,mul_le_mul_of_nonneg_right->j9,le_of_lt_add_one->l9,mul_le_mul_of_nonneg_left->t9,natCast_pow->v9,add_le_add_left->x9,pow_succ->F9,not_lt->K9,not_le->L9,min_eq_right->mQ,lt_of_not_ge->nQ,le_max_right->tQ,le_of_eq->DQ,natCast_add->RQ,le_max_left->TQ,le_antisymm->UQ,ediv_lt_of_lt_mul->VQ,one_mul->dX,sub_one_lt_of_le->mX,toNat->oX,toNat_of_nonneg->qX,mul_assoc->vX,two_mul->LX
open Option.some renaming inj->O2
open PySem.Value renaming ref->T2,none->X4,type->O7,int->A8,isInt_shape->W9,isInt->cX,notImplemented->jX,builtin->uX,bool->wX
open PySem.Builtin.SmallTypes renaming nextOf->Z2,ownedTupleIsFree->M4,ownedTupleHandOut->r8
open PySem.Obj renaming mapSeq->U3,data_mapFields->j7,isFreed_of_fields->m7,mapFields->k9
open PySem.Heap.SameBut renaming update->K5
open Ne renaming symm->L5
open PyProof.Rows renaming callWith_type1->O5,slot_tuple_getitem->w6
open PySem.Builtin.List renaming listTooLong->e6,listLengthHint->G9,listExtendWith->J9,listSameRef->kQ
open PySem.Builtin.Tuple renaming tupleHashOf->B6,tupleExact->G7,tupleItemsOf->i8,tupleCompareSizes->V8
open Option renaming map_some->X6,getD_some->c7,map_eq_some_iff->Q7,isNone_none->zX
open PySem.Builtin.Int renaming intBits->Y6
open PySem.Builtin.Slice renaming slicePlaces->o7,sliceAdjust->n8,sliceApplied->R9
open Int.ofNat renaming inj->E7
open PySem.Builtin.Dict renaming updateFrom->M7,addKeywords->gQ,selfAndRest->iQ,pairItems->HQ,showsAll->aX
open Nat.succ renaming inj->k8
open PySem.Builtin.Dict_items renaming ownedTupleIsFree->t8,ownedTupleFields->u8,pairFromOwner->U8
open PySem.Builtin.Frozenset renaming sizeOf->jQ
open PySem.Builtin.Range renaming rangeSize->uQ
open Option renaming some->O,none->U
open Bool renaming true->Ep,false->Er
open Decidable renaming decide->Es
abbrev Z:=@rfl
theorem Cv{b:Int}(h:a<b):(a+b) / 2<b:=VQ (by decide)<|j8 b 2 ▸ LX b ▸ Int.add_lt_add_right h b
theorem zC{b:Int}(h:a<=b):a<=(a+b) / 2:=Int.le_ediv_of_mul_le (by decide)<|j8 a 2 ▸ LX a ▸ x9 h a
theorem ZP{b:Int}{c:Nat}(h0:(a-b).toNat=c)(d:b<a):(a-((b+a) / 2+1)).toNat<c:=h0 ▸ (Int.toNat_lt_toNat<|v7 d).2 (Int.sub_lt_sub_left (B7<|zC<|X1 d) a)
theorem aR{b:Int}{c:Nat}(h0:(a-b).toNat=c)(d:b<a):((b+a) / 2-b).toNat<c:=h0 ▸ (Int.toNat_lt_toNat<|v7 d).2 (Int.sub_lt_sub_right (Cv d) b)
theorem VA{b:Nat}{a:Int}(h:a=b):a.toNat=b:=h ▸ rfl
theorem Ec(h:a<b):(a+b) / 2<b:=Nat.div_lt_of_lt_mul<|bX b ▸ Nat.add_lt_add_right h b
theorem m_(h:a<=b):a<=(a+b) / 2:=(Nat.le_div_iff_mul_le<|by decide).2<|GX a 2 ▸ bX a ▸ U0 h a
theorem Fc:a / 2<=a-1:=by cases a;decide;exact u5 (Nat.div_lt_self (Nat.succ_pos _)<|by decide)
theorem Va(h0:a-b<=c-d):(a-(b+(a-b)/2+1))<=c-(d+1):=by rw[o5,<-Nat.sub_sub];exact K0 (pX (X2 1 _) _)<|O6 h0 1
theorem Wa(h0:a-b<=c-d):(b+(a-b)/2)-b<=c-(d+1):=by rw[i4];exact K0 Fc<|O6 h0 1
theorem Xa(h:b<=a):(b+a) / 2=b+(a-b) / 2:=by obtain⟨k,rfl⟩:=Nat.le.dest h;rw[<-o5,<-bX,Nat.mul_add_div<|by decide,i4]
theorem Gc{e:Nat}(h0:((a+b)+c)<=d):((min (a+b) d)-(a+e))=(b-e):=by rw[E5<|N1 h0,hX]
theorem Hc(h0:¬((a-b)=0)):((c+b)+((a-b)-1))=((c+a)-1):=by obtain⟨k,rfl⟩:=Nat.exists_eq_add_of_lt<|l7 h0;rw[o5 b,i4,<-o5 c];rfl
theorem arg(h0:(a-b)<=(c-d)):(a-(((b+a) / 2)+1))<=(c-(d+1)):=by
 rcases Nat.le_total b a with h|h
 .rw[Xa h];exact Va h0
 .rw[X7<|E8 a b ▸ X5 (m_ h)];exact v4 _
theorem Ic(h0:(a-b)<=(c-d)):(((b+a) / 2)-b)<=(c-(d+1)):=by
 rcases B9 b a with h|h
 .rw[Xa<|Y0 h];exact Wa h0
 .rw[X7<|Nat.div_le_of_le_mul<|bX b ▸ U0 h b];exact v4 _
theorem Jc(h:a<=b):a-1=b-1-(b-a):=by rw[Nat.sub_right_comm,lQ h]
theorem n_(h0:(a-b)=0)(c:b<=a):b=a:=j4 c<|WQ h0
theorem o_(h0:(a-b)=(c+1)):(a-(b+1))=c:=Ae Nat.pred h0
theorem Ya(h0:2<=a)(b:¬(a-1=1)):2<=a-1:=W3 (Q1 h0)<|L5 b
theorem Za(h:a<b):(a+b) / 2-a<b-a:=iX (m_<|Y0 h)<|Ec h
theorem cb(h:a<b):b-((a+b) / 2+1)<b-a:=Nat.sub_lt_sub_left h<|N4<|m_<|Y0 h
theorem fb(h0:(a-b)<=(c-(max 0 c)))(d:b<=a):b=a:=by rw[Nat.zero_max,zQ]at h0;exact j4 d<|WQ<|Nat.le_zero.1 h0
theorem Kc{f:Nat}(h0:a<b)(g:b=c-d):e+d+a<e+c+f:=u0 (o5 .. ▸ Z4 (Y7<|g ▸ h0) e)<|W1 ..
theorem Lc(h0:¬((a-b)=0)):c+b+(a-b)-1=c+a-1:=by rw[o5,P3<|Y0<|l7 h0]
theorem gb(h0:¬((a-b)=0)):c+a=c+b+(a-b):=by rw[o5,P3<|Y0<|l7 h0]
theorem Mc(h0:a+(b+1)<=c):c-(a+b)=c-(a+(b+1))+1:=by obtain⟨k,rfl⟩:=Nat.le.dest h0;rw[i4,<-o5,o5<|a+b,i4,E8]
theorem Nc{c:Nat}(h0:¬((a-b)<c))(d:¬(a<b)):a=b+c+(a-b-c):=by rw[o5,P3<|E1 h0,P3<|E1 d]
theorem Oc(h0:a<b+1-min c (b+1)):a<=b-c:=by
 rcases Nat.le_total c (b+1) with h|h
 .rw[E5 h]at h0;exact Q1<|u5<|Nat.add_lt_of_lt_sub h0
 .rw[J7 h,zQ]at h0;exact absurd h0<|u9 _
theorem Qc{c:Int}(h0:a<(b+c) / 2+1)(d:b<=a):min ((b+c) / 2) a=min c a:=by have h:=l9 h0;have e:a<=c:=K9.1 λz=>Int.lt_irrefl a<|X3 h<|VQ (by decide)<|j8 a 2 ▸ LX a ▸ Int.add_lt_add_of_le_of_lt d z;rw[mQ h,mQ e]
theorem p_(h0:1<=a)(d:a<=b):c+b-1<c+b:=V6 (K0 h0<|K0 d<|X2 ..) Nat.one_pos
theorem Rc(h0:a+b+c<=d+e+1)(g:0<c-1-f):a+b+f<=d+e+1:=K0 (U0 (K0 (Y0<|Nat.lt_of_sub_pos g)<|e8 ..) _) h0
theorem jb(h0:a<b+c+d)(g:e=c-f+d)(i:¬(c-f=0)):a-(b+f)<e :=
 have hf:=Y0<|l7 i;have hl:a<b+f+e:=by rw[g,<-o5,o5 b,P3 hf];exact h0
 (B9 a<|b+f).elim (λh=>X7 (Y0 h) ▸ g ▸ Nat.add_pos_left (Nat.pos_of_ne_zero i) _) (λh=>A6 h hl)
theorem q_(h0:a+b+c<=d)(f:¬(b-e=0)):a+e+(b-e)-1<d:=by have h:=l7 f;rw[<-gb f];exact u0 (V6 (L1 (v4 _)<|Z4 h a) Nat.one_pos)<|N1 h0
abbrev Qo:=List Int
open PySem PySem.Spec PyProof.Rows
abbrev Et:=List Cd
abbrev Oo:=List Str
abbrev Op:=List (Hd×Obj)
abbrev Os:=List Nat
abbrev Ot:=List (Int×Int)
abbrev Rs:=List Ge
abbrev Rt:=List Od
variable {be us:Et}{u:Cd}{h h':Ke}{α β:Type}{o od ot:Obj}{kk n slot t':Nat}{ch fp:List Hd}{I T f i1 i2 it l1 l2 z:Hd}{N wl:Oo}{A:Eg}{E Q:Cd->Fd->Prop}{s s':Fd}{ae:Op}{fg me tg:Ge}{cl hi lo:Qo}{p:Et->Prop}{fd:Tg}{sc scope:Bm}{name qual:Str}{prog:De}{env:Env}{XP:(Str->Do Cd)->Ke->Prop}{YP:Be->Ke->Prop}{fr:Os}{jg ts:Rs}{fl led:Bool}{xs1 xs2:Eo Cd}
namespace L2
noncomputable abbrev dY:=Sum Int Str
noncomputable def qG:dY->Cd->Bool
 | .inl k,v=>cX k v
 | .inr x,v=>Value.isStrOf x v
noncomputable def r_(w:Be):dY->Int
 | .inl k=>hashInt k
 | .inr x=>hashStr w x
theorem aJ:∀{k:dY}{v:Cd},qG k v=Ep->(∃i t,k=Sum.inl i/\v=A8 i t)\/(∃x t,k=Sum.inr x/\v=Value.str x t)
 | .inl i,v,h=>by obtain⟨t,e⟩:=W9 (k:=i) (v:=v) h;exact .inl ⟨i,t,Z,e⟩
 | .inr x,v,h=>by obtain⟨t,e⟩:=Value.isStrOf_shape (x:=x) (v:=v) h;exact .inr ⟨x,t,Z,e⟩
theorem Rk(i:Int)(t:Tok):qG (.inl i) (.int i t)=true:=by simp[qG,cX]
theorem Sk(x:Str)(t:Tok):qG (.inr x) (.str x t)=true:=by simp[qG,Value.isStrOf]
theorem JM(a b:Int):Es ((Sum.inl a:dY)=Sum.inl b)=(a==b):=by
 by_cases e:a=b
 .subst e;simp
 .have h:¬(Sum.inl a:dY)=Sum.inl b:=λq=>e<|Sum.inl.inj q;rw[Ee h];exact(beq_eq_false_iff_ne.mpr e).symm
theorem KM(a b:Str):Es ((Sum.inr a:dY)=Sum.inr b)=Es (a=b):=by
 by_cases e:a=b
 .subst e;simp
 .have h:¬(Sum.inr a:dY)=Sum.inr b:=λq=>e<|Sum.inr.inj q;rw[Ee h,Ee e]
theorem LM(a:Int)(b:Str):Es ((Sum.inl a:dY)=Sum.inr b)=false:=Ee<|λq=>nomatch q
theorem MM(a:Str)(b:Int):Es ((Sum.inr a:dY)=Sum.inl b)=false:=Ee<|λq=>nomatch q
noncomputable def gK(prog:De)(w:Be):PySem.KeyKind prog w dY where
 is:=qG
 hash:=r_ w
 inj:=λv a b g d=>by
  rcases aJ g with⟨i,t,rfl,rfl⟩|⟨x,t,rfl,rfl⟩
  .rcases aJ d with⟨j,u,rfl,e⟩|⟨y,u,rfl,e⟩
   .injection e with e1 _;rw[e1]
   .exact nomatch e
  .rcases aJ d with⟨j,u,rfl,e⟩|⟨y,u,rfl,e⟩
   .exact nomatch e
   .injection e with e1 _;rw[e1]
 byValue:=λk v h=>by rcases aJ h with⟨i,t,rfl,rfl⟩|⟨x,t,rfl,rfl⟩<;>rfl
 pyHash:=λc h=>by
  rcases aJ c with⟨i,t,rfl,rfl⟩|⟨x,t,rfl,rfl⟩
  .exact wpAny_pyHash_int h
  .exact wpAny_pyHash_str h
 eqBool:=λl c h=>by
  rcases aJ l with⟨i,t,rfl,rfl⟩|⟨x,t,rfl,rfl⟩
  .rcases aJ c with⟨j,u,rfl,rfl⟩|⟨y,u,rfl,rfl⟩
   .rw[JM]at h;exact wpAny_eqBool_int h
   .rw[LM]at h;exact SeqAt.EqAt.int_str i t y u _ _ _ _ h
  .rcases aJ c with⟨j,u,rfl,rfl⟩|⟨y,u,rfl,rfl⟩
   .rw[MM]at h;exact SeqAt.EqAt.str_int x t j u _ _ _ _ h
   .rw[KM]at h;exact wpAny_eqBool_str h
 «strs»:=λk x t v h=>by
  rcases aJ h with⟨i,u,rfl,e⟩|⟨y,u,rfl,e⟩
  .exact nomatch e
  .injection e with e1 _
   subst e1
   cases v<;>rfl
theorem jD(prog:De)(w:Be)(i:Int)(t:Tok):(gK prog w).is (.inl i) (.int i t)=true:=Rk i t
theorem kD(prog:De)(w:Be)(x:Str)(t:Tok):(gK prog w).is (.inr x) (.str x t)=true:=Sk x t
inductive V where
 |non|bl (b:Bool)|int (i:Int)|str (x:Str)|byt (b:Eo UInt8)|flt (b:UInt64)|ref (a:Hd)|ty (n:String)
 deriving DecidableEq
noncomputable def RelV:V->Cd->Prop
 | .non,u=>u=X4
 | .bl b,u=>u=wX b
 | .int i,u=>∃t,u=A8 i t
 | .str x,u=>∃t,u=Value.str x t
 | .byt b,u=>∃t,u=Value.bytes b t
 | .flt b,u=>∃t,u=Value.float b t
 | .ref a,u=>u=T2 a
 | .ty n,u=>u=O7 n
abbrev Vals:List V->Et->Prop:=Paired RelV
theorem Vals.length(r:Vals xs us):xs.length=us.length:=Paired.length r
theorem Vals.get:∀{a:List V}{us:Et}{i:Nat}{x:V},Vals a us->a[i]?=O x->∃u,us[i]?=O u/\RelV x u
 |_,_,_,_,.nil,e=>by simp at e
 |_,_,0,_,.cons r _,e=>by simp at e;subst e;exact⟨_,Z,r⟩
 |_,_,i+1,x,.cons _ t,e=>by obtain⟨u,b,c⟩:=Vals.get (i:=i) (x:=x) t (by simpa using e);exact⟨u,by simpa using b,c⟩
theorem Vals.set{x:V}(r:RelV x u):∀{a:List V}{us:Et} (i:Nat),Vals a us->Vals (a.set i x) (us.set i u)
 |_,_,_,.nil=>.nil
 |_,_,0,.cons _ t=>.cons r t
 |_,_,i+1,.cons q t=>.cons q<|Vals.set r i t
theorem Vals.append:∀{a b:List V}{us c:Et},Vals a us->Vals b c->Vals (a++b) (us++c)
 |_,_,_,_,.nil,s=>s
 |_,_,_,_,.cons r t,s=>.cons r<|Vals.append t s
theorem Vals.take:∀{a:List V}{us:Et} (n:Nat),Vals a us->Vals (a.take n) (us.take n)
 |_,_,0,_=>.nil
 |_,_,_+1,.nil=>.nil
 |_,_,n+1,.cons r t=>.cons r<|Vals.take n t
theorem Vals.drop:∀{a:List V}{us:Et} (n:Nat),Vals a us->Vals (a.drop n) (us.drop n)
 |_,_,0,r=>r
 |_,_,_+1,.nil=>.nil
 |_,_,n+1,.cons _ t=>Vals.drop n t
theorem Vals.none_of:∀{a:List V}{us:Et}{i:Nat},Vals a us->a[i]?=U->us[i]?=none:=λ{a us i} r e=>by have b:=r.length;have c:a.length<=i:=S4.mp e;exact S4.mpr (by lia)
noncomputable def lR:Do V->Do Cd->Prop
 |some v,O u=>RelV v u
 |none,U=>True
 |_,_=>Fo
def KV{a:Type}:List (a×V)->List (a×Cd)->Prop:=Paired λ(p:a×V) (q:a×Cd)=>p.1=q.1/\RelV p.2 q.2
noncomputable def kV:dY->V
 | .inl i=>.int i
 | .inr x=>.str x
inductive HO where
 |lst (xs:List V)
 |tup (xs:List V)
 |dK (se:List (dY×V))|dT (se:List (List dY×V))
 |set (S:Int->Bool) (n:Nat)
 |ins (C dx:Hd) (fs:List (Str×V))
 |own (x:Hd)
 |xd (fs:List (Str×V))
 |met (f x:Hd)
 |rng (lo hi:Int)
 |frz (o:Obj) (u:HO)
 |tbl (ps:Eo Cd)
 |ext (φ:Ke->Prop)
noncomputable abbrev Hp:=Hd->Do HO
noncomputable def gJ(H:Hp)(a:Hd)(o:HO):Hp:=λb=>if b=a then O o else H b
theorem uZ{o:HO}:gJ H a o a=O o:=by unfold gJ;rw[Jd Z]
theorem bZ{o:HO}(h:b≠a):gJ H a o b=H b:=by unfold gJ;rw[Gd h]
theorem eZ{H:Hp}{o:HO}(h:H a=O o)(h':H b=U):a≠b:=by intro e;subst e;rw[h]at h';cases h'
def IsTupD(h:Ke)(a:Hd)(items:Eo Cd):Prop:=∃o,h.get? a=O o/\o.cls=.type "tuple"/\∃n,o.data=.seq items n/\o.dict=U
theorem IsTupD.t:IsTupD h a items->Wm h a items:=λ⟨o,e,c,n,d,_⟩=>⟨o,e,c,n,d⟩
theorem IsTupD.new(h:Ke)(items:Eo Cd):IsTupD (h.push {cls:=.type "tuple",data:=.seq items}) h.objs.size items:=⟨_,O0 _ Z,Z,_,Z,Z⟩
section
variable (P:De)(w:Be)
noncomputable def ObjOk(H:Hp)(h:Ke)(a:Hd):HO->Prop
 | .lst b=>b.length<=sizeLine/\∃(be:Et) (n:Nat),Vals b be/\h.get? a=O {cls:=.type "list",data:=.seq be.toArray n}
 | .tup b=>b.length<=sizeLine/\∃be:Et,Vals b be/\IsTupD h a be.toArray
 | .dK d=>d.length<=sizeLine/\(a==Nf)=Er/\∃i,KV d i/\h.DictOf (gK P w) a i
 | .dT d=>d.length<=sizeLine/\(a==Nf)=Er/\∃b:List (List dY×Hd×Cd),
   Paired (λ(p:List dY×V) (q:List dY×Hd×Cd)=>p.1=q.1/\H q.2.1=O (.tup<|p.1.map kV)/\RelV p.2 q.2.2) d b /\
   ∃o j m,h.get? a=O o/\o.ExactDict/\o.data=.dict j m/\j.toList=b.map (entryOfKey<|Vi<|gK P w)/\(b.map (·.1)).Nodup
 | .set S n=>h.SetOf (intKind P w) a S n
 | .ins C e fs=>H e=O (.own a)/\fs.length<=1000/\e≠a/\h.get? a=O (OX C e) /\
   ∃c,h.Ns1 e c/\(∀f,lR (fs.lookup f)<|c f)/\PySem.Within c (fs.map (·.1))
 | .own _=>∃o,h.get? a=O o
 | .xd fs=>∃c,h.Ns1 a c/\∀f,lR (fs.lookup f) (c f)
 | .rng lo hi=>∃t u v,h.get? a=O {cls:=.type "range",data:=.fields #[.int lo t,.int hi u,.int 1 v]}
 | .frz o u=>h.get? a=O o/\ObjOk H h a u
 | .tbl r=>h.get? a=O {cls:=.none,data:=.fields r}
 | .met f x=>h.get? a=O (X9 (.ref f)<|.ref x)
 | .ext g=>g h/\(∃o,h.get? a=O o)/\∀k l:Ke,g k->(∀o,k.get? a=O o->l.get? a=O o)->g l
def HOk(H:Hp)(h:Ke):Prop:=∀a o,H a=O o->ObjOk P w H h a o
end
section
variable {P:De}{w:Be}{H H':Hp}{a:Hd}{o:HO}
theorem ObjOk.lt(x:ObjOk P w H h a o):a<h.objs.size:=by
 cases o with
 |lst b=>obtain⟨_,_,_,_,e⟩:=x;exact Q0 e
 |tup b=>obtain⟨_,_,_,p⟩:=x;exact p.t.lt
 |dK c=>obtain⟨_,_,_,_,o,_,_,e,_⟩:=x;exact Q0 e
 |dT c=>obtain⟨_,_,_,_,o,_,_,e,_⟩:=x;exact Q0 e
 |set S n=>obtain⟨o,_,_,_,e,_⟩:=x;exact Q0 e
 |ins C d fs=>obtain⟨_,_,_,e,_⟩:=x;exact Q0 e
 |own y=>obtain⟨_,e⟩:=x;exact Q0 e
 |xd fs=>obtain⟨_,⟨_,_,_,e,_⟩,_⟩:=x;exact Q0 e
 |rng lo hi=>obtain⟨_,_,_,e⟩:=x;exact Q0 e
 |frz g u=>obtain⟨e,_⟩:=x;exact Q0 e
 |tbl i=>exact Q0<|show h.get? a=O _ from x
 |met f y=>exact Q0<|show h.get? a=O _ from x
 |ext j=>obtain⟨_,⟨_,e⟩,_⟩:=x;exact Q0 e
theorem Paired.mapP{F G:α->β->Prop}:∀{c:List α}{d:List β},Paired F c d->(∀a b,F a b->G a b)->Paired G c d
 |_,_,.nil,_=>.nil
 |_,_,.cons r t,f=>.cons (f _ _ r)<|Paired.mapP t f
theorem ObjOk.stay(x:ObjOk P w H h a o)(k:∀b u,(b=a\/H b=O (.own a))->h.get? b=O u->h'.get? b=O u)(F:∀b,H b=O (.own a)->H' b=O (.own a)) (G:∀b l,H b=O (.tup l)->H' b=O (.tup l)):ObjOk P w H' h' a o:=by
 induction o with
 |lst l=>obtain⟨z,be,n,r,e⟩:=x;exact⟨z,be,n,r,k _ _ (.inl Z) e⟩
 |tup l=>obtain⟨z,be,r,g,e,c⟩:=x;exact⟨z,be,r,g,k _ _ (.inl Z) e,c⟩
 |dK L=>obtain⟨z,y,M,r,g,i,j,e,c⟩:=x;exact⟨z,y,M,r,g,i,j,k _ _ (.inl Z) e,c⟩
 |dT L=>obtain⟨z,y,l,r,g,i,j,e,c⟩:=x;exact⟨z,y,l,Paired.mapP r λp q z=>⟨z.1,G _ _ z.2.1,z.2.2⟩,g,i,j,k _ _ (.inl Z) e,c⟩
 |set S n=>obtain⟨g,i,j,t,e,c⟩:=x;exact⟨g,i,j,t,k _ _ (.inl Z) e,c⟩
 |ins C Y fs=>obtain⟨d,z,ne,e,m,⟨od,i,j,R,c⟩,r⟩:=x;exact⟨F _ d,z,ne,k _ _ (.inl Z) e,m,⟨od,i,j,k _ _ (.inr d) R,c⟩,r⟩
 |own y=>obtain⟨g,e⟩:=x;exact⟨g,k _ _ (.inl Z) e⟩
 |xd fs=>obtain⟨m,⟨od,i,j,e,c⟩,r⟩:=x;exact⟨m,⟨od,i,j,k _ _ (.inl Z) e,c⟩,r⟩
 |rng lo hi=>obtain⟨t,u,v,e⟩:=x;exact⟨t,u,v,k _ _ (.inl Z) e⟩
 |frz g u X=>obtain⟨e,q⟩:=x;exact⟨k _ _ (.inl Z) e,X q⟩
 |tbl B=>have e:h.get? a=O {cls:=.none,data:=.fields B}:=x;show h'.get? a=O {cls:=.none,data:=.fields B};exact k a _ (.inl Z) e
 |met f y=>have e:h.get? a=O (X9 (.ref f)<|.ref y):=x;show h'.get? a=O (X9 (.ref f)<|.ref y);exact k a _ (.inl Z) e
 |ext φ=>obtain⟨p,⟨o,e⟩,st⟩:=x;exact⟨st _ _ p λo q=>k _ _ (.inl Z) q,⟨o,k _ _ (.inl Z) e⟩,st⟩
theorem HOk.lt(x:HOk P w H h)(e:H a=O o):a<h.objs.size:=(x a o e).lt
theorem HOk.fresh(x:HOk P w H h)(e:h.objs.size<=a):H a=none:=by
 cases q:H a with
 |none=>rfl
 |some u=>exact absurd (u0 (x.lt q) e)<|P4 _
theorem HOk.kept(x:HOk P w H h)(k:∀b u,h.get? b=O u->h'.get? b=O u):HOk P w H h':=λa o e=>(x a o e).stay (λb u _ q=>k b u q) (λ_ q=>q) λ_ _ q=>q
theorem HOk.laid(x:HOk P w H h)(k:∀b u,h.get? b=O u->h'.get? b=O u)(i:h.objs.size<=a)(new:ObjOk P w (gJ H a o) h' a o):HOk P w (gJ H a o) h':=λb u e=>by
 have d:=x.fresh i;by_cases g:b=a
 .subst g;rw[uZ]at e;cases e;exact new
 .rw[bZ g]at e;exact(x b u e).stay (λc v _ q=>k c v q) (λc q=>by rw[bZ<|eZ q d];exact q) λc j q=>by rw[bZ<|eZ q d];exact q
end
def Rd(H:Hp)(a:Hd)(u:HO):Prop:=H a=O u\/∃o,H a=O (.frz o u)
theorem Rd.ok{u:HO}(r:Rd H a u)(x:HOk P w H h):ObjOk P w H h a u:=by
 rcases r with r|⟨o,r⟩
 .exact x a u r
 .obtain⟨_,q⟩:=x a _ r;exact q
noncomputable def XA:Do HO->Prop
 |some (.lst _)=>True
 |some (.dK _)=>True
 |some (.dT _)=>True
 |some (.set _ _)=>True
 |some (.ins _ _ _)=>True
 |some (.ext _)=>True
 |_=>Fo
section
variable {P:De}{w:Be}{H:Hp}{x e:Hd}{o':HO}
theorem HOk.write(ok:HOk P w H h)(i:XA (H x))(B:e=x\/H e=O (.own x))(k:∀b u,b≠e->h.get? b=O u->h'.get? b=O u)(t:∃u,h'.get? e=O u)(new:ObjOk P w (gJ H x o') h' x o'):HOk P w (gJ H x o') h':=λb u q=>by
 have d:∀c y,H c=O (.own y)->c≠x:=λc y r z=>by subst z;rw[r]at i;exact i
 have g:∀c j,H c=O (.tup j)->c≠x:=λc j r z=>by subst z;rw[r]at i;exact i
 by_cases l:b=x
 .subst l;rw[uZ]at q;cases q;exact new
 .rw[bZ l]at q;by_cases a:b=e
  .have C:H b=O (.own x):=by
    rcases B with z|z
    .exact absurd (a.trans z) l
    .rw[a];exact z
   rw[q]at C;cases C;obtain⟨v,F⟩:=t;exact⟨v,by rw[a];exact F⟩
  .refine(ok b u q).stay (λc v m r=>k c v ?_ r) (λc r=>by rw[bZ<|d c b r];exact r) λc j r=>by rw[bZ<|g c j r];exact r
   rcases m with rfl|m
   .exact a
   .rintro rfl;rcases B with z|z
    .exact d c b m z
    .rw[m]at z;cases z;exact l Z
end
structure Un(fs ex:List Hd)(H H':Hp)(h h':Ke):Prop where
 keep:∀b o,h.get? b=O o->H b=U->b∉fs->b∉ex->h'.get? b=O o
 slot:∀b o,h.get? b=O o->H b=U->b∈fs->b∉ex->∃sl,h'.get? b=O {o with slots:=sl}
 free:∀b o,h.get? b=O o->H b=U->b∉ex->H' b=U
 there:∀b o,h.get? b=O o->b∉ex->∃o',h'.get? b=O o'
 tups:∀b xs,H b=O (.tup xs)->H' b=O (.tup xs)
 frzs:∀b o u,H b=O (.frz o u)->H' b=O (.frz o u)
 tbls:∀b ps,H b=O (.tbl ps)->∃ao,H' b=O (.tbl<|ps++ao)
section
variable {fs fs' ex ex':List Hd}{H H1 H2:Hp}{h1 h2:Ke}{a x e:Hd}{o:HO}
theorem Un.any(u:Un fs ex H H1 h h1){b:Hd}{c:Obj}(q:h.get? b=O c)(n:H b=U)(hx:b∉ex):∃g,h1.get? b=O {c with slots:=g}:=by
 by_cases d:b∈fs
 .exact u.slot b c q n d hx
 .exact⟨c.slots,u.keep b c q n d hx⟩
theorem Un.kept(k:∀b u,h.get? b=O u->h'.get? b=O u):Un fs ex H H h h':=⟨λb c q _ _ _=>k b c q,λb c q _ _ _=>⟨c.slots,k b c q⟩,λ_ _ _ n _=>n,λb c q _=>⟨c,k b c q⟩,λ_ _ q=>q,λ_ _ _ q=>q,λ_ d q=>⟨#[],by rw[q];simp⟩⟩
theorem Un.refl:Un fs ex H H h h:=Un.kept λ_ _ q=>q
theorem Un.laid(k:∀b u,h.get? b=O u->h'.get? b=O u)(d:h.objs.size<=a)(c:H a=U):Un fs ex H (gJ H a o) h h' where
 keep:=λb u q _ _ _=>k b u q
 slot:=λb u q _ _ _=>⟨u.slots,k b u q⟩
 free:=λb u q n _=>by rw[bZ<|X0<|u0 (Q0 q) d];exact n
 there:=λb u q _=>⟨u,k b u q⟩
 tups:=λb g q=>by rw[bZ<|eZ q c];exact q
 frzs:=λb u g q=>by rw[bZ<|eZ q c];exact q
 tbls:=λb i q=>⟨#[],by rw[bZ<|eZ q c,q];simp⟩
theorem Un.write(d:XA (H x))(l:e=x\/H e=O (.own x))(k:∀b u,b≠e->h.get? b=O u->h'.get? b=O u)(g:∃u,h'.get? e=O u):Un fs ex H (gJ H x o) h h':=by
 have hx:∀b,H b=U->b≠x:=λb n z=>by subst z;rw[n]at d;exact d
 have j:∀b,H b=U->b≠e:=λb n z=>by
  subst z;rcases l with r|r
  .exact hx b n r
  .rw[n]at r;cases r
 have i:∀b u,H b=O u->¬XA (O u)->b≠x:=λb u q nm z=>by subst z;rw[q]at d;exact nm d
 refine⟨λb u q n _ _=>k b u (j b n) q,λb u q n _ _=>⟨u.slots,k b u (j b n) q⟩,λb u q n _=>by rw[bZ<|hx b n];exact n,λb u q _=>?_,
   λb m q=>by rw[bZ<|i b _ q λz=>z];exact q,λb u m q=>by rw[bZ<|i b _ q λz=>z];exact q,λb t q=>⟨#[],by rw[bZ<|i b _ q λz=>z,q];simp⟩⟩;by_cases c:b=e
 .subst c;exact g
 .exact⟨u,k b u c q⟩
end
noncomputable def YA(h:Ke)(H:Hp):List Hd:=(S1 h.objs.size).filter λa=>(H a).isSome
noncomputable def jF(h:Ke)(H:Hp):Ke:=PySem.W.hideAll h<|YA h H
theorem Tk(h:Ke)(H:Hp):(jF h H).objs.size=h.objs.size:=PySem.W.hideAll_size _ _
theorem Dv(e:h.get? b=O o)(n:H b=U):(jF h H).get? b=O o :=
 PySem.W.hideAll_get _ e λa=>by have q:(H b).isSome=true:=(v8.mp a).2;rw[n]at q;simp at q
theorem FC(e:(jF h H).get? b=O o):h.get? b=O o/\H b=none:=by
 have a:h.get? b=O o:=PySem.W.of_hideAll (YA h H) e;refine⟨a,?_⟩;cases q:H b with
 |none=>rfl
 |some x=>have c:b∈YA h H:=v8.mpr ⟨V4.mpr<|Q0 a,by simp[q]⟩;have z:(jF h H).get? b=none:=PySem.W.hideAll_none (YA h H) c;rw[z]at e;cases e
noncomputable def GC(g h:Ke)(L:Hd):Op:=(S1 h.objs.size).filterMap λa=>if a=L\/(g.get? a).isSome=Ep then U else (h.get? a).map λo=>(a,o)
noncomputable def rest(g h:Ke)(L d:Hd):Op:=(GC g h L).filter λp=>decide<|p.1≠d
structure Mod(K:M0)(mg:Str->Do Cd)(base:Ke):Prop where
 kin:K.In base
 glob:base.Ns Zd mg
 blt:∃mb,base.Ns Um mb/\∀x:Str,x ≠ "__name__"->mb x=Se x
 nolimit:base.NoLimit
structure Cx where
 prog:De
 w:Be
 K:M0
 mg:Str->Do Cd
 base:Ke
 A:Eg
 N:Oo
 s₀:Fd
 H₀:Hp
 env:Env
 outer:List Env
 stack:List Env
 ex:List Hd
 fn:Str->Bool
 calm:Bool
 pn:Op
 xe:Cd->Fd->Prop
noncomputable def Lj(l:List Env):List Hd:=l.filterMap (·.frame)
noncomputable abbrev Cx.fs(X:Cx):List Hd:=Lj X.outer
def GL(sc:Bm)(x:Str):Prop:=sc.names.lookup x=O .local\/sc.names.lookup x=O .cell\/sc.names.lookup x=O .free
def HC(sc:Bm)(x:Str):Prop:=sc.names.lookup x=O .local\/sc.names.lookup x=O .cell
def s_(env:Env)(h:Ke)(m:Str->Do Cd)(x:Str)(u:Cd):Prop:=(env.kindOf x=O .local/\m x=O u)\/((env.kindOf x=O .cell\/env.kindOf x=O .free)/\∃c,env.cells.lookup x=O c/\h.IsCell c (O u))
structure Cx.Ok(X:Cx):Prop where
 mod:Mod X.K X.mg X.base
 kind:X.env.scope.kind=.function
 glob:X.env.globals=Zd
 blt:X.env.builtins=Um
 above:X.s₀.heap.objs.size<=X.env.locals
 inj:∀x y c,X.env.cells.lookup x=O c->X.env.cells.lookup y=O c->x=y
 has:∀x,(X.env.kindOf x=O .cell\/X.env.kindOf x=O .free)->∃c,X.env.cells.lookup x=O c
 cab:∀x c,X.fn x=Ep->X.env.cells.lookup x=O c->X.s₀.heap.objs.size<=c
 hd:X.calm=Ep->X.A.handled=U
 frames:X.A.frames=O X.stack
 stk:X.stack=X.outer\/(X.stack=X.env::X.outer/\X.env.frame=O X.env.locals)
 exf:∀b∈X.ex,b≠X.env.locals/\∀x c,X.env.cells.lookup x=O c->c≠b
 bs:∀b o,X.base.get? b=O o->X.s₀.heap.get? b=O o/\X.H₀ b=U
 bsz:X.base.objs.size<=X.s₀.heap.objs.size
 noex:∀b o,X.base.get? b=O o->b∉X.ex
 exfs:∀b∈X.ex,b∉X.fs
 funs:X.s₀.heap.FunFrames X.base X.outer
 frf:∀b∈X.fs,X.H₀ b=U
structure Inv(X:Cx)(ae:Op)(σ:List (Do V))(H:Hp)(s:Fd):Prop where
 ok:X.Ok
 os:s.os=X.s₀.os
 bare:Hi s.gens
 base:Un X.fs X.ex X.H₀ H X.s₀.heap s.heap
 loc:∃m,s.heap.Ns X.env.locals m/\∀(i:Nat) (x:Str) (v:V),X.N[i]?=O x->σ[i]?=O (O v)->GL X.env.scope x->∃u,RelV v u/\s_ X.env s.heap m x u
 cell:∀x c,X.env.cells.lookup x=O c->∃v,s.heap.IsCell c v
 free:H X.env.locals=U
 freeC:∀x c,X.env.cells.lookup x=O c->H c=U
 pin:∀p∈X.pn++ae,s.heap.get? p.1=O p.2/\H p.1=U/\p.1≠X.env.locals/\p.1∉X.fs/\∀v,p.2.data≠.cell v
 hok:HOk X.prog X.w H s.heap
 len:σ.length=X.N.length
section
variable {X:Cx}{σ:List (Do V)}{H H':Hp}
theorem Cx.Ok.nofr(ok:X.Ok){b:Hd}{o:Obj}(e:X.base.get? b=O o):b∉X.fs:=λa=>by have:=(ok.funs.mem a).1;rw[e]at this;cases this
theorem Inv.bs(I:Inv X ae σ H s):∀b o,X.base.get? b=O o->s.heap.get? b=O o/\H b=none:=λb o e=>⟨I.base.keep b o (I.ok.bs b o e).1 (I.ok.bs b o e).2 (I.ok.nofr e)<|I.ok.noex b o e,I.base.free b o (I.ok.bs b o e).1 (I.ok.bs b o e).2<|I.ok.noex b o e⟩
theorem Inv.bk(I:Inv X ae σ H s):∀b o,X.base.get? b=O o->s.heap.get? b=O o:=λb o e=>(I.bs b o e).1
theorem Inv.mod(I:Inv X ae σ H s):Mod X.K X.mg X.base:=I.ok.mod
theorem Inv.kIn(I:Inv X ae σ H s):X.K.In s.heap:=I.ok.mod.kin.keeps I.bk
theorem Inv.lt(I:Inv X ae σ H s):X.env.locals<s.heap.objs.size:=let ⟨_,hn,_⟩:=I.loc;hn.lt
theorem Inv.sz(I:Inv X ae σ H s):X.s₀.heap.objs.size<=s.heap.objs.size:=K0 I.ok.above<|Y0 I.lt
theorem Inv.nofs(I:Inv X ae σ H s){a:Hd}(h:s.heap.objs.size<=a):a∉X.fs:=λb=>by obtain⟨_,o,c,_⟩:=I.ok.funs.mem b;exact absurd (u0 (Q0 c)<|K0 I.sz h)<|P4 _
theorem Inv.cne(I:Inv X ae σ H s):∀x c,X.env.cells.lookup x=O c->c≠X.env.locals:=λx c e z=>by obtain⟨v,o,b,hd⟩:=I.cell x c e;obtain⟨m,⟨g,i,j,d,a,_⟩,_⟩:=I.loc;rw[z,d]at b;cases b;rw[a]at hd;cases hd
theorem Inv.funs(I:Inv X ae σ H s):s.heap.FunFrames X.base X.outer:=by
 have all:∀(l:List Env),(∀b∈Lj l,b∈X.fs)->X.s₀.heap.FunFrames X.base l->s.heap.FunFrames X.base l:=by
  intro l;induction l with
  |nil=>intro _ _;trivial
  |cons env r d=>intro c hl;obtain⟨g,⟨L,o,hf,i,j,hd⟩,k⟩:=hl;have hL:L∈X.fs:=c L (by unfold Lj;rw[y9,hf];exact G0);obtain⟨m,e⟩:=I.base.slot L o j (I.ok.frf L hL) hL λz=>I.ok.exfs L z hL;exact⟨g,⟨L,_,hf,i,e,hd⟩,d (λb a=>c b<|by unfold Lj;rw[y9,hf];exact q0 _ a) k⟩
 exact all X.outer (λ_ a=>a) I.ok.funs
theorem Inv.stack(I:Inv X ae σ H s):s.heap.FunFrames X.base X.stack:=by
 rcases I.ok.stk with e|⟨e,hf⟩
 .rw[e];exact I.funs
 .rw[e];obtain⟨m,a,_⟩:=I.loc;refine .cons (by rw[I.ok.kind];decide) hf a ?_ I.funs;exact Heap.get?_none_of_le<|K0 I.ok.bsz I.ok.above
theorem Inv.stkSub(I:Inv X ae σ H s):∀b∈Lj X.stack,b∈X.env.locals::X.fs:=λb a=>by
 rcases I.ok.stk with e|⟨e,hf⟩
 .rw[e]at a;exact q0 _ a
 .rw[e]at a;unfold Lj at a;rw[y9,hf]at a;exact a
theorem Inv.stkFree(I:Inv X ae σ H s):∀b∈Lj X.stack,H b=none:=λb a=>by
 rcases R0.mp (I.stkSub b a) with e|a
 .rw[e];exact I.free
 .obtain⟨_,o,c,_⟩:=I.ok.funs.mem a;exact I.base.free b o c (I.ok.frf b a) λz=>I.ok.exfs b z a
theorem Inv.step(I:Inv X ae σ H s)(G:∀b∈ch,(b∈X.ex\/X.s₀.heap.objs.size<=b)/\b≠X.env.locals/\(∀x c,X.env.cells.lookup x=O c->c≠b)/\∀p∈X.pn++ae,p.1≠b)(keep:∀b o,b≠X.env.locals->b∉X.fs->b∉ch->s.heap.get? b=O o->H b=U->h'.get? b=O o)(slot:∀b o,b≠X.env.locals->b∈X.fs->b∉ch->s.heap.get? b=O o->H b=U->∃sl,h'.get? b=O {o with slots:=sl}) (a:∀b o,b∉ch->s.heap.get? b=O o->H b=U->H' b=U)(B:∀b o,b∉ch->s.heap.get? b=O o->∃L,h'.get? b=O L)(M:∀b y,H b=O (.tup y)->H' b=O (.tup y)) (P:∀b o u,H b=O (.frz o u)->H' b=O (.frz o u)) (R:∀b ps,H b=O (.tbl ps)->∃ao,H' b=O (.tbl<|ps++ao))(ns:∀m,s.heap.Ns X.env.locals m->h'.Ns X.env.locals m) (hok:HOk X.prog X.w H' h') (hg:Hi g'):Inv X ae σ H' {s with heap:=h',gens:=g',drawn:=d',toks:=t'}:=by
 have S:∀b o,X.s₀.heap.get? b=O o->b≠X.env.locals:=λb o e=>X0<|u0 (Q0 e) I.ok.above;have j:∀b o,X.s₀.heap.get? b=O o->b∉X.ex->b∉ch:=λb o e hx C=>by
  rcases (G b C).1 with z|z
  .exact hx z
  .exact absurd (u0 (Q0 e) z) (P4 _)
 have cr:∀x c,X.env.cells.lookup x=O c->∀v,s.heap.IsCell c v->h'.IsCell c v:=λx c e v ⟨o,F,hd⟩=>by
  have g:c∉ch:=λz=>(G c z).2.2.1 x c e Z;by_cases hc:c∈X.fs
  .obtain⟨sl,q⟩:=slot c o (I.cne x c e) hc g F<|I.freeC x c e;exact⟨_,q,hd⟩
  .exact⟨o,keep c o (I.cne x c e) hc g F<|I.freeC x c e,hd⟩
 refine⟨I.ok,I.os,hg,⟨λb o e n C hx=>?_,λb o e n C hx=>?_,λb o e n hx=>?_,λb o e hx=>?_,λb y e=>M b y<|I.base.tups b y e,λb o y e=>P b o y<|I.base.frzs b o y e,λb ps e=>?_⟩,?_,λx c e=>?_,?_,λx c e=>?_,λp hp=>?_,hok,I.len⟩
 .exact keep b o (S b o e) C (j b o e hx) (I.base.keep b o e n C hx) (I.base.free b o e n hx)
 .obtain⟨sl,t⟩:=I.base.slot b o e n C hx;obtain⟨sl',Y⟩:=slot b _ (S b o e) C (j b o e hx) t<|I.base.free b o e n hx;exact⟨sl',Y⟩
 .obtain⟨L,t⟩:=I.base.there b o e hx;exact a b L (j b o e hx) t<|I.base.free b o e n hx
 .obtain⟨L,t⟩:=I.base.there b o e hx;exact B b L (j b o e hx) t
 .obtain⟨m1,t⟩:=I.base.tbls b ps e;obtain⟨m2,Y⟩:=R b _ t;exact⟨m1++m2,by rw[Y,Array.append_assoc]⟩
 .obtain⟨m,hn,hl⟩:=I.loc;refine⟨m,ns m hn,λi x v t Y e3=>?_⟩;obtain⟨u,r,l⟩:=hl i x v t Y e3;refine⟨u,r,?_⟩;rcases l with l|⟨k,c,e,z⟩
  .exact .inl l
  .exact .inr ⟨k,c,e,cr x c e _ z⟩
 .obtain⟨v,z⟩:=I.cell x c e;exact⟨v,cr x c e v z⟩
 .obtain⟨m,⟨o,_,_,F,_⟩,_⟩:=I.loc;exact a _ o (λz=>(G _ z).2.1 Z) F I.free
 .obtain⟨v,o,F,hd⟩:=I.cell x c e;exact a c o (λz=>(G c z).2.2.1 x c e Z) F<|I.freeC x c e
 .obtain⟨e,n,ne,nf,d⟩:=I.pin p hp;have g:p.1∉ch:=λz=>(G p.1 z).2.2.2 p hp Z;exact⟨keep p.1 p.2 ne nf g e n,a p.1 p.2 g e n,ne,nf,d⟩
theorem Inv.un(I:Inv X ae σ H s)(u:Un X.fs [] H H' s.heap h')(a:HOk X.prog X.w H' h'):Inv X ae σ H' {s with heap:=h',toks:=t'}:=by
 obtain⟨m,⟨o,q,t,d,r⟩,_⟩:=id I.loc;obtain⟨v,hL⟩:=u.any d I.free (by simp);exact I.step (g':=s.gens) (d':=s.drawn) (ch:=[]) (λ_ z=>nomatch z) (λb o _ c _ e n=>u.keep b o e n c<|by simp) (λb o _ c _ e n=>u.slot b o e n c<|by simp) (λb o _ e n=>u.free b o e n<|by simp) (λb o _ e=>u.there b o e<|by simp) u.tups u.frzs u.tbls (λx i=>by obtain⟨y,j,k,g,l⟩:=i;rw[d]at g;cases g;exact⟨_,j,k,hL,l⟩) a I.bare
theorem Inv.call(I:Inv X ae σ H s)(u:Un (Lj X.stack) ch H H' s.heap h')(d:HOk X.prog X.w H' h')(k:Hi g')(g:∀b∈ch,(b∈X.ex\/X.s₀.heap.objs.size<=b)/\b≠X.env.locals/\(∀x c,X.env.cells.lookup x=O c->c≠b)/\∀p∈X.pn++ae,p.1≠b):Inv X ae σ H' {s with heap:=h',gens:=g',drawn:=d',toks:=t'}:=by
 obtain⟨m,⟨o,B,C,i,r⟩,_⟩:=id I.loc;obtain⟨F,hL⟩:=u.any i I.free λz=>(g _ z).2.1 Z;exact I.step (ch:=ch) g (λb o hL l a e n=>u.keep b o e n (λz=>(R0.mp<|I.stkSub b z).elim hL l) a) (λb o _ _ a e n=>u.any e n a) (λb o a e n=>u.free b o e n a) (λb o a e=>u.there b o e a) u.tups u.frzs u.tbls (λG q=>by obtain⟨L,t,v,j,y⟩:=q;rw[i]at j;cases j;exact⟨_,t,v,hL,y⟩) d k
theorem Inv.turned(I:Inv X ae σ H s)(k:∀b o,b≠it->s.heap.get? b=O o->h'.get? b=O o)(g:H it=U)(hL:it≠X.env.locals)(i:it∈X.ex\/X.s₀.heap.objs.size<=it) (j:∀x c,X.env.cells.lookup x=O c->c≠it) (l:∀p∈X.pn++ae,p.1≠it):Inv X ae σ H {s with heap:=h',toks:=t'}:=by
 have d:∀b u,H b=O u->b≠it:=λb u e z=>by rw[z,g]at e;cases e
 refine I.step (g':=s.gens) (d':=s.drawn) (ch:=[it]) (λb t=>?_) (λb o _ _ a e _=>k b o (λz=>a<|by simp[z]) e) (λb o _ _ a e _=>⟨o.slots,k b o (λz=>a<|by simp[z]) e⟩) (λ_ _ _ _ n=>n)
  (λb o a e=>⟨o,k b o (λz=>a<|by simp[z]) e⟩) (λ_ _ e=>e) (λ_ _ _ e=>e) (λb F e=>⟨#[],by rw[e];simp⟩) (λm w=>?_) (λb u e=>?_) I.bare
 .have e:b=it:=by simpa using t
  subst e;exact⟨i,hL,j,l⟩
 .obtain⟨o,y,B,C,r⟩:=w;exact⟨o,y,B,k _ o (L5 hL) C,r⟩
 .refine(I.hok b u e).stay (λc v a q=>k c v ?_ q) (λ_ q=>q) λ_ _ q=>q;rcases a with z|z
  .rw[z];exact d b u e
  .exact d c _ z
theorem Inv.tok(I:Inv X ae σ H s)(t:Nat):Inv X ae σ H {s with toks:=t}:=I.un (h':=s.heap) (t':=t) Un.refl I.hok
theorem Inv.kept(I:Inv X ae σ H s)(k:∀b u,s.heap.get? b=O u->h'.get? b=O u):Inv X ae σ H {s with heap:=h',toks:=t'}:=I.un (Un.kept k)<|I.hok.kept k
theorem Inv.laid{a:Hd}{o:HO}(I:Inv X ae σ H s)(k:∀b u,s.heap.get? b=O u->h'.get? b=O u)(c:s.heap.objs.size<=a)(new:ObjOk X.prog X.w (gJ H a o) h' a o):Inv X ae σ (gJ H a o) {s with heap:=h',toks:=t'}:=I.un (Un.laid k c<|I.hok.fresh c)<|I.hok.laid k c new
theorem Inv.write{o:HO}(I:Inv X ae σ H s)(c:XA (H x))(d:e=x\/H e=O (.own x))(k:∀b u,b≠e->s.heap.get? b=O u->h'.get? b=O u)(a:∃u,h'.get? e=O u)(new:ObjOk X.prog X.w (gJ H x o) h' x o):Inv X ae σ (gJ H x o) {s with heap:=h',toks:=t'}:=I.un (Un.write c d k a)<|I.hok.write c d k a new
theorem Inv.pins_of(I:Inv X ae σ H s)(h:∀p∈pins',s.heap.get? p.1=O p.2/\H p.1=U/\p.1≠X.env.locals/\p.1∉X.fs/\∀v,p.2.data≠.cell v):Inv X pins' σ H s:=⟨I.ok,I.os,I.bare,I.base,I.loc,I.cell,I.free,I.freeC,λp a=>(B2.mp a).elim (λz=>I.pin p<|Y3 _ z)<|h p,I.hok,I.len⟩
theorem lD(hN:N.Nodup){i j:Nat}{x:Str}(a:N[i]?=O x)(b:N[j]?=O x):i=j:=by obtain⟨e,c⟩:=O1.mp a;obtain⟨g,d⟩:=O1.mp b;exact(List.getElem_inj hN).mp<|c.trans d.symm
theorem rG{M:Model}{i:Nat}{x:Str}{v:V}{Q:Unit->Fd->Prop}(I:Inv X ae σ H s)(hN:X.N.Nodup)(hi:X.N[i]?=O x)(hx:HC X.env.scope x)(r:RelV v u)
  (h:∀s',Inv X ae (σ.set i<|O v) H s'->(∃a,S3 a s.heap s'.heap/\(a=X.env.locals\/X.env.cells.lookup x=O a))->Q () s') (hf:X.fn x=Ep\/X.env.scope.names.lookup x=O .local:=by first|exact .inl rfl|exact .inr rfl|assumption):Ed M A (storeName X.env x u) Q E s:=by
 obtain⟨m,hn,hl⟩:=id I.loc;have P:(X.env.scope.kind==.class||(X.env.scope.kind==.module&&X.env.locals != X.env.globals))=false:=by rw[I.ok.kind];rfl
 have hiσ:i<σ.length:=by rw[I.len];exact(O1.mp hi).1
 have cne:=I.cne;have kl:∀{a:Hd}{h':Ke},(∃o,s.heap.get? a=O o/\H a=U)->S3 a s.heap h'->HOk X.prog X.w H h':=λ{a h'} ha g b ob e=>by
  obtain⟨_,_,vh⟩:=ha;refine(I.hok b ob e).stay (λc w' t q=>(g.2 c ?_).trans q) (λ_ q=>q) λ_ _ q=>q;rintro rfl;rcases t with rfl|t
  .rw[vh]at e;cases e
  .rw[vh]at t;cases t
 rcases hx with C|C
 .refine wpAny_storeName_local C hn (λh' hn' g=>?_) P;obtain⟨oL,_,_,hoL,_⟩:=id hn;refine h _ ⟨I.ok,I.os,I.bare,⟨λb o e n F hx=>?_,λb o e n F hx=>?_,I.base.free,λb o e hx=>?_,I.base.tups,I.base.frzs,I.base.tbls⟩,⟨_,hn',λj y v' l B e3=>?_⟩,λy c e=>?_,I.free,I.freeC,λp hp=>?_,kl ⟨oL,hoL,I.free⟩ g,by simpa using I.len⟩ ⟨_,g,.inl Z⟩
  .exact(g.2 b<|X0<|u0 (Q0 e) I.ok.above).trans (I.base.keep b o e n F hx)
  .obtain⟨sl,l⟩:=I.base.slot b o e n F hx;exact⟨sl,(g.2 b<|X0<|u0 (Q0 e) I.ok.above).trans l⟩
  .obtain⟨o',l⟩:=I.base.there b o e hx;exact⟨o',(g.2 b<|X0<|u0 (Q0 e) I.ok.above).trans l⟩
  .by_cases G:j=i
   .subst G;rw[hi]at l;cases l;rw[FQ hiσ]at B;cases B;exact⟨u,r,.inl ⟨C,by simp⟩⟩
   .rw[V1<|L5 G]at B;obtain⟨u',r',q⟩:=hl j y v' l B e3;refine⟨u',r',?_⟩;rcases q with⟨k,e⟩|⟨k,c,e,z⟩
    .refine .inl ⟨k,?_⟩;have:y≠x:=λe=>G<|lD hN l<|e ▸ hi;simp[this,e]
    .exact .inr ⟨k,c,e,z.sameBut g<|cne y c e⟩
  .obtain⟨w',z⟩:=I.cell y c e;exact⟨w',z.sameBut g<|cne y c e⟩
  .obtain⟨e,n,ne,nf,d⟩:=I.pin p hp;exact⟨(g.2 p.1 ne).trans e,n,ne,nf,d⟩
 .have L:X.fn x=true:=by
   rcases hf with z|z
   .exact z
   .rw[z]at C;cases C
  obtain⟨c,t⟩:=I.ok.has x<|.inl C;obtain⟨w',z⟩:=I.cell x c t;refine wpAny_storeName_cell I.ok.kind C t z<|λh' ue g=>?_;obtain⟨oc,R,S⟩:=id z;refine h {s with heap:=h'} ⟨I.ok,I.os,I.bare,⟨λb o e n F hx=>?_,λb o e n F hx=>?_,I.base.free,λb o e hx=>?_,I.base.tups,I.base.frzs,I.base.tbls⟩,⟨m,hn.sameBut g<|L5<|cne x c t,λj y v' l B e3=>?_⟩,λy c' e=>?_,I.free,I.freeC,λp hp=>?_,kl ⟨oc,R,I.freeC x c t⟩ g,by simpa using I.len⟩ ⟨c,g,.inr t⟩
  .exact(g.2 b<|X0<|u0 (Q0 e)<|I.ok.cab x c L t).trans (I.base.keep b o e n F hx)
  .obtain⟨sl,l⟩:=I.base.slot b o e n F hx;exact⟨sl,(g.2 b<|X0<|u0 (Q0 e)<|I.ok.cab x c L t).trans l⟩
  .obtain⟨o',l⟩:=I.base.there b o e hx;exact⟨o',(g.2 b<|X0<|u0 (Q0 e)<|I.ok.cab x c L t).trans l⟩
  .by_cases G:j=i
   .subst G;rw[hi]at l;cases l;rw[FQ hiσ]at B;cases B;exact⟨u,r,.inr ⟨.inl C,c,t,ue⟩⟩
   .rw[V1<|L5 G]at B;obtain⟨u',r',q⟩:=hl j y v' l B e3;refine⟨u',r',?_⟩;rcases q with q|⟨k,c',e,z'⟩
    .exact .inl q
    .refine .inr ⟨k,c',e,z'.sameBut g ?_⟩;rintro rfl;exact G<|lD hN l<|I.ok.inj _ _ _ e t ▸ hi
  .by_cases Y:c'=c
   .subst Y;exact⟨_,ue⟩
   .obtain⟨w2,z2⟩:=I.cell y c' e;exact⟨w2,z2.sameBut g Y⟩
  .obtain⟨e,n,ne,nf,d⟩:=I.pin p hp;refine⟨(g.2 p.1 ?_).trans e,n,ne,nf,d⟩;intro q;rw[q,R]at e;have q':oc=p.2:=O2 e;exact d w' (by rw[<-q'];exact S)
theorem mD{M:Model}{i:Nat}{x:Str}{v:V}{Q:Unit->Fd->Prop}(I:Inv X ae σ H s)(hN:X.N.Nodup)(hi:X.N[i]?=O x)(hx:HC X.env.scope x)(r:RelV v u)
  (h:∀s',Inv X ae (σ.set i<|O v) H s'->Q () s') (hf:X.fn x=Ep\/X.env.scope.names.lookup x=O .local:=by first|exact .inl rfl|exact .inr rfl|assumption):Ed M A (storeName X.env x u) Q E s :=
 rG I hN hi hx r (λs' a _=>h s' a) hf
theorem Inv.call'(I:Inv X ae σ H s)(d:s'.os=s.os)(u:Un (Lj X.stack) ch H H' s.heap s'.heap)(a:HOk X.prog X.w H' s'.heap)(g:Hi s'.gens)(i:∀b∈ch,(b∈X.ex\/X.s₀.heap.objs.size<=b)/\b≠X.env.locals/\(∀x c,X.env.cells.lookup x=O c->c≠b)/\∀p∈X.pn++ae,p.1≠b):Inv X ae σ H' s':=by
 obtain⟨h',g',d',t',j⟩:=s';have e:j=s.os:=d;subst e;exact I.call (g':=g') (t':=t') (d':=d') u a g i
end
noncomputable abbrev XK:=Cd->Do Hd->Hp->Prop
noncomputable abbrev St:=List<|Do V
noncomputable abbrev VK:=V->Hp->Prop
noncomputable abbrev TE:=St->Hp->VK->Prop
noncomputable abbrev TT:=St->Hp->(Bool->Hp->Prop)->Prop
noncomputable abbrev TA:=St->Hp->(List V->Hp->Prop)->Prop
structure Ends where
 nx:St->Hp->Prop
 rt:VK
 bk:St->Hp->Prop:=λ_ _=>Fo
 ct:St->Hp->Prop:=λ_ _=>Fo
noncomputable abbrev TS:=Ends->St->Hp->Prop
def EP(X:Cx)(ae:Op)(b:St)(Q:VK)(u:Cd)(s':Fd):Prop:=∃v a,Inv X ae b a s'/\RelV v u/\Q v a
def TP(X:Cx)(ae:Op)(c:St)(Q:Bool->Hp->Prop)(b:Bool)(s':Fd):Prop:=∃a,Inv X ae c a s'/\Q b a
def AP(X:Cx)(ae:Op)(c:St)(Q:List V->Hp->Prop)(us:Et)(s':Fd):Prop:=∃a b,Inv X ae c b s'/\Vals a us/\Q a b
def SP(X:Cx)(ae:Op)(D:Ends)(f:Flow)(s':Fd):Prop :=
 match f with
 | .next=>∃a b,Inv X ae a b s'/\D.nx a b
 | .brk=>∃a b,Inv X ae a b s'/\D.bk a b
 | .cont=>∃a b,Inv X ae a b s'/\D.ct a b
 | .ret u=>∃v a b,Inv X ae a b s'/\RelV v u/\D.rt v b
def PE(X:Cx)(e:Ge)(t:TE):Prop:=∀(ae:Op) (s:Fd) (a:St) (H:Hp) (Q:VK),Inv X ae a H s->t a H Q->Ed (Md X.prog X.w) X.A (Cf e X.env) (EP X ae a Q) X.xe s
def PT(X:Cx)(e:Ge)(t:TT):Prop:=∀(ae:Op) (s:Fd) (a:St) (H:Hp) (Q:Bool->Hp->Prop),Inv X ae a H s->t a H Q->Ed (Md X.prog X.w) X.A (Vn e X.env<|Cf e X.env) (TP X ae a Q) X.xe s
def PW(X:Cx)(e:Ge)(t:TT):Prop:=∀(b:Sem Cd) (ae:Op) (s:Fd) (a:St) (H:Hp) (Q:Bool->Hp->Prop),Inv X ae a H s->t a H Q->Ed (Md X.prog X.w) X.A (Vn e X.env b) (TP X ae a Q) X.xe s
theorem PW.pt(h:PW X e t):PT X e t:=h _
def PA(X:Cx)(b:Rs)(t:TA):Prop:=∀(pos:Pos) (ae:Op) (s:Fd) (a:St) (H:Hp) (Q:List V->Hp->Prop),Inv X ae a H s->t a H Q->Ed (Md X.prog X.w) X.A (spliced<|Rf pos<|Xd b X.env) (AP X ae a Q) X.xe s
def PS(X:Cx)(st:Xg)(t:TS):Prop:=∀(ae:Op) (s:Fd) (a:St) (H:Hp) (D:Ends),Inv X ae a H s->t D a H->Ed (Md X.prog X.w) X.A (exec st X.env) (SP X ae D) X.xe s
def PSs(X:Cx)(st:List Xg)(t:TS):Prop:=∀(ae:Op) (s:Fd) (a:St) (H:Hp) (D:Ends),Inv X ae a H s->t D a H->Ed (Md X.prog X.w) X.A (execs st X.env) (SP X ae D) X.xe s
theorem uJ{t:Sem α}{Q b:α->Fd->Prop}(h:Ed M A t Q E s)(c:∀a s,Q a s->b a s):Ed M A t b E s:=wpAny_mono h c λ_ _ x=>x
section
variable {X:Cx}
def pU(i:Nat):TE:=λa H Q=>∃v,a[i]?=O (O v)/\Q v H
def tC(v:V):TE:=λ_ H Q=>Q v H
theorem Fv{i:Nat}{x:Str}{pos:Pos}(hN:X.N[i]?=O x)(g:GL X.env.scope x)(hd:(x==("__debug__":Str))=false:=by decide)(j:(x==("__classdict__":Str))=false:=by decide):PE X (.Name x pos) (pU i):=by
 intro ae s k H Q I h;obtain⟨v,e,h⟩:=h;obtain⟨m,q,hl⟩:=I.loc;obtain⟨u,r,l⟩:=hl i x v hN e g;have fin:EP X ae k Q u s:=⟨v,H,I,r,h⟩;rcases l with⟨a,t⟩|⟨a,c,b,d⟩
 .exact wpAny_Name (wpAny_loadName_local I.ok.kind a q t fin) hd
 .rcases a with a|a
  .exact wpAny_Name (wpAny_loadName_cell I.ok.kind a b d fin) hd
  .exact wpAny_Name (wpAny_loadName_free I.ok.kind a b d fin j) hd
theorem NM{i j pos}:PE X (.Constant (.int i) j pos) (tC<|.int i):=λ_ _ _ H _ I h=>wpAny_Constant_int ⟨.int i,H,I.tok _,⟨_,Z⟩,h⟩
theorem mR{b j pos}:PE X (.Constant (.bool b) j pos) (tC<|.bl b):=λ_ _ _ H _ I h=>Constant_bool ⟨.bl b,H,I,Z,h⟩
def Gl(X:Cx)(x:Str):Prop:=X.env.kindOf x=O .globalImplicit
theorem IC{a:St}{H:Hp}{x:Str}{pos:Pos}(I:Inv X ae a H s)(b:Gl X x)(c:X.mg x=O u)(h:Q u s)
  (hd:(x==("__debug__":Str))=false:=by decide):Ed (Md X.prog X.w) X.A (Cf (.Name x pos) X.env) Q E s :=
 Calls.Name_function_global I.ok.kind b (Calls.loadGlobal_global (by rw[I.ok.glob];exact I.mod.glob.keeps I.bk) c h) hd
theorem EY{a:St}{H:Hp}{x:Str}{pos:Pos}(I:Inv X ae a H s)(b:Gl X x)(c:X.mg x=U)(d:Se x=O u)(h:Q u s)
  (e:x ≠ "__name__":=by decide) (hd:(x==("__debug__":Str))=false:=by decide):Ed (Md X.prog X.w) X.A (Cf (.Name x pos) X.env) Q E s:=by
 obtain⟨j,g,i⟩:=I.mod.blt;exact Calls.Name_function_global I.ok.kind b (Calls.loadGlobal_builtin (by rw[I.ok.glob];exact I.mod.glob.keeps I.bk) c (by rw[I.ok.blt];exact g.keeps I.bk) ((i x e).trans d) h) hd
theorem Mj{x:Str}{v:V}{pos:Pos}(a:Gl X x)(b:X.mg x=U)(c:Se x=O u)(r:RelV v u)(d:x ≠ "__name__":=by decide)(hd:(x==("__debug__":Str))=false:=by decide):PE X (.Name x pos) (tC v):=λ_ _ _ H _ I h=>EY I a b c ⟨v,H,I,r,h⟩ d hd
variable {a b:Ge}{ta tb:TE}{pos:Pos}
def tB(t:TE):TT:=λd H Q=>t d H λx e=>∃c,x=.bl c/\Q c e
theorem OM{e:Ge}{t:TE}(h:PE X e t)(g:∀c,Vn e X.env c=(do let v<-c;standAt e.pos;Zg [v] (truthy v)):=by intro _;rfl):PT X e (tB t):=by intro ae s i H Q I hw;refine isTrue_plain (uJ (h ae s i H _ I hw) λv r ⟨x,j,k,l,m⟩=>?_)<|g _;obtain⟨d,rfl,q⟩:=m;cases l;exact Lf ⟨j,k,q⟩
variable {tA tB':TT}{rest:Rs}
def PM(t u:TT):TT:=λd H Q=>t d H λc e=>if c=Ep then u d e Q else Q Er e
def t_(t u:TT):TT:=λd H Q=>t d H λc e=>if c=Ep then Q Ep e else u d e Q
def QM(t:TT):TT:=λd H Q=>t d H λc e=>Q (!c) e
theorem JC(d:PT X a tA):PW X (.BoolOp .And [a] pos) tA:=by
 intro i ae s g H Q I h;refine isTrue_and<|uJ (d ae s g H Q I h) λc j e=>?_;cases c with
 |true=>exact isTrue_and_nil e
 |false=>exact e
theorem RM(d:PT X a tA):PW X (.BoolOp .Or [a] pos) tA:=by
 intro i ae s g H Q I h;refine isTrue_or<|uJ (d ae s g H Q I h) λc j e=>?_;cases c with
 |false=>exact isTrue_or_nil e
 |true=>exact e
theorem SM(j:PT X a tA)(k:PW X (.BoolOp .And (b::rest) pos) tB'):PW X (.BoolOp .And (a::b::rest) pos) (PM tA tB'):=by
 intro l ae s d H Q I h;refine isTrue_and<|uJ (j ae s d H _ I h) λc m ⟨e,g,i⟩=>?_;cases c with
 |true=>exact k l ae m d e Q g i
 |false=>exact⟨e,g,i⟩
theorem nR(j:PT X a tA)(k:PW X (.BoolOp .Or (b::rest) pos) tB'):PW X (.BoolOp .Or (a::b::rest) pos) (t_ tA tB'):=by
 intro l ae s d H Q I h;refine isTrue_or<|uJ (j ae s d H _ I h) λc m ⟨e,g,i⟩=>?_;cases c with
 |true=>exact⟨e,g,i⟩
 |false=>exact k l ae m d e Q g i
theorem TM(d:PT X a tA):PT X (.UnaryOp .Not a pos) (QM tA):=by intro ae s e H Q I h;exact isTrue_not<|d ae s e H (λc g=>Q (!c) g) I h
def Gv(ta tb:TE):TE:=λd H Q=>ta d H λx e=>∃c,x=.bl c/\if c=Ep then tb d e Q else Q (.bl Er) e
def Hv(ta:TE):TE:=λd H Q=>ta d H λx e=>∃c,x=.bl c/\Q (.bl<|!c) e
theorem UM(h:PE X a t):PE X (.BoolOp op [a] pos) t:=λae s c H Q I hw=>BoolOp_one<|h ae s c H Q I hw
theorem VM(j:PE X a ta)(k:PE X (.BoolOp .And (b::rest) pos) tb):PE X (.BoolOp .And (a::b::rest) pos) (Gv ta tb):=by
 intro ae s e H Q I h;refine BoolOp_and<|uJ (j ae s e H _ I h) λv l ⟨x,g,i,m,d⟩=>?_;obtain⟨c,rfl,d⟩:=d;cases m;refine Lf ?_;cases c with
 |true=>exact k ae l e g Q i d
 |false=>exact⟨.bl Er,g,i,Z,d⟩
theorem WM(e:PE X a ta):PE X (.UnaryOp .Not a pos) (Hv ta):=by intro ae s g H Q I h;refine UnaryOp_<|uJ (e ae s g H _ I h) λv l ⟨x,i,j,k,d⟩=>?_;obtain⟨c,rfl,d⟩:=d;cases k;exact not_of<|Lf ⟨.bl<|!c,i,j,Z,d⟩
end
def SqL(K:M0)(H:Hp)(a:Hd)(b:List V):Prop :=
 Rd H a (.lst b) \/
  ∃(o:Obj) (be:Eo Cd) (n:Nat),K.lookup a=O o/\o.cls=.type "list"/\o.dict=U/\o.data=.seq be n/\be.size<=sizeLine/\Vals b be.toList
def SqT(K:M0)(H:Hp)(a:Hd)(b:List V):Prop :=
 Rd H a (.tup b) \/
  ∃(o:Obj) (be:Eo Cd) (n:Nat),K.lookup a=O o/\o.cls=.type "tuple"/\o.data=.seq be n/\be.size<=sizeLine/\Vals b be.toList
noncomputable def u_:Cd->Do V
 | .none=>O .non
 | .bool b=>O<|.bl b
 | .int i _=>O<|.int i
 | .str x _=>O<|.str x
 | .bytes b _=>O<|.byt b
 | .float b _=>O<|.flt b
 | .ref a=>O<|.ref a
 | .type n=>O<|.ty n
 |_=>U
theorem RelV.abs(r:RelV x u):u_ u=O x:=by
 cases x with
 |non=>cases r;rfl
 |bl _=>cases r;rfl
 |int _=>obtain⟨t,rfl⟩:=r;rfl
 |str _=>obtain⟨t,rfl⟩:=r;rfl
 |byt _=>obtain⟨t,rfl⟩:=r;rfl
 |flt _=>obtain⟨t,rfl⟩:=r;rfl
 |ref _=>cases r;rfl
 |ty _=>cases r;rfl
theorem RelV.inj(r:RelV x u)(q:RelV y u):x=y:=O2<|r.abs.symm.trans q.abs
theorem Vals.inj:∀{a b:List V}{us:Et},Vals a us->Vals b us->a=b
 |_,_,_,.nil,.nil=>rfl
 |_,_,_,.cons r t,.cons c t'=>by rw[r.inj c,Vals.inj t t']
section
variable {X:Cx}{σ:St}{H:Hp}{a:Hd}{xs ys:List V}
theorem SqL.of{K:M0}(h:H a=O (.lst xs)):SqL K H a xs:=.inl<|.inl h
theorem SqT.of{K:M0}(h:H a=O (.tup xs)):SqT K H a xs:=.inl<|.inl h
theorem Inv.list(I:Inv X ae σ H s)(h:SqL X.K H a xs):∃be:Et,Vals xs be/\PlainL s.heap a be.toArray/\xs.length<=sizeLine:=by
 rcases h with h|⟨o,be,n,b,c,hd,d,g,r⟩
 .obtain⟨z,be,n,r,e⟩:=h.ok I.hok;exact⟨be,r,⟨_,n,e,Z,Z,Z⟩,z⟩
 .refine⟨be.toList,r,⟨o,n,I.kIn a o b,c,hd,by simpa using d⟩,?_⟩;have e:=r.length;simp only[W0]at e;exact le_of_eq_of_le e g
theorem Inv.tuple(I:Inv X ae σ H s)(h:SqT X.K H a xs):∃be:Et,Vals xs be/\Wm s.heap a be.toArray/\xs.length<=sizeLine:=by
 rcases h with h|⟨o,be,n,b,c,d,g,r⟩
 .obtain⟨z,be,r,p⟩:=h.ok I.hok;exact⟨be,r,p.t,z⟩
 .refine⟨be.toList,r,⟨o,I.kIn a o b,c,n,by simpa using d⟩,?_⟩;have e:=r.length;simp only[W0]at e
  lia
theorem Inv.list_inj(I:Inv X ae σ H s)(h:SqL X.K H a xs)(h':SqL X.K H a ys):xs=ys:=by
 obtain⟨be,r,⟨o,n,e,_,_,d⟩,_⟩:=I.list h;obtain⟨b,i,⟨j,k,c,_,_,g⟩,_⟩:=I.list h';rw[e]at c;cases c;rw[d]at g;injection g with d1 _;have:be=b:=by simpa using Ae HX d1
 subst this;exact r.inj i
theorem Inv.tuple_inj(I:Inv X ae σ H s)(h:SqT X.K H a xs)(h':SqT X.K H a ys):xs=ys:=by
 obtain⟨be,r,⟨o,e,_,n,d⟩,_⟩:=I.tuple h;obtain⟨b,i,⟨j,c,_,k,g⟩,_⟩:=I.tuple h';rw[e]at c;cases c;rw[d]at g;injection g with d1 _;have:be=b:=by simpa using Ae HX d1
 subst this;exact r.inj i
end
noncomputable abbrev Cx.wish(X:Cx)(E:Cd->Fd->Prop):Cx:={X with xe:=E}
noncomputable abbrev Cx.nox(X:Cx):Cx:=X.wish λ_ _=>Fo
theorem Cx.Ok.wish{X:Cx}(ok:X.Ok)(E:Cd->Fd->Prop):(X.wish E).Ok:=⟨ok.mod,ok.kind,ok.glob,ok.blt,ok.above,ok.inj,ok.has,ok.cab,ok.hd,ok.frames,ok.stk,ok.exf,ok.bs,ok.bsz,ok.noex,ok.exfs,ok.funs,ok.frf⟩
theorem Cx.Ok.unwish{X:Cx}(ok:(X.wish E).Ok):X.Ok:=⟨ok.mod,ok.kind,ok.glob,ok.blt,ok.above,ok.inj,ok.has,ok.cab,ok.hd,ok.frames,ok.stk,ok.exf,ok.bs,ok.bsz,ok.noex,ok.exfs,ok.funs,ok.frf⟩
section
variable {X:Cx}{σ:St}{H:Hp}
theorem Inv.wish(I:Inv X ae σ H s)(E:Cd->Fd->Prop):Inv (X.wish E) ae σ H s:=⟨I.ok.wish E,I.os,I.bare,I.base,I.loc,I.cell,I.free,I.freeC,I.pin,I.hok,I.len⟩
theorem Inv.unwish(I:Inv (X.wish E) ae σ H s):Inv X ae σ H s:=⟨I.ok.unwish,I.os,I.bare,I.base,I.loc,I.cell,I.free,I.freeC,I.pin,I.hok,I.len⟩
theorem SP.unwish{f:Flow}(h:SP (X.wish E) ae D f s'):SP X ae D f s':=by
 cases f with
 |next=>obtain⟨a,b,I,q⟩:=h;exact⟨a,b,I.unwish,q⟩
 |brk=>obtain⟨a,b,I,q⟩:=h;exact⟨a,b,I.unwish,q⟩
 |cont=>obtain⟨a,b,I,q⟩:=h;exact⟨a,b,I.unwish,q⟩
 |ret u=>obtain⟨v,a,b,I,r,q⟩:=h;exact⟨v,a,b,I.unwish,r,q⟩
theorem PSs.nox{st:List Xg}(h:PSs X.nox st t):PSs X st t:=λae s σ H D I hw=>wpAny_mono (h ae s σ H D (I.wish _) hw) (λ_ _ q=>q.unwish) λ_ _ z=>False.elim z
end
section
variable {X:Cx}{st:Xg}{rest:List Xg}{t u:TS}{e:Ge}{te:TE}{pos:Pos}
def Iv:TS:=λD a H=>D.nx a H
def XM(t u:TS):TS:=λD a H=>t {D with nx:=u D} a H
theorem KC:PSs X [] Iv:=λ_ _ a H _ I h=>Uh ⟨a,H,I,h⟩
theorem Jv(a:PS X st t)(b:PSs X rest u):PSs X (st::rest) (XM t u):=by
 intro ae s c H D I h;refine wpAny_execs_cons<|uJ (a ae s c H {D with nx:=u D} I h) λf d q=>?_;cases f with
 |next=>obtain⟨σ',H',I',q⟩:=q;exact b ae d σ' H' D I' q
 |ret v=>exact q
 |brk=>exact q
 |cont=>exact q
theorem LC(a:PS X st t):PSs X [st] t:=by
 intro ae s b H D I h;refine wpAny_execs_cons<|uJ (a ae s b H D I h) λf c q=>?_;cases f with
 |next=>exact Uh q
 |ret v=>exact q
 |brk=>exact q
 |cont=>exact q
theorem Inv.quiet{a:St}(I:Inv X ae a H s):interactive X.env=false:=by simp[interactive,I.ok.kind]
def Kv(te:TE):TS:=λD a H=>te a H λ_ b=>D.nx a b
theorem MC(b:PE X e te)(c:Xi e U pos.line X.env=pure false:=by rfl):PS X (.Expr e pos) (Kv te):=by intro ae s a H D I h;exact wpAny_Expr_any (uJ (b ae s a H _ I h) λv j ⟨x,d,g,k,i⟩=>⟨a,d,g,i⟩) I.quiet c
def Lv(te:TE):TS:=λD a H=>te a H D.rt
theorem Mv(b:PE X e te):PS X (.Return (O e) pos) (Lv te):=by intro ae s a H D I h;exact wpAny_Return_some<|uJ (b ae s a H _ I h) λv j ⟨x,c,d,g,i⟩=>⟨x,a,c,d,g,i⟩
def YM(c:TT)(t u:TS):TS:=λD a H=>c a H λb d=>if b=Ep then t D a d else u D a d
theorem oR(m:PT X c tc)(q:PSs X a t)(r:PSs X b u):PS X (.If c a b pos) (YM tc t u):=by
 intro ae s g H D I h;refine wpAny_If<|uJ (m ae s g H _ I h) λd i ⟨j,k,l⟩=>?_;cases d with
 |true=>exact q ae i g j D k l
 |false=>exact r ae i g j D k l
end
noncomputable abbrev TG:=V->St->Hp->(St->Hp->Prop)->Prop
noncomputable abbrev AC:=List V->St->Hp->(St->Hp->Prop)->Prop
def PG(X:Cx)(d:Ge)(t:TG):Prop :=
 ∀(ae:Op) (s:Fd) (b:St) (H:Hp) (v:V) (u:Cd) (Q:St->Hp->Prop),Inv X ae b H s->RelV v u->t v b H Q ->
  Ed (Md X.prog X.w) X.A (Li d X.env u) (λ_ s'=>∃a c,Inv X ae a c s'/\Q a c) X.xe s
def HL(X:Cx)(ts:Rs)(t:AC):Prop :=
 ∀(ae:Op) (s:Fd) (b:St) (H:Hp) (c:List V) (us:Et) (Q:St->Hp->Prop),Inv X ae b H s->Vals c us->t c b H Q ->
  Ed (Md X.prog X.w) X.A (assignInOrder ((We ts X.env).map (·.2)) us) (λ_ s'=>∃a d,Inv X ae a d s'/\Q a d) X.xe s
noncomputable abbrev ZM:=V->V->V->Hp->(Hp->Prop)->Prop
def pR(X:Cx)(t:ZM):Prop :=
 ∀(ae:Op) (s:Fd) (a:St) (H:Hp) (o i v:V) (b c u:Cd) (Q:Hp->Prop),Inv X ae a H s->RelV o b->RelV i c->RelV v u->t o i v H Q ->
  Ed (Md X.prog X.w) X.A (setItem b c u) (λ_ s'=>∃d,Inv X ae a d s'/\Q d) X.xe s
section
variable {X:Cx}{pos:Pos}
def FY(i:Nat):TG:=λv a H Q=>Q (a.set i<|O v) H
theorem NC{i:Nat}{x:Str}(hN:X.N.Nodup)(hi:X.N[i]?=O x)(hx:HC X.env.scope x)(hf:X.fn x=Ep\/X.env.scope.names.lookup x=O .local:=by first|exact .inl rfl|exact .inr rfl|assumption):PG X (.Name x pos) (FY i):=by intro ae s b H v u Q I r h;exact wpAny_assign_Name<|mD I hN hi hx r (λs' a=>⟨_,H,a,h⟩) hf
noncomputable def qR:AC:=λa b H Q=>a=[]/\Q b H
noncomputable def IL(t:TG)(u:AC):AC:=λb c H Q=>∃v r,b=v::r/\t v c H λa d=>u r a d Q
theorem OC:HL X [] qR:=by intro ae s a H b us Q I r h;obtain⟨e,h⟩:=h;subst e;cases r;exact assignInOrder_nil ⟨a,H,I,h⟩
theorem Nv{e:Ge}{a:Rs}{t:TG}{u:AC}(c:PG X e t)(d:HL X a u)
  (g:(We (e::a) X.env).map (·.2)=Li e X.env::(We a X.env).map (·.2):=by rfl):HL X (e::a) (IL t u):=by
 intro ae s i H x us Q I r h;obtain⟨v,y,j,h⟩:=h;subst j;cases r with
 |cons r k=>rw[g];refine assignInOrder_cons<|uJ (c ae s i H _ _ _ I r h) λ_ l ⟨b,m,q,w⟩=>?_;exact d ae l b m _ _ Q q k w
def PC(K:M0)(n:Nat)(t:AC):TG:=λv c H Q=>∃a b,v=.ref a/\SqT K H a b/\b.length=n/\t b c H Q
theorem aN{c:Rs}{k:Nat}{t:AC}(i:X.calm=Ep)(h:HL X c t)
  (j:(We c X.env).length=n:=by rfl) (l:(We c X.env).findIdx? (·.1)=none:=by rfl):PG X (.Tuple c k pos) (PC X.K n t):=by
 intro ae s d H v u Q I r hw;obtain⟨a,m,q,w,hl,hw⟩:=hw;subst q;cases r;obtain⟨be,g,x,B⟩:=I.tuple w;refine assign_Tuple_tuple (I.ok.hd i) x (by simp[j,<-hl,g.length]) l λh' hx=>?_;have y:Inv X ae d H {s with heap:=h'}:=I.kept (t':=s.toks) λb o e=>hx b o (X0<|Q0 e) e;exact h ae _ d H m _ Q y (by simpa using g) hw
def bN(to b:TE)(t:ZM):TG:=λv a H Q=>to a H λo c=>b a c λi d=>t o i v d λe=>Q a e
theorem cN{o i:Ge}{to d:TE}{t:ZM}(e:PE X o to)(hi:PE X i d)(g:pR X t)
  (j:∀v,Li (.Subscript o i pos) X.env v=(do
    let a<-Zg [v] (Cf o X.env)
    let b<-Zg [v,a] (Cf i X.env)
    standAt pos
    Zg [v,a,b] (setItem a b v)
    release [v,a,b] []):=by intro _;rfl):PG X (.Subscript o i pos) (bN to d t):=by
 intro ae s c H v u Q I r h;rw[j];refine Ad<|Ce<|uJ (e ae s c H _ I h) λa k ⟨x,l,m,q,w⟩=>?_;refine Ad<|Ce<|uJ (hi ae k c l _ m w) λb B ⟨y,C,F,G,L⟩=>?_;refine Ad<|Cm<|Ad<|Ce<|uJ (g ae B c C x y v a b u _ F q G r L) λ_ S ⟨M,P,R⟩=>?_;exact wpAny_release ⟨c,M,P,R⟩
def DV(b:TE)(g:TG):TS:=λD a H=>b a H λx c=>g x a c D.nx
theorem Rv{e:Ge}{a:TE}{g:TG}(c:PE X e a)(d:PG X tg g)(i:Fm [tg] e pos.line X.env=pure false:=by rfl)(hw:Gm [tg] e X.env=pure none:=by rfl)
  (j:(We [tg] X.env).map (·.2)=[Li tg X.env]:=by rfl):PS X (.Assign [tg] e pos) (DV a g):=by
 intro ae s b H D I h;refine wpAny_Assign_stores (uJ (c ae s b H _ I h) λv k ⟨x,l,m,r,t⟩=>?_) i hw;rw[j];exact uJ (d ae k b l x v _ m r t) λ_ w q=>q
theorem Sv{i:Nat}{x:Str}{e:Ge}{a:TE}{b:Pos}(hN:X.N.Nodup)(hi:X.N[i]?=O x)(hx:HC X.env.scope x)(c:PE X e a)(d:Xi e (O<|.Name x b) pos.line X.env=pure false:=by rfl)(hf:X.fn x=Ep\/X.env.scope.names.lookup x=O .local:=by first|exact .inl rfl|exact .inr rfl|assumption) :
  PS X (.Assign [.Name x b] e pos) (DV a<|FY i):=by
 intro ae s g H D I h;refine wpAny_Assign_Name (uJ (c ae s g H _ I h) λv r ⟨y,j,k,l,m⟩=>?_) d;exact mD k hN hi hx l (λt q=>⟨_,j,q,m⟩) hf
end
section
variable {X:Cx}{pos:Pos}
def bz(c:TT)(j:TS):TS:=λD a H=>∃W:Nat->St->Hp->Prop,(∃m,W m a H)/\∀m a H,W m a H ->
 c a H λb e=>if b=Ep then ∃N:St->Hp->Prop,(∀d g,N d g->∃i,i<m/\W i d g)/\j {D with nx:=N,ct:=N,bk:=D.nx} a e else D.nx a e
theorem Tv(t:Hn (Md X.prog X.w) X.A X.env X.xe)(F:PT X c tc)(G:PSs X body tb):PS X (.While c body [] pos) (bz tc tb):=by
 intro ae s L H D I h;obtain⟨W,⟨M,P⟩,turn⟩:=h;refine wpAny_While<|codeAny_whileLoop (λn s'=>∃e x,Inv X ae e x s'/\W n e x) ?_ M ⟨L,H,I,P⟩;rintro n R ⟨d,y,S,Y⟩;refine Uf t<|uJ (F ae R d y _ S<|turn n d y Y) λb s2 ⟨B,C,i⟩=>?_;cases b with
 |true =>
  obtain⟨N,hN,i⟩:=i;rw[Jd Z];refine Uf t<|uJ (G ae s2 d B _ C i) λf s3 j=>?_;cases f with
  |next=>obtain⟨a,g,k,l⟩:=j;obtain⟨m,q,r⟩:=hN a g l;exact⟨m,q,a,g,k,r⟩
  |cont=>obtain⟨a,g,k,l⟩:=j;obtain⟨m,q,r⟩:=hN a g l;exact⟨m,q,a,g,k,r⟩
  |brk=>exact j
  |ret v=>exact j
 |false=>rw[Gd P1];exact Uh ⟨d,B,C,i⟩
end
structure It where
 go:Nat->Hp->Prop
 yld:Nat->Hp->V->Hp->Prop
 stop:Nat->Hp->Prop
def qU(X:Cx)(ae:Op)(H:Hp)(b:Hd):Prop:=H b=U/\b≠X.env.locals/\b∉X.fs/\(b∈X.ex\/X.s₀.heap.objs.size<=b)/\(∀x c,X.env.cells.lookup x=O c->c≠b)/\∀p∈X.pn++ae,p.1≠b
theorem Inv.fpOk{d:St}{b:Hd}(I:Inv X ae d H s)(a:s.heap.objs.size<=b)(g:H' b=U):qU X ae H' b:=by
 refine⟨g,G4<|u0 I.lt a,I.nofs a,.inr<|K0 I.sz a,λx c e z=>?_,λp i z=>?_⟩
 .obtain⟨v,q⟩:=I.cell x c e;exact absurd (u0 q.lt<|by rw[z];exact a)<|P4 _
 .exact absurd (u0 (Q0 (I.pin p i).1)<|by rw[z];exact a) (P4 _)
structure Turn(P:De)(w:Be)(K:M0)(tg:Ge)(J:It)(fp:List Hd)(it:Hd)(tn:Nat->Ke->Prop):Prop where
 mem:it∈fp
 obj:∀i h,tn i h->∀b∈fp,∃o,h.get? b=O o/\∀v,o.data≠.cell v
 keep:∀i h h',tn i h->(∀b∈fp,∀o,h.get? b=O o->h'.get? b=O o)->tn i h'
 item:∀(X:Cx),X.prog=P->X.w=w->X.K=K->X.calm=Ep->∀(i:Nat) (ae:Op) (s:Fd) (σ:St) (H:Hp) (E:Cd->Fd->Prop),Inv X ae σ H s->(∀b∈fp,qU X ae H b)->tn i s.heap->J.go i H ->
  Ed (Md P w) X.A (Bf<|.ref it) (λr s1=>∃u,r=O u /\
    Ed (Md P w) X.A (Vh tg (.ref it) u) (λ_ s2=>∃x H',Inv X ae σ H' s2/\RelV x u/\J.yld i H x H'/\tn (i+1) s2.heap/\∀b∈fp,H' b=U) E s1) E s
 done:∀(X:Cx),X.prog=P->X.w=w->X.K=K->X.calm=Ep->∀(i:Nat) (ae:Op) (s:Fd) (σ:St) (H:Hp) (E:Cd->Fd->Prop),Inv X ae σ H s->(∀b∈fp,qU X ae H b)->tn i s.heap->J.stop i H ->
  Ed (Md P w) X.A (Bf<|.ref it) (λr s1=>r=U/\Inv X ae σ H s1) E s
 self:∀(A:Eg) (i:Nat) (s:Fd) (Q:Cd->Fd->Prop) (E:Cd->Fd->Prop),tn i s.heap->Q (.ref it) s->Ed (Md P w) A (Lm<|.ref it) Q E s
noncomputable abbrev TI:=St->Hp->(It->Hp->Prop)->Prop
def v_(X:Cx)(ae:Op)(g:St)(tg:Ge)(R:It->Hp->Prop)(a:Cd)(d:Fd):Prop:=∃(it:Hd) (fp:List Hd) (e:Nat->Ke->Prop) (J:It) (c:Hp),a=.ref it/\Inv X ae g c d/\Turn X.prog X.w X.K tg J fp it e/\e 0 d.heap/\(∀b∈fp,qU X ae c b)/\R J c
def PI(X:Cx)(tg me:Ge)(b:TI):Prop :=
 ∀(ae:Op) (s:Fd) (a:St) (H:Hp) (R:It->Hp->Prop),Inv X ae a H s->b a H R ->
  Ed (Md X.prog X.w) X.A (Cf me X.env) (λv c=>Ed (Md X.prog X.w) X.A (Lm v) (v_ X ae a tg R) X.xe c) X.xe s
theorem Uv{n:String}{Q:Unit->Fd->Prop}(b:s.heap.get? it=O o)(c:o.cls=.type n)(hd:o.data=.fields vs)(d:["enumerate","zip","dict_itemiterator","dict_reverseitemiterator","odict_iterator","itertools.zip_longest","itertools.pairwise"].contains n=Er) (a:Q () s):Ed M A (Vh tg (.ref it) u) Q E s:=by
 unfold Vh;cases tg<;>first
  |exact Bd a
  | (cases u<;>first
      |exact Bd a
      | (refine Ad<|wpAny_load b ?_
         rw[c,hd];show Ed M A (if (["enumerate","zip","dict_itemiterator","dict_reverseitemiterator","odict_iterator","itertools.zip_longest","itertools.pairwise"].contains n&&vs[0]?==O (He _))=Ep then _ else _) Q E s;rw[Gd<|by intro h;rw[d,eX]at h;cases h];exact Bd a))
noncomputable def w_(K:M0)(a:Hd):It:=⟨λi H=>∃b x,SqL K H a b/\b[i]?=O x,λi H x c=>c=H/\∀b,SqL K H a b->b[i]?=O x,λi H=>∃b,SqL K H a b/\b.length<=i⟩
noncomputable def x_(K:M0)(a:Hd):It:=⟨λi H=>∃b x,SqT K H a b/\b[i]?=O x,λi H x c=>c=H/\∀b,SqT K H a b->b[i]?=O x,λi H=>∃b,SqT K H a b/\b.length<=i⟩
noncomputable def f'(lo:Int)(n:Nat):It:=⟨λi _=>i<n,λi H x a=>a=H/\x=.int (lo+i),λi _=>n<=i⟩
theorem Uk{K:M0}(a it:Hd):Turn P w K tg (w_ K a) [it] it (λi h=>h.IsListIter it a i) where
 mem:=by simp
 obj:=λi h st b g=>by
  have e:b=it:=by simpa using g
  subst e;obtain⟨o,e,c,d⟩:=st;exact⟨o,e,λv z=>by rw[d]at z;cases z⟩
 keep:=λi h h' st k=>st.at λo e=>k it (by simp) o e
 item:=by intro X l hw m F i ae s G H E I hf st q;subst l hw m;obtain⟨M,x,j,hx⟩:=q;obtain⟨be,r,p,R⟩:=I.list j;obtain⟨u,S,Y⟩:=r.get hx;obtain⟨f0,t,f2,y,B,C⟩:=hf it (by simp);refine wpAny_pyNext_list_item st p.isList (x:=u) (by simpa using S) λh' L sb=>?_;have I1:Inv X ae G H {s with heap:=h'}:=I.turned (t':=s.toks) (λb o g e=>(sb.2 b g).trans e) f0 t y B C;obtain⟨o,e,c,d⟩:=id L;exact⟨u,Z,Uv (s:={s with heap:=h'}) e c d (by decide) ⟨x,H,I1,Y,⟨Z,λys hy=>by rw[I.list_inj hy j];exact hx⟩,L,λb g=>(hf b g).1⟩⟩
 done:=by intro X l hw m F i ae s G H E I hf st q;subst l hw m;obtain⟨M,j,hx⟩:=q;obtain⟨be,r,p,R⟩:=I.list j;obtain⟨f0,t,f2,y,B,C⟩:=hf it (by simp);have hl:=r.length;exact wpAny_pyNext_list_end (I.ok.hd F) st p.isList (by simp;lia) λh' eb=>⟨Z,I.turned (t':=s.toks) (λb o g e=>eb b o g e) f0 t y B C⟩
 self:=λ_ _ _ _ _ st h=>wpAny_pyIter_listiter st h
theorem cz{K:M0}(a it:Hd):Turn P w K tg (x_ K a) [it] it (λi h=>h.IsTupleIter it a i) where
 mem:=by simp
 obj:=λi h st b g=>by
  have e:b=it:=by simpa using g
  subst e;obtain⟨o,e,c,d⟩:=st;exact⟨o,e,λv z=>by rw[d]at z;cases z⟩
 keep:=λi h h' st k=>st.at λo e=>k it (by simp) o e
 item:=by intro X l hw m F i ae s G H E I hf st q;subst l hw m;obtain⟨M,x,j,hx⟩:=q;obtain⟨be,r,p,R⟩:=I.tuple j;obtain⟨u,S,Y⟩:=r.get hx;obtain⟨f0,t,f2,y,B,C⟩:=hf it (by simp);refine wpAny_pyNext_tuple_item st (show s.heap.IsTuple a be.toArray from p) (x:=u) (by simpa using S) λh' L sb=>?_;have I1:Inv X ae G H {s with heap:=h'}:=I.turned (t':=s.toks) (λb o g e=>(sb.2 b g).trans e) f0 t y B C;obtain⟨o,e,c,d⟩:=id L;exact⟨u,Z,Uv (s:={s with heap:=h'}) e c d (by decide) ⟨x,H,I1,Y,⟨Z,λys hy=>by rw[I.tuple_inj hy j];exact hx⟩,L,λb g=>(hf b g).1⟩⟩
 done:=by intro X l hw m F i ae s G H E I hf st q;subst l hw m;obtain⟨M,j,hx⟩:=q;obtain⟨be,r,p,R⟩:=I.tuple j;obtain⟨f0,t,f2,y,B,C⟩:=hf it (by simp);have hl:=r.length;exact wpAny_pyNext_tuple_end (I.ok.hd F) st (show s.heap.IsTuple a be.toArray from p) (by simp;lia) λh' eb=>⟨Z,I.turned (t':=s.toks) (λb o g e=>eb b o g e) f0 t y B C⟩
 self:=λ_ _ _ _ _ st h=>wpAny_pyIter_tupleiter st h
theorem dz{K:M0}(it:Hd)(lo:Int)(n:Nat):Turn P w K tg (f' lo n) [it] it (λi h=>IsRangeIter h it (lo+(i:Nat)*1) ((n:Int)-(i:Nat)) 1) where
 mem:=by simp
 obj:=λi h st b a=>by
  have e:b=it:=by simpa using a
  subst e;exact⟨_,st,λv z=>by have C:Data.fields _=Data.cell v:=z;cases C⟩
 keep:=λi h h' st k=>k it (by simp) _ st
 item:=by intro X c hw d g i ae s x H E I hf st j;subst c hw d;obtain⟨f0,l,F,m,q,r⟩:=hf it (by simp);have W:=Walks.range (prog:=X.prog) (w:=X.w) (I.ok.hd g) it lo 1 n;refine W.item i s _ _ j st λv h' y G B kk=>?_;obtain⟨t,rfl⟩:=G;have L:Inv X ae x H {s with heap:=h',toks:=y}:=I.turned (λb o a e=>kk b o (by simpa using a) e) f0 l m q r;refine⟨_,Z,Uv (s:={s with heap:=h',toks:=y}) (n:="range_iterator") B Z Z (by decide) ⟨.int<|lo+i,H,L,⟨t,?_⟩,⟨Z,Z⟩,B,λb a=>(hf b a).1⟩⟩;rw[Int.mul_one]
 done:=by intro X c hw d g i ae s x H E I hf st j;subst c hw d;obtain⟨f0,l,F,m,q,r⟩:=hf it (by simp);exact wpAny_pyNext_range_end (I.ok.hd g) st (by have:n<=i:=j;lia) λh' M=>⟨Z,I.turned (t':=s.toks) (λb o a e=>M b o a e) f0 l m q r⟩
 self:=λ_ _ _ _ _ st h=>wpAny_pyIter_rangeiter st h
section
variable {X:Cx}
theorem Vv{a:St}{lo hi:Int}{u:Tok}(I:Inv X ae a H s)(d:-(2 ^ 62)<=lo)(g:lo<2 ^ 62)(i:-(2 ^ 62)<=hi)(j:hi<2 ^ 62)(q:R (f' lo (hi-lo).toNat) H):Ed (Md X.prog X.w) X.A (Lm<|.ref s.heap.objs.size) (v_ X ae a tg R) E {s with heap:=s.heap.push {cls:=.type "range",data:=.fields #[.int lo t,.int hi u,.int 1 v]},toks:=tk}:=by
 refine wpAny_pyIter_range (IsRange.new ..) (small_one d g i j) ?_;have c:Inv X ae a H {s with heap:=s.heap.push {cls:=.type "range",data:=.fields #[.int lo t,.int hi u,.int 1 v]},toks:=tk}:=I.kept λb o e=>j0 _ e;refine⟨(s.heap.push {cls:=.type "range",data:=.fields #[.int lo t,.int hi u,.int 1 v]}).objs.size,[(s.heap.push {cls:=.type "range",data:=.fields #[.int lo t,.int hi u,.int 1 v]}).objs.size],_,_,H,Z,
   c.kept (t':=tk) λb o e=>j0 _ e,dz _ lo (hi-lo).toNat,?_,λb k=>?_,q⟩
 .have l:lo+((0:Nat):Int)*1=lo:=by simp
  have m:(((hi-lo).toNat:Nat):Int)-((0:Nat):Int)=uQ lo hi 1:=by rw[rangeSize_one];split<;>lia
  show IsRangeIter _ _ (lo+((0:Nat):Int)*1) ((((hi-lo).toNat:Nat):Int)-((0:Nat):Int)) 1;rw[l,m];exact O0 _ Z
 .have e:b=(s.heap.push {cls:=.type "range",data:=.fields #[.int lo t,.int hi u,.int 1 v]}).objs.size:=by simpa using k
  subst e;exact c.fpOk (P0 _)<|c.hok.fresh<|P0 _
def Wv(a:TA):TI:=λb H R=>a b H λc d=>∃j:Int,c=[.int j]/\-(2 ^ 62)<=j/\j<2 ^ 62/\R (f' 0 j.toNat) d
theorem Vk{a:Ge}{c:TA}{p pos:Pos}(d:Gl X "range")(g:X.mg "range"=U)(i:PA X [a] c)(k:Xd [a] X.env=[(Er,Cf a X.env)]:=by rfl):PI X tg (.Call (.Name "range" p) [a] [] pos) (Wv c):=by
 intro ae s l H R I h;refine Call_<|EY I d g boot_range<|O5 (uJ (i pos ae s l H _ I h) λus y ⟨B,C,m,v,b⟩=>?_) k Z;obtain⟨j,e,b,w,q⟩:=b;subst e;cases v with
 |cons r x=>cases x;obtain⟨t,rfl⟩:=r;exact call_range_1 (Vv m (by lia) (by lia) b w<|by simpa using q)
def dN(j:TI)(g:TG)(k:TS):TS:=λD a H=>j a H λJ l=>∃W:Nat->Nat->St->Hp->Prop,(∃m,W 0 m a l)/\∀i m a H,W i m a H ->
 (J.stop i H/\D.nx a H)\/(J.go i H/\∃N:St->Hp->Prop,(∀b c,N b c->∃e,e<m/\W (i+1) e b c)/\∀x c,J.yld i H x c->g x a c λd q=>k {D with nx:=N,ct:=N,bk:=D.nx} d q)
noncomputable def EV(fp:List Hd)(h:Ke):Op:=fp.filterMap λb=>(h.get? b).map λo=>(b,o)
theorem eY(a:b∈fp)(e:h.get? b=O o):(b,o)∈EV fp h:=xX.mpr ⟨b,a,by rw[e];rfl⟩
theorem sG{p:Hd×Obj}(a:p∈EV fp h):p.1∈fp/\h.get? p.1=O p.2:=by
 obtain⟨b,c,e⟩:=xX.mp a;cases q:h.get? b with
 |none=>rw[q]at e;cases e
 |some o=>rw[q]at e;have d:(b,o)=p:=O2 e;subst d;exact⟨c,q⟩
theorem Inv.pinned{a:St}(I:Inv X ae a H s)(hf:∀b∈fp,qU X ae H b)(i:∀b∈fp,∃o,s.heap.get? b=O o/\∀v,o.data≠.cell v):Inv X (ae++EV fp s.heap) a H s :=
 I.pins_of λp j=>(B2.mp j).elim (λz=>I.pin p<|B1 _ z) λz=>by obtain⟨c,e⟩:=sG z;obtain⟨f0,k,l,_⟩:=hf p.1 c;obtain⟨o,g,d⟩:=i p.1 c;rw[e]at g;cases g;exact⟨e,f0,k,l,d⟩
theorem Inv.unpinned{a:St}(I:Inv X (ae++pl) a H s):Inv X ae a H s:=I.pins_of λp b=>I.pin p<|B1 _<|Y3 _ b
theorem eN{y:List Xg}{wi:TI}{g:TG}{tb:TS}{pos:Pos}(F:Hn (Md X.prog X.w) X.A X.env X.xe)(hc:X.calm=Ep)(hi:PI X tg me wi)(hg:PG X tg g)(c:PSs X y tb)
  (hs:∀x,Yf me X.env x=pure x:=by intro _;rfl):PS X (.For tg me y [] pos) (dN wi g tb):=by
 intro ae s σ H D I h;refine wpAny_For (uJ (hi ae s σ H _ I h) λv s1 h1=>uJ h1 λitv s2 h2=>?_) hs;obtain⟨it,fp,tn,J,H2,e,I2,T,qi,f2,W,⟨m0,w0⟩,turn⟩:=h2;subst e;have R:∀{t:Hp},(∀b∈fp,t b=U)->∀b∈fp,qU X ae t b:=λhn b c=>⟨hn b c,(f2 b c).2⟩;refine codeAny_forLoop_any (λn s'=>∃i j t,Inv X ae j t s'/\tn i s'.heap/\(∀b∈fp,t b=U)/\W i n j t) ?_ m0 ⟨0,σ,H2,I2,qi,λb c=>(f2 b c).1,w0⟩;rintro n s3 ⟨i,k,P,I3,ar,G,w3⟩;rcases turn i n k P w3 with⟨L,qn⟩|⟨go,N,hN,step⟩
 .refine Uf F (uJ (T.done X Z Z Z hc i ae s3 k P X.xe I3 (R G) ar L) λr s4 ⟨S,I4⟩=>?_);subst S;exact Uh ⟨k,P,I4,qn⟩
 .refine Uf F (uJ (T.item X Z Z Z hc i ae s3 k P X.xe I3 (R G) ar go) λr s4 ⟨u,S,h4⟩=>?_);subst S;refine Uf F<|uJ h4 λ_ s5 ⟨x,H5,I5,r5,y5,C,Y⟩=>?_;have I5':=I5.pinned (R Y)<|T.obj _ _ C;refine Uf F<|uJ (hg _ s5 k H5 x u _ I5' r5<|step x H5 y5) λ_ s6 ⟨σ6,H6,I6,q6⟩=>?_;refine Uf F<|uJ (c _ s6 σ6 H6 _ I6 q6) λf s7 B=>?_;have again:∀{a:St}{l:Hp},Inv X (ae++EV fp s5.heap) a l s7->N a l->∃m,m<n/\∃i j t,Inv X ae j t s7/\tn i s7.heap/\(∀b∈fp,t b=U)/\W i m j t:=λ{a l} q M=>by
   obtain⟨m',hm,w7⟩:=hN a l M;refine⟨m',hm,i+1,a,l,q.unpinned,T.keep _ _ _ C λb c o e=>(q.pin (b,o)<|B1 _<|B1 _<|eY c e).1,λb c=>?_,w7⟩;obtain⟨o,e,d⟩:=T.obj _ _ C b c;exact(q.pin (b,o)<|B1 _<|B1 _<|eY c e).2.1
  cases f with
  |next=>obtain⟨a,l,q,M⟩:=B;exact again q M
  |cont=>obtain⟨a,l,q,M⟩:=B;exact again q M
  |brk=>obtain⟨a,l,q,B⟩:=B;exact⟨a,l,q.unpinned,B⟩
  |ret v=>obtain⟨x7,a,l,q,r7,B⟩:=B;exact⟨x7,a,l,q.unpinned,r7,B⟩
end
noncomputable abbrev R2:=V->V->Hp->VK->Prop
def OpR(X:Cx)(f:Cd->Cd->Sem Cd)(r:R2):Prop :=
 ∀(ae:Op) (s:Fd) (a:St) (H:Hp) (x y:V) (v u:Cd) (Q:VK),Inv X ae a H s->RelV x v->RelV y u->r x y H Q ->
  Ed (Md X.prog X.w) X.A (f v u) (EP X ae a Q) X.xe s
def y_(X:Cx)(f:Cd->Sem Cd)(r:V->Hp->VK->Prop):Prop :=
 ∀(ae:Op) (s:Fd) (a:St) (H:Hp) (x:V) (v:Cd) (Q:VK),Inv X ae a H s->RelV x v->r x H Q ->
  Ed (Md X.prog X.w) X.A (f v) (EP X ae a Q) X.xe s
def VZ(X:Cx)(f:Cd)(r:List V->Hp->VK->Prop):Prop :=
 ∀(ae:Op) (s:Fd) (a:St) (H:Hp) (b:List V) (us:Et) (Q:VK),Inv X ae a H s->Vals b us->r b H Q ->
  Ed (Md X.prog X.w) X.A (call f us) (EP X ae a Q) X.xe s
def bR(r:R2)(b c:TE):TE:=λa H Q=>b a H λx d=>c a d λy e=>r x y e Q
def z_(r:V->Hp->VK->Prop)(a:TE):TE:=λb H Q=>a b H λx c=>r x c Q
def rI(C:Int->Int->Prop)(g:Int->Int->V):R2:=λx y H Q=>∃i j,x=.int i/\y=.int j/\C i j/\Q (g i j) H
def sU(g:Int->Int->V):R2:=λx y H Q=>∃i j,x=.int i/\y=.int j/\Q (g i j) H
def rU(g:Int->V):V->Hp->VK->Prop:=λx H Q=>∃i,x=.int i/\Q (g i) H
section
variable {X:Cx}{a b c:Ge}{ta tb tc:TE}{pos:Pos}
theorem fN(l:PE X a ta)(m:PE X b tb){ae:Op}{s:Fd}{d:St}{H:Hp}{R:V->V->Hp->Prop}(I:Inv X ae d H s)(h:ta d H λx k=>tb d k λy e=>R x y e) {Q:Cd->Fd->Prop}{f:Cd->Cd->Sem Cd}(hf:∀v u j x y e,Inv X ae d e j->RelV x v->RelV y u->R x y e->Ed (Md X.prog X.w) X.A (f v u) Q X.xe j):Ed (Md X.prog X.w) X.A (Cf a X.env) (λv g=>Ed (Md X.prog X.w) X.A (Cf b X.env) (λu i=>Ed (Md X.prog X.w) X.A (f v u) Q X.xe i) X.xe g) X.xe s:=by
 refine uJ (l ae s d H _ I h) λv q ⟨x,k,r,t,B⟩=>?_;refine uJ (m ae q d k _ r B) λu j ⟨y,e,C,F,G⟩=>?_;exact hf v u j x y e C t F G
theorem rR(d:OpR X (Qf op) r)(e:PE X a ta)(g:PE X b tb):PE X (.BinOp a op b pos) (bR r ta tb):=by intro ae s i H Q I h;exact wpAny_BinOp<|fN e g I h λv u j x y k l m t q=>d ae j i k x y v u Q l m t q
theorem sR(e:y_ X (unaryOp op) r)(g:PE X a ta):PE X (.UnaryOp op a pos) (z_ r ta):=by intro ae s d H Q I h;exact UnaryOp_<|uJ (g ae s d H _ I h) λv i ⟨x,j,k,l,m⟩=>e ae i d j x v Q k l m
theorem B'{f:Cd->Cd->Sem Cd}{g:Int->Int->Int}(rule:∀(i j:Int) (t u:Tok) (s:Fd) (Q:Cd->Fd->Prop) (E:Cd->Fd->Prop),C i j->Q (.int (g i j) s.toks) {s with toks:=s.toks+1}->Ed (Md X.prog X.w) X.A (f (.int i t)<|.int j u) Q E s):OpR X f (rI C λi j=>.int<|g i j):=by
 intro ae s l H x y v u Q I d e h;obtain⟨i,j,rfl,rfl,k,q⟩:=h;obtain⟨t,rfl⟩:=d;obtain⟨t',rfl⟩:=e;exact rule i j t t' s _ _ k ⟨.int<|g i j,H,I.tok _,⟨_,Z⟩,q⟩
theorem tR{f:Cd->Cd->Sem Cd}{g:Int->Int->Int}(rule:∀(i j:Int) (t u:Tok) (s:Fd) (Q:Cd->Fd->Prop) (E:Cd->Fd->Prop),Q (.int (g i j) s.toks) {s with toks:=s.toks+1}->Ed (Md X.prog X.w) X.A (f (.int i t)<|.int j u) Q E s):OpR X f (sU λi j=>.int<|g i j):=by
 intro ae s k H x y v u Q I d e h;obtain⟨i,j,rfl,rfl,q⟩:=h;obtain⟨t,rfl⟩:=d;obtain⟨t',rfl⟩:=e;exact rule i j t t' s _ _ ⟨.int<|g i j,H,I.tok _,⟨_,Z⟩,q⟩
theorem QC{f:Cd->Cd->Sem Cd}{g:Int->Int->Bool}(rule:∀(i j:Int) (t u:Tok) (s:Fd) (Q:Cd->Fd->Prop) (E:Cd->Fd->Prop),Q (.bool<|g i j) s->Ed (Md X.prog X.w) X.A (f (.int i t)<|.int j u) Q E s):OpR X f (sU λi j=>.bl<|g i j):=by
 intro ae s k H x y v u Q I d e h;obtain⟨i,j,rfl,rfl,q⟩:=h;obtain⟨t,rfl⟩:=d;obtain⟨t',rfl⟩:=e;exact rule i j t t' s _ _ ⟨.bl<|g i j,H,I,Z,q⟩
def gN(i j:Int):Prop:=0<j/\j<1073741824
def iN(i j:Int):Prop:=0<=j/\j<=1000000/\i.natAbs<2 ^ 64
def CMul(i j:Int):Prop:=(-(2 ^ 64)<i/\i<2 ^ 64)\/(-(2 ^ 64)<j/\j<2 ^ 64)
theorem CMul.ok(h:CMul i j):IntMulOk i j:=by
 rcases h with⟨d,e⟩|⟨d,e⟩
 .exact .of_left (intBits_le_64 d e)
 .exact .of_right (intBits_le_64 d e)
theorem op_add:OpR X (Qf .Add) (sU λi j=>.int<|i+j):=tR λ_ _ _ _ _ _ _ q=>add_int q
theorem jN:OpR X (Qf .Sub) (sU λi j=>.int<|i-j):=tR λ_ _ _ _ _ _ _ q=>sub_int q
theorem op_mul:OpR X (Qf .Mult) (rI CMul λi j=>.int<|i*j):=B' λ_ _ _ _ _ _ _ d q=>mul_int q d.ok
theorem jW:OpR X (Qf .FloorDiv) (rI gN λi j=>.int<|i / j):=B' λi j _ _ _ _ _ d q=>by have e:(0:Int)<j:=d.1;have g:j<1073741824:=d.2;exact floordiv_int (F8 e) (by rw[Int.fdiv_eq_ediv_of_nonneg i<|X1 e];exact q) (.inl<|PyProof.noPylong_small<|by omega)
theorem zW:OpR X (Qf .Mod) (rI (λ_ j=>0<j) λi j=>.int<|i % j):=B' λi j _ _ _ _ _ e q=>by have d:(0:Int)<j:=e;exact mod_int' (F8 d) (by rw[Int.fmod_eq_emod_of_nonneg i<|X1 d];exact q)
theorem Xv:OpR X (Qf .Pow) (rI iN λi j=>.int<|i ^ j.toNat):=B' λ_ _ _ _ _ _ _ d q=>pow_int_small d.1 d.2.1 d.2.2 q
theorem unI{f:Cd->Sem Cd}{g:Int->Int}(rule:∀(i:Int) (t:Tok) (s:Fd) (Q:Cd->Fd->Prop) (E:Cd->Fd->Prop),Q (.int (g i) s.toks) {s with toks:=s.toks+1}->Ed (Md X.prog X.w) X.A (f<|.int i t) Q E s):y_ X f (rU λi=>.int<|g i):=by
 intro ae s e H x v Q I d h;obtain⟨i,rfl,q⟩:=h;obtain⟨t,rfl⟩:=d;exact rule i t s _ _ ⟨.int<|g i,H,I.tok _,⟨_,Z⟩,q⟩
theorem kN:y_ X (unaryOp .USub) (rU λi=>.int<|-i):=unI λ_ _ _ _ _ q=>neg_int q
end
noncomputable def uR:V->V->Bool
 | .non,.non=>Ep | .non,.int _=>Ep | .int _,.non=>Ep | .non,.bl _=>Ep | .bl _,.non=>Ep | .non,.str _=>Ep | .str _,.non=>Ep
 | .int _,.int _=>Ep | .bl _,.bl _=>Ep | .str _,.str _=>Ep | .byt _,.byt _=>Ep
 | .int _,.str _=>Ep | .str _,.int _=>Ep | .bl _,.str _=>Ep | .str _,.bl _=>Ep
 |_,_=>Er
def G':R2:=λx y H Q=>uR x y=Ep/\Q (.bl<|decide<|x=y) H
def K':R2:=λx y H Q=>uR x y=Ep/\Q (.bl<|!Es (x=y)) H
theorem yU:Es (V.int i=V.int j)=(i==j):=by rw[T7];simp
theorem Yv:Es (V.bl i=V.bl j)=(i==j):=by rw[T7];simp
theorem zU:Es (V.str i=V.str j)=(i==j):=by rw[T7];simp
theorem Nj:Es (V.byt i=V.byt j)=(i.toList==j.toList):=by rw[T7];cases i;cases j;simp
section
variable {X:Cx}{a b c:Ge}{ta tb tc:TE}{pos:Pos}
theorem FZ{d:St}{Q:VK}(I:Inv X ae d H s)(q:Q (.bl k) H)(e:k=k'):EP X ae d Q (.bool k') s:=by subst e;exact⟨.bl k,H,I,Z,q⟩
theorem op_eq:OpR X (Le .Eq) G':=by
 intro ae s k H x y v u Q I g d h;obtain⟨e,q⟩:=h;cases x with
 |non =>
  cases g;cases y with
  |non=>cases d;exact PySem.EqNone.eq_none_none (FZ I q<|by simp)
  |bl j=>cases d;exact PySem.EqNone.eq_none_bool (FZ I q<|by simp)
  |int j=>obtain⟨t',rfl⟩:=d;exact PySem.EqNone.eq_none_int (FZ I q<|by simp)
  |str j=>obtain⟨t',rfl⟩:=d;exact PySem.EqNone.eq_none_str (FZ I q<|by simp)
  |_=>exact absurd (show Er=Ep from e) P1
 |bl i =>
  cases g;cases y with
  |non=>cases d;exact PySem.EqNone.eq_bool_none (FZ I q<|by simp)
  |bl j=>cases d;exact eq_bool<|FZ I q Yv
  |str j=>obtain⟨t',rfl⟩:=d;exact PySem.EqMixed.eq_bool_str (FZ I q<|by simp)
  |_=>exact absurd (show Er=Ep from e) P1
 |int i =>
  obtain⟨t,rfl⟩:=g;cases y with
  |non=>cases d;exact PySem.EqNone.eq_int_none (FZ I q<|by simp)
  |int j=>obtain⟨t',rfl⟩:=d;exact eq_int<|FZ I q yU
  |str j=>obtain⟨t',rfl⟩:=d;exact PySem.EqMixed.eq_int_str (FZ I q<|by simp)
  |_=>exact absurd (show Er=Ep from e) P1
 |str i =>
  obtain⟨t,rfl⟩:=g;cases y with
  |non=>cases d;exact PySem.EqNone.eq_str_none (FZ I q<|by simp)
  |bl j=>cases d;exact PySem.EqMixed.eq_str_bool (FZ I q<|by simp)
  |int j=>obtain⟨t',rfl⟩:=d;exact PySem.EqMixed.eq_str_int (FZ I q<|by simp)
  |str j=>obtain⟨t',rfl⟩:=d;exact eq_str<|FZ I q zU
  |_=>exact absurd (show Er=Ep from e) P1
 |byt i =>
  obtain⟨t,rfl⟩:=g;cases y with
  |byt j=>obtain⟨t',rfl⟩:=d;exact PySem.W.eq_bytes<|FZ I q Nj
  |_=>exact absurd (show Er=Ep from e) P1
 |_=>cases y<;>exact absurd (show Er=Ep from e) P1
theorem op_ne:OpR X (Le .NotEq) K':=by
 intro ae s k H x y v u Q I g d h;obtain⟨e,q⟩:=h;cases x with
 |non =>
  cases g;cases y with
  |non=>cases d;exact PySem.EqNone.ne_none_none (FZ I q<|by simp)
  |bl j=>cases d;exact PySem.EqNone.ne_none_bool (FZ I q<|by simp)
  |int j=>obtain⟨t',rfl⟩:=d;exact PySem.EqNone.ne_none_int (FZ I q<|by simp)
  |str j=>obtain⟨t',rfl⟩:=d;exact PySem.EqNone.ne_none_str (FZ I q<|by simp)
  |_=>exact absurd (show Er=Ep from e) P1
 |bl i =>
  cases g;cases y with
  |non=>cases d;exact PySem.EqNone.ne_bool_none (FZ I q<|by simp)
  |bl j=>cases d;exact ne_bool<|FZ I q<|Ae not Yv
  |str j=>obtain⟨t',rfl⟩:=d;exact PySem.EqMixed.ne_bool_str (FZ I q<|by simp)
  |_=>exact absurd (show Er=Ep from e) P1
 |int i =>
  obtain⟨t,rfl⟩:=g;cases y with
  |non=>cases d;exact PySem.EqNone.ne_int_none (FZ I q<|by simp)
  |int j=>obtain⟨t',rfl⟩:=d;exact ne_int<|FZ I q<|Ae not yU
  |str j=>obtain⟨t',rfl⟩:=d;exact PySem.EqMixed.ne_int_str (FZ I q<|by simp)
  |_=>exact absurd (show Er=Ep from e) P1
 |str i =>
  obtain⟨t,rfl⟩:=g;cases y with
  |non=>cases d;exact PySem.EqNone.ne_str_none (FZ I q<|by simp)
  |bl j=>cases d;exact PySem.EqMixed.ne_str_bool (FZ I q<|by simp)
  |int j=>obtain⟨t',rfl⟩:=d;exact PySem.EqMixed.ne_str_int (FZ I q<|by simp)
  |str j=>obtain⟨t',rfl⟩:=d;exact ne_str<|FZ I q<|Ae not zU
  |_=>exact absurd (show Er=Ep from e) P1
 |byt i =>
  obtain⟨t,rfl⟩:=g;cases y with
  |byt j=>obtain⟨t',rfl⟩:=d;exact PySem.W.ne_bytes<|FZ I q<|Ae not Nj
  |_=>exact absurd (show Er=Ep from e) P1
 |_=>cases y<;>exact absurd (show Er=Ep from e) P1
theorem UW:OpR X (Le .Lt) (sU λi j=>.bl<|decide<|i<j):=QC λ_ _ _ _ _ _ _ q=>lt_int q
theorem tG:OpR X (Le .LtE) (sU λi j=>.bl<|decide<|i<=j):=QC λ_ _ _ _ _ _ _ q=>le_int q
theorem PU:OpR X (Le .Gt) (sU λi j=>.bl<|decide<|j<i):=QC λ_ _ _ _ _ _ _ q=>gt_int q
theorem vR:OpR X (Le .GtE) (sU λi j=>.bl<|decide<|j<=i):=QC λ_ _ _ _ _ _ _ q=>ge_int q
theorem OpR.or{f:Cd->Cd->Sem Cd}(h:OpR X f r)(h':OpR X f r'):OpR X f (λx y H Q=>r x y H Q\/r' x y H Q):=by
 intro ae s d H x y v u Q I e g q;rcases q with q|q
 .exact h ae s d H x y v u Q I e g q
 .exact h' ae s d H x y v u Q I e g q
theorem Zv(b:Ge){d:CmpOp}(h:d≠.In:=by decide)(e:d≠.NotIn:=by decide):Ni d b=false:=by
 have g:(d==CmpOp.In)=false:=by cases d<;>first|rfl|exact absurd rfl h
 have i:(d==CmpOp.NotIn)=false:=by cases d<;>first|rfl|exact absurd rfl e
 cases b<;>simp[Ni,g,i]
theorem RC(d:OpR X (Le op) r)(e:PE X a ta)(g:PE X b tb)(i:Ni op b=Er):PE X (.Compare a [op] [b] pos) (bR r ta tb):=by intro ae s j H Q I h;exact wpAny_Compare1 (fN e g I h λv u k x y l m t w q=>d ae k j l x y v u Q m t w q) i
def ay(t:TE):TT:=λd H Q=>t d H λx e=>∃k,x=.bl k/\Q k e
theorem SC(g:OpR X (Le op) r)(i:PE X a ta)(j:PE X b tb)(l:Ni op b=Er):PT X (.Compare a [op] [b] pos) (ay<|bR r ta tb):=by
 intro ae s d H Q I h;refine wpAny_isTrue_Compare1 (uJ (i ae s d H _ I h) λv m ⟨x,q,t,w,B⟩=>uJ (j ae m d q _ t B) λu C ⟨y,F,G,L,M⟩=>uJ (g ae C d F x y v u _ G w L M) λc s3 ⟨z,P,R,S,k,e,Y⟩=>?_) l;subst e;cases S;exact Lf ⟨P,R,Y⟩
def iz(r g:R2)(ta tb tc:TE):TE:=λd H Q=>ta d H λx i=>tb d i λy j=>r x y j λz e=>∃k,z=.bl k /\
 (if k=Ep then tc d e λl m=>g y l m Q else Q (.bl Er) e)
theorem cy{i j:CmpOp}{r l:R2}(B:OpR X (Le i) r)(C:OpR X (Le j) l)(F:PE X a ta)(G:PE X b tb)(L:PE X c tc)
  (M:lastMarks [i,j] [b,c]=false:=by with_unfolding_all rfl):PE X (.Compare a [i,j] [b,c] pos) (iz r l ta tb tc):=by
 intro ae s g H Q I h;refine Compare_chain (uJ (F ae s g H _ I h) λv P ⟨x,R,S,Y,q1⟩=>chain_link<|uJ (G ae P g R _ S q1) λu s2 ⟨y,H2,I2,m,q2⟩=>uJ (B ae s2 g H2 x y v u _ I2 Y m q2) λd s3 ⟨z,q,t,r3,k,e,w⟩=>?_) M;subst e;cases r3;refine Lf ?_;cases k with
 |false=>exact ite_ff ⟨.bl Er,q,t,Z,w⟩
 |true=>exact ite_tt<|chain_last<|uJ (L ae s3 g q _ t w) λw' s4 ⟨z',H4,I4,r4,q4⟩=>C ae s4 g H4 y z' u w' Q I4 m r4 q4
theorem kF:(sizeLine:Nat)<2 ^ 63:=by rw[Mn];decide
theorem yK(r:Vals [x] us):∃u,us=[u]/\RelV x u:=by
 cases r with
 |cons d e=>cases e;exact⟨_,Z,d⟩
theorem zY(r:Vals [x,y] us):∃u d,us=[u,d]/\RelV x u/\RelV y d:=by
 cases r with
 |cons e g =>
  cases g with
  |cons i j=>cases j;exact⟨_,_,Z,e,i⟩
theorem QU:VZ X (.builtin "abs") (λd H Q=>∃i,d=[.int i]/\Q (.int<|if i<0 then -i else i) H):=by intro ae s e H d us Q I r h;obtain⟨i,rfl,q⟩:=h;obtain⟨u,rfl,t,rfl⟩:=yK r;exact call_abs_int λu g=>⟨.int<|if i<0 then -i else i,H,I.tok _,⟨_,Z⟩,q⟩
end
structure ObjM(h:Ke)(x dx C:Hd)(mA:Str->Do Cd):Prop where
 obj:h.get? x=O (OX C dx)
 ns:h.Ns1 dx mA
 ne:dx≠x
section
variable {w:Be}{K:M0}{x dx C:Hd}{mA:Str->Do Cd}{v:Cd}
end
section
variable {P:De}{w:Be}{H H':Hp}{a C dx:Hd}{fs fs':List (Str×V)}
end
structure Cls(K:M0)(C:Hd):Prop where
 pg:PySem.W.plainGet K C Str.empty=Ep
 hd:PySem.W.hasDictIn K C=Ep
 po:PySem.W.plainOver K C=Ep
 sa:L8 K (.ref C) "__setattr__"=O (O<|.builtin "object.__setattr__")
structure Con(K:M0)(C:Hd)(f:Str)(v:V)(u:Cd):Prop where
 at_:L8 K (.ref C) f=O (O u)
 rel:RelV v u
 get:JX K u "__get__"=O U
 cp:PySem.W.copiedNames.contains f=Er
structure Meth(K:M0)(C:Hd)(m:Str)(f:Hd):Prop where
 at_:L8 K (.ref C) m=O (O<|.ref f)
 fn:PySem.W.isFn K (.ref f)=Ep
 kp:i7 K (.ref f)=Ep
section
variable {X:Cx}{σ:St}{H:Hp}{a C dx:Hd}{fs:List (Str×V)}{f:Str}{v:V}
end
section
variable {X:Cx}{o e value:Ge}{f:Str}{pos af cg:Pos}{ta tv:TE}
end
section
variable {X:Cx}{σ:St}{H:Hp}{c:Cd}{b:Bool}
inductive TyOf (K:M0) (H:Hp):V->Cd->Prop where
 |non:TyOf K H .non (.type "NoneType")
 |bl (x:Bool):TyOf K H (.bl x) (.type "bool")
 |int (i:Int):TyOf K H (.int i) (.type "int")
 |str (x:Str):TyOf K H (.str x) (.type "str")
 |flt (x:UInt64):TyOf K H (.flt x) (.type "float")
 |lst {a:Hd}{xs:List V} (e:H a=O (.lst xs)):TyOf K H (.ref a) (.type "list")
 |frz {a:Hd}{o:Obj}{xs:List V} (e:H a=O (.frz o<|.lst xs)):TyOf K H (.ref a) (.type "list")
 |tup {a:Hd}{xs:List V} (e:H a=O (.tup xs)):TyOf K H (.ref a) (.type "tuple")
 |dK {a:Hd}{se:List (dY×V)} (e:H a=O (.dK se)):TyOf K H (.ref a) (.type "dict")
 |dT {a:Hd}{se:List (List dY×V)} (e:H a=O (.dT se)):TyOf K H (.ref a) (.type "dict")
 | ins {a C dx:Hd}{fs:List (Str×V)} (e:H a=O (.ins C dx fs)) (cl:Cls K C) (ha:L8 K (.ref C) "__class__"=O (O<|.builtin "object.__class__"))
   (hn:JX K (.builtin "object.__class__") "__get__"=O (O<|.builtin "getset_descriptor.__get__")) (htk:PySem.W.takesIn K (.builtin "object.__class__")=O Ep)
   (hm:PySem.W.mroIn K C (.type "object")=O Ep):TyOf K H (.ref a) (.ref C)
end
structure Room(k:Nat)(A:Eg):Prop where
 hd:A.handled=U
 dp:A.depth+3*k+5<recursionLimit
 un:A.units+16*k+200<Ze
 gd:A.guards=O []
theorem Room.mono(r:Room k A)(h:j<=k):Room j A:=⟨r.hd,by have:=r.dp;lia,by have:=r.un;lia,r.gd⟩
theorem Room.m{j k:Nat}(r:Room k A)(h:j<=k:=by first|decide|omega):Room j A:=r.mono h
theorem Room.deeper(r:Room (k+1) A)(env:Env):Room k (A.deeper env):=⟨r.hd,by have:=r.dp;show A.depth+1+3*k+5<_;lia,by have:=r.un;show A.units+3+16*k+200<_;lia,r.gd⟩
theorem Room.depth(r:Room k A):A.depth<recursionLimit:=by have:=r.dp;lia
theorem Room.units(r:Room k A):A.units+64<Ze:=by have:=r.un;lia
def dy:TA:=λ_ H Q=>Q [] H
def uG(b:TE)(c:TA):TA:=λa H Q=>b a H λx d=>c a d λe g=>Q (x::e) g
section
variable {X:Cx}{e:Ge}{es:Rs}{te:TE}{t:TA}{pos:Pos}
theorem FV:PA X [] dy:=λ_ _ _ _ H Q I h=>Calls.spliced_nil ⟨[],H,I,.nil,h⟩
theorem FK(b:PE X e te)(c:PA X es t)(d:Xd (e::es) X.env=(Er,Cf e X.env)::Xd es X.env:=by rfl):PA X (e::es) (uG te t):=by intro pos ae s a H Q I h;rw[d];show Ed _ _ (spliced ((Er,Cf e X.env)::Rf pos (Xd es X.env))) _ _ s;refine Calls.spliced_cons<|uJ (b ae s a H _ I h) λu g ⟨x,i,j,k,l⟩=>?_;exact uJ (c pos ae g a i _ j l) λus y ⟨m,q,r,v,w⟩=>⟨x::m,q,r,.cons k v,w⟩
def lN(t:TA):TE:=λc H Q=>t c H λa b=>a.length<=sizeLine/\∀p,b p=U->Q (.ref p) (gJ b p<|.tup a)
def mN(t:TA):TE:=λc H Q=>t c H λa b=>a.length<=sizeLine/\∀p,b p=U->Q (.ref p) (gJ b p<|.lst a)
theorem nN{x1}(h:PA X es t):PE X (.Tuple es x1 pos) (lN t):=by intro ae s g H Q I i;refine wpAny_Tuple_spliced<|uJ (h pos ae s g H _ I i) λus a ⟨j,c,d,r,z,q⟩=>⟨by rw[<-r.length];exact z,?_⟩;have hf:c a.heap.objs.size=none:=d.hok.fresh<|P0 _;refine⟨.ref a.heap.objs.size,gJ c a.heap.objs.size<|.tup j,d.laid (t':=a.toks) (λb u e=>j0 _ e) (P0 _) ?_,Z,q _ hf⟩;exact⟨z,us,r,⟨_,O0 _ Z,Z,_,Z,Z⟩⟩
theorem oN(h:PA X es t):PE X (.List es pos) (mN t):=by intro ae s g H Q I i;refine wpAny_List_spliced<|uJ (h pos ae s g H _ I i) λus a ⟨j,c,d,r,z,q⟩=>⟨by rw[<-r.length];exact z,?_⟩;have hf:c a.heap.objs.size=none:=d.hok.fresh<|P0 _;refine⟨.ref a.heap.objs.size,gJ c a.heap.objs.size<|.lst j,d.laid (t':=a.toks) (λb u e=>j0 _ e) (P0 _) ?_,Z,q _ hf⟩;exact⟨z,us,0,r,O0 _ Z⟩
end
noncomputable abbrev Sp:=List V->Hp->VK->XK->Prop
noncomputable abbrev fy:=List Env->Hp->Fd->XK->Cd->Fd->Prop
structure Env0(P:De)(w:Be)(K:M0)(mg:Str->Do Cd)(base:Ke)(A:Eg)(outer:List Env)(s:Fd)(H:Hp):Prop where
 frames:A.frames=O outer
 mod:Mod K mg base
 bs:∀b o,base.get? b=O o->s.heap.get? b=O o/\H b=U
 bsz:base.objs.size<=s.heap.objs.size
 funs:s.heap.FunFrames base outer
 frf:∀b∈Lj outer,H b=U
 hok:HOk P w H s.heap
 bare:Hi s.gens
def CE(outer:List Env)(P:De)(w:Be)(H:Hp)(s:Fd)(Q:VK)(u:Cd)(s':Fd):Prop:=∃v a,s'.os=s.os/\Hi s'.gens/\Un (Lj outer) [] H a s.heap s'.heap/\HOk P w a s'.heap/\RelV v u/\Q v a
def CR(a:fy)(outer:List Env)(P:De)(w:Be)(H:Hp)(s:Fd)(Q:VK)(E:XK)(r:Nm)(s':Fd):Prop :=
 match r with
 | .ok (.ret u)=>CE outer P w H s Q u s'
 | .ok _=>Fo
 | .error e=>a outer H s E e s'
structure FnOk(P:De)(w:Be)(K:M0)(mg:Str->Do Cd)(base:Ke)(CX:fy)(k:Nat)(f:Hd)(fd:Tg)(ps:Oo)(sp:Sp):Prop where
 len:∀vs H Q E,sp vs H Q E->vs.length=ps.length
 run:∀(A:Eg) (outer:List Env) (s:Fd) (H:Hp) (args:Args) (us:Et) (vs:List V) (Q:VK) (E:XK),Room k A->Env0 P w K mg base A outer s H->Xl s fd args (ps.zip us)->Vals vs us->sp vs H Q E ->
  Ah (Md P w) A (.call (.ref f) args) (CR CX outer P w H s Q E) s
section
variable {X:Cx}{σ:St}{H:Hp}
theorem Inv.env0(I:Inv X ae σ H s):Env0 X.prog X.w X.K X.mg X.base X.A X.stack s H:=⟨I.ok.frames,I.ok.mod,I.bs,K0 I.ok.bsz I.sz,I.stack,I.stkFree,I.hok,I.bare⟩
theorem Inv.after{Q:VK}(I:Inv X ae σ H s)(h:CE X.stack X.prog X.w H s Q u s'):EP X ae σ Q u s':=by obtain⟨v,i,os,a,un,c,r,q⟩:=h;obtain⟨j,g,d,t,e⟩:=s';obtain rfl:e=s.os:=os;exact⟨v,i,I.call (h':=j) (g':=g) (d':=d) (t':=t) (ch:=[]) un c a (λb z=>absurd z<|by simp),r,q⟩
end
def vG(a:Sp)(b:List V)(E:XK)(t:TA):TE:=λc H Q=>t c H λd e=>a (d++b) e Q E
def Binds(K:M0)(fd:Tg)(a:Oo)(b:Et):Prop:=∀(s:Fd) (us:Et),K.In s.heap->(us++b).length=a.length->Xl s fd ⟨us,[]⟩ (a.zip<|us++b)
theorem Binds.all{K:M0}(h:∀us:Et,us.length=ps.length->bindArgs fd ⟨us,[]⟩=pure (ps.zip us)):Binds K fd ps []:=λs us _ hl=>by rw[E2]at hl ⊢;exact .of_eq<|h us hl
def jz(a:fy)(X:Cx)(E:XK):Prop:=∀(ae:Op) (b:St) (H:Hp) (s:Fd) (e:Cd) (s':Fd),Inv X ae b H s->a X.stack H s E e s'->X.xe e s'
section
variable {X:Cx}{CX:fy}{k:Nat}{C:Hd}{ps:Oo}{sp:Sp}{br:List V}{ds:Et}{E:XK}{x m:Str}{p pos ve:Pos}{e o:Ge}{es:Rs}{ta:TE}{t:TA}
theorem pN{b:St}{Q:VK}(F:FnOk X.prog X.w X.K X.mg X.base CX k f fd ps sp)(g:Room k X.A)(i:Binds X.K fd ps ds)(hd:Vals br ds)(hx:jz CX X E)(I:Inv X ae b H s) (r:Vals c us) (h:sp (c++br) H Q E):Ed (Md X.prog X.w) X.A (call (.ref f) us) (EP X ae b Q) X.xe s:=by
 have d:Vals (c++br) (us++ds):=r.append hd;have hl:(us++ds).length=ps.length:=by rw[<-d.length];exact F.len _ _ _ _ h
 refine wpAny_call<|Hg (F.run X.A X.stack s H ⟨us,[]⟩ (us++ds) (c++br) Q E g I.env0 (i s us I.kIn hl) d h) λr s' a=>?_;cases r with
 |error e=>exact hx ae b H s e s' I a
 |ok fl =>
  cases fl with
  |ret u=>exact I.after a
  |next=>exact False.elim a
  |brk=>exact False.elim a
  |cont=>exact False.elim a
theorem TC(F:FnOk X.prog X.w X.K X.mg X.base CX k f fd ps sp)(b:Room k X.A)(c:Gl X x)(d:X.mg x=O (.ref f))(g:i7 X.K (.ref f)=Ep)(i:Binds X.K fd ps ds)(hd:Vals br ds)(hx:jz CX X E)
  (j:PA X (e::es) t) (l:(x==("__debug__":Str))=false:=by decide) (v:Xd (e::es) X.env=(Er,Cf e X.env)::Xd es X.env:=by rfl) (y:(Rf pos<|Xd es X.env).any (·.1)=false:=by rfl) :
  PE X (.Call (.Name x p) (e::es) [] pos) (vG sp br E t):=by
 intro ae s B H Q I h;refine Eh<|IC I c d ?_ l;refine PySem.W.callWith_K (h₀:=X.base) I.ok.mod.kin g (uJ (j pos ae s B H _ I h) λus G ⟨L,M,a,r,q⟩=>⟨a.kIn,?_⟩) v y;exact pN F b i hd hx a r q
structure Mk(K:M0)(C f:Hd):Prop where
 makes:PySem.W.makesIn K C=Ep
 init:L8 K (.ref C) "__init__"=O (O<|.ref f)
 fn:PySem.W.isFn K (.ref f)=Ep
 kp:i7 K (.ref C)=Ep
end
section
variable {X:Cx}{CX:fy}{k:Nat}{C:Hd}{ps ks:Oo}{sp:Sp}{E:XK}{x m:Str}{p pos ve kpos:Pos}{e o:Ge}{es:Rs}{kws:List Gi}{te ta:TE}{t tk:TA}{nm:Do Str}
structure KBinds(K:M0)(fd:Tg)(ps ks:Oo)(g:Et->Et->Et)(gV:List V->List V->List V):Prop where
 to:∀(s:Fd) (us ws:Et),K.In s.heap->(g us ws).length=ps.length->Xl s fd ⟨us,ks.zip ws⟩ (ps.zip<|g us ws)
 rel:∀{vs:List V}{us:Et}{zs:List V}{ws:Et},Vals vs us->Vals zs ws->Vals (gV vs zs) (g us ws)
variable {g:Et->Et->Et}{gV:List V->List V->List V}
end
structure FnScope(N P:Oo)(sc:Bm):Prop where
 kind:sc.kind=.function:=by rfl
 co:sc.isCoroutine=false:=by rfl
 gen:sc.isGenerator=false:=by rfl
 nd:N.Nodup:=by decide +kernel
 pre:N.take P.length=P:=by rfl
 par:∀x∈P,sc.names.lookup x=O .local\/sc.names.lookup x=O .cell:=by decide +kernel
 nofree:∀y∈sc.names,y.2≠.free:=by decide +kernel
theorem wG{kindOf:Str->Do Jg}{x:Str}:∀{binds:List (Str×Cd)}{m:Str->Do Cd},(∀v,(x,v)∉binds)->Pn kindOf binds m x=m x
 |[],_,_=>rfl
 |(n,v)::r,m,h=>by
  unfold Pn;rw[wG λw hw=>h w<|q0 _ hw];split
  .have:x≠n:=by rintro rfl;exact h v G0
   simp[this]
  .rfl
theorem xG{kindOf:Str->Do Jg}{x:Str}:∀{binds:List (Str×Cd)}{m:Str->Do Cd},(∀v,(x,v)∉binds)->Qn kindOf binds m x=m x
 |[],_,_=>rfl
 |(n,v)::r,m,h=>by
  unfold Qn;rw[xG λw hw=>h w<|q0 _ hw];split
  .rfl
  .have:x≠n:=by rintro rfl;exact h v G0
   simp[this]
theorem yG{kindOf:Str->Do Jg}{x:Str}{v:Cd}:∀{P:Oo}{a:Et}{i:Nat}{m:Str->Do Cd},P.Nodup->P[i]?=O x->a[i]?=O v->kindOf x=O .local -> Pn kindOf (P.zip a) m x=O v
 |[],_,_,_,_,h,_,_=>by simp at h
 |_::_,[],_,_,_,_,h,_=>by simp at h
 |p::P,w::a,0,m,d,b,c,e=>by simp at b c;subst b;subst c;show Pn kindOf ((p,w)::P.zip a) m p=_;unfold Pn;rw[wG λv g=>(i6.mp d).1 (v6 g).1,Jd e];simp
 |p::P,w::a,i+1,m,d,b,c,e=>by show Pn kindOf ((p,w)::P.zip a) m x=_;unfold Pn;exact yG (i:=i) (i6.mp d).2 (by simpa using b) (by simpa using c) e
theorem zG{kindOf:Str->Do Jg}{x:Str}{v:Cd}:∀{P:Oo}{a:Et}{i:Nat}{m:Str->Do Cd},P.Nodup->P[i]?=O x->a[i]?=O v->kindOf x≠O .local -> Qn kindOf (P.zip a) m x=O v
 |[],_,_,_,_,h,_,_=>by simp at h
 |_::_,[],_,_,_,_,h,_=>by simp at h
 |p::P,w::a,0,m,d,b,c,e=>by simp at b c;subst b;subst c;show Qn kindOf ((p,w)::P.zip a) m p=_;unfold Qn;rw[xG λv g=>(i6.mp d).1 (v6 g).1,Gd e];simp
 |p::P,w::a,i+1,m,d,b,c,e=>by show Qn kindOf ((p,w)::P.zip a) m x=_;unfold Qn;exact zG (i:=i) (i6.mp d).2 (by simpa using b) (by simpa using c) e
noncomputable def start(N:Oo)(a:List V):St:=a.map O++u3 (N.length-a.length) U
noncomputable def lF(c:fy)(P:De)(w:Be)(K:M0)(mg:Str->Do Cd)(base:Ke)(N:Oo)(qual:Str)(scope:Bm)(f:Hd)(a:Cd)(A:Eg)(outer:List Env)(s:Fd)(H:Hp)(E:XK):Cx where
 prog:=P
 w:=w
 K:=K
 mg:=mg
 base:=base
 A:=A.deeper (Yh qual scope s.heap.objs.size f a)
 N:=N
 s₀:=s
 H₀:=H
 env:=Yh qual scope s.heap.objs.size f a
 outer:=outer
 stack:=Yh qual scope s.heap.objs.size f a::outer
 ex:=[]
 calm:=Ep
 fn:=λ_=>Ep
 pn:=[]
 xe:=λe s'=>Ed (Md P w) (A.deeper<|Yh qual scope s.heap.objs.size f a) (leaving (Yh qual scope s.heap.objs.size f a) e) (λ_ b=>c outer H s E e b) (λd b=>c outer H s E d b) s'
theorem VW(h:sc.names.lookup x=O .cell):∃c,(Je n sc.names []).lookup x=O c:=by have q:=GQ sc.names n []<|.inl h;exact Option.isSome_iff_exists.mp q
theorem Xk{K:M0}{E:XK}(S:FnScope N ps scope) (hd:A.handled=U) (g:Env0 P w K mg base A outer s H) (hl:vs.length=ps.length) (r:Vals vs us)(x:InCallC s s.heap.objs.size (Pn (Yh qual scope s.heap.objs.size f cd).kindOf (ps.zip us) λ_=>U) (Je (s.heap.objs.size+1) scope.names []) (Qn (Yh qual scope s.heap.objs.size f cd).kindOf (ps.zip us) λ_=>U) s1):Inv (lF CX P w K mg base N qual scope f cd A outer s H E) [] (start N vs) H s1:=by
 have F:ps.length<=N.length:=by have:=Ae W5 S.pre;rw[G5]at this;lia
 obtain⟨t,M,rfl,B⟩:=x.done;have j:∀b:Hd,b∉(lF CX P w K mg base N qual scope f cd A outer s H E).ex:=λb z=>absurd (show b∈([]:List Hd) from z) (by simp);refine⟨⟨g.mod,S.kind,Z,Z,P0 _,λy z c t d=>?_,λy hy=>?_,λy c _ h=>?_,λ_=>hd,Around.frames_deeper g.frames,.inr ⟨Z,Z⟩,λb z=>absurd z<|j b,g.bs,g.bsz,λb _ _=>j b,λb z=>absurd z<|j b,g.funs,g.frf⟩,
   rfl,g.bare,Un.kept B,⟨_,x.toInCall.ns,λi y v t d R=>?_⟩,λy c h=>⟨_,x.cell y c h⟩,g.hok.fresh<|P0 _,λy c h=>?_,λp l=>absurd (show p∈([]:Op) from l)<|by simp,g.hok.kept B,?_⟩
 .exact name_of_addr x.apart (PySem.mem_of_lookup t) (PySem.mem_of_lookup d)
 .have hy:scope.names.lookup y=O .cell\/scope.names.lookup y=O .free:=hy;rcases hy with hy|hy
  .exact VW hy
  .exact absurd Z (S.nofree _<|PySem.mem_of_lookup hy)
 .exact Y0 (x.above y c<|PySem.mem_of_lookup h)
 .have hi:i<vs.length:=by
   unfold start at d;by_cases hi:i<vs.length
   .exact hi
   .rw[W2<|by simpa using hi]at d;rw[vQ]at d;split at d<;>cases d
  have G:vs[i]?=O v:=by
   unfold start at d;rw[A4 (by simpa using hi),Z0]at d;cases e:vs[i]? with
   |none=>rw[e]at d;cases d
   |some a=>rw[e]at d;cases d;rfl
  obtain⟨u,C,L⟩:=r.get G;have l:ps[i]?=O y:=by rw[<-S.pre,dQ<|u0 hi<|V0 hl];exact t
  have m:ps.Nodup:=by rw[<-S.pre];exact S.nd.sublist<|N8 _ _
  refine⟨u,L,?_⟩;rcases S.par y (A3 l) with k|k
  .exact .inl ⟨k,yG m l C k⟩
  .obtain⟨c,e⟩:=VW (n:=s.heap.objs.size+1) k;refine .inr ⟨.inl k,c,e,?_⟩;have q:=x.cell y c e;rw[zG m l C<|by show scope.names.lookup y≠_;rw[k];decide]at q;exact q
 .exact g.hok.fresh (Y0<|x.above y c<|PySem.mem_of_lookup h)
 .unfold start;show _=N.length;rw[T0,l0,List.length_replicate];exact P3<|le_of_eq_of_le hl F
theorem wR{B:fy}{P:De}{w:Be}{K:M0}{mg:Str->Do Cd}{base:Ke}{k:Nat}{a:Arguments}{c:List Xg}{R kV X Y j ct oc:Cd}{an od:Do Hd}{cm:Eo (Do Cd)}{C:Oo}{F:Sp} (lk:K.lookup f=O ⟨oc,od,.func<|u7 name qual a c scope R kV X Y an j ct,cm⟩) (xh:M9 K j qual=Ep) (S:FnScope N C scope)(len:∀d H Q E,F d H Q E->d.length=C.length)(vn:∀(A:Eg) (outer:List Env) (s:Fd) (H:Hp) (d:List V) (Q:VK) (E:XK),Room k (A.deeper<|Yh qual scope s.heap.objs.size f j)->F d H Q E -> ∃t,PSs (lF B P w K mg base N qual scope f j A outer s H E) c t/\t {nx:=λ_ i=>Q .non i,rt:=Q} (start N d) H):FnOk P w K mg base B (k+1) f (u7 name qual a c scope R kV X Y an j ct) C F:=by
 refine⟨len,λA outer s H args us d Q E G m hb r mr=>?_⟩;have hl:=len _ _ _ _ mr;have KX:K.In s.heap:=m.mod.kin.keeps λb o e=>(m.bs b o e).1;have L:s.heap.NoLimit:=m.mod.nolimit.keeps λb o e=>(m.bs b o e).1;have gn:∀y∈C.zip us,scope.names.lookup y.1=O .local\/(scope.names.lookup y.1=O .cell/\((Je (s.heap.objs.size+1) scope.names []).lookup y.1).isSome=Ep):=λ⟨n,v⟩ hy=>by
  rcases S.par n (v6 hy).1 with q|q
  .exact .inl q
  .exact .inr ⟨q,GQ _ _ _<|.inl q⟩
 refine codeAny_call_function G.depth (KX _ _ lk) Z S.co S.gen Z (PySem.W.codeRec_of KX xh)<|hb _ _ _ _ ?_;refine wpAny_newFunctionEnv_cells S.kind gn λenv he s1 x=>?_;subst he;refine⟨L.keeps x.toInCall.keep,codeAny_func ?_⟩;obtain⟨t,ht,hq⟩:=vn A outer s H d Q E (G.deeper _) mr;have I:Inv (lF B P w K mg base N qual scope f j A outer s H E) [] (start N d) H s1:=Xk S G.hd m hl r x;refine wpAny_mono (ht [] s1 (start N d) H _ I hq) (λfl s' l=>?_) λe s' l=>l;have fin:∀{g:St}{i:Hp}{v:V}{u:Cd},Inv (lF B P w K mg base N qual scope f j A outer s H E) [] g i s'->RelV v u->Q v i->CE outer P w H s Q u s':=λ{g i v u} J M q=>⟨v,i,J.os,J.bare,J.base,J.hok,M,q⟩;cases fl with
 |ret u=>obtain⟨v,g,i,J,M,q⟩:=l;exact fin J M q
 |next=>obtain⟨g,i,J,q⟩:=l;exact fin (v:=V.non) (u:=X4) J Z q
 |brk=>obtain⟨_,_,_,q⟩:=l;exact False.elim q
 |cont=>obtain⟨_,_,_,q⟩:=l;exact False.elim q
section
variable {X:Cx}{x:Str}{p pos:Pos}{e:Ge}{es:Rs}{t:TA}{id T:String}{r:List V->Hp->VK->Prop}
def JL(r:List V->Hp->VK->Prop)(t:TA):TE:=λa H Q=>t a H λb c=>r b c Q
theorem XW(b:VZ X (.builtin id) r)(c:Gl X x)(d:X.mg x=U)(g:Se x=O (.builtin id))(i:PA X (e::es) t)(j:x ≠ "__name__":=by decide)(k:(x==("__debug__":Str))=false:=by decide)
  (l:Xd (e::es) X.env=(Er,Cf e X.env)::Xd es X.env:=by rfl) (m:(Rf pos<|Xd es X.env).any (·.1)=false:=by rfl):PE X (.Call (.Name x p) (e::es) [] pos) (JL r t):=by
 intro ae s a H Q I h;refine Eh<|EY I c d g ?_ j k;exact PyProof.Rows.callWith_builtin1 (uJ (i pos ae s a H _ I h) λus q ⟨v,w,y,B,C⟩=>b ae q a w v us Q y B C) l m
theorem uK(b:VZ X (.type T) r)(c:Gl X x)(d:X.mg x=U)(g:Se x=O (.type T))(i:PA X (e::es) t)(j:x ≠ "__name__":=by decide)(k:(x==("__debug__":Str))=false:=by decide)
  (l:Xd (e::es) X.env=(Er,Cf e X.env)::Xd es X.env:=by rfl) (m:(Rf pos<|Xd es X.env).any (·.1)=false:=by rfl):PE X (.Call (.Name x p) (e::es) [] pos) (JL r t):=by
 intro ae s a H Q I h;refine Eh<|EY I c d g ?_ j k;exact O5 (uJ (i pos ae s a H _ I h) λus q ⟨v,w,y,B,C⟩=>b ae q a w v us Q y B C) l m
end
end L2
variable {r:L2.V->List L2.V->L2.Hp->L2.VK->Prop}{σ:L2.St}{H:L2.Hp}{ys:List L2.V}{X:L2.Cx}
namespace HT
noncomputable def lexLt:Qo->Qo->Bool
 |[],[]=>Er
 |[],_::_=>Ep
 |_::_,[]=>Er
 |x::a,y::ys=>if x=y then lexLt a ys else Es (x<y)
theorem lexLt_cons(x y:Int)(a ys:Qo):lexLt (x::a) (y::ys)=if x=y then lexLt a ys else Es (x<y):=rfl
theorem XH:lexLt [] []=false:=rfl
theorem RU(y:Int)(ys:Qo):lexLt [] (y::ys)=true:=rfl
theorem SU(x:Int)(a:Qo):lexLt (x::a) []=false:=rfl
theorem gy(A:Eg)(s:Fd)(a:Int)(t:Tok)(c:Int)(u:Tok):∃e,SeqAt.EqAt A s (.int a t) (.int c u) e/\(e=Ep↔a=c):=⟨(a==c),SeqAt.EqAt.int_int a t c u,by simp⟩
theorem iy(A:Eg)(s:Fd)(a:Int)(t:Tok)(c:Int)(u:Tok)(prog:De)(w:Be)(E:Cd->Fd->Prop)(Q:Cd->Fd->Prop)(h:Q (.bool<|decide<|a<c) s):Ed (Md prog w) A (Ii .Lt (.int a t)<|.int c u) Q E s:=
 (PyProof.Rows.lt_int h:Ed (Md prog w) A (Le .Lt (.int a t)<|.int c u) Q E s)
section
open PySem.SeqAt
open PySem.AutoSeq1 (wpAny_loadPart')
open PySem.MeetsSeq PySem.MeetsSeq2 PySem.MeetsSeq3
theorem YH(l b:Hd)(items B:Eo Cd)(n n2:Nat)(dd am:Do Hd)(sl ko:Eo (Do Cd))(ns P:Qo)(hi:Qe items.toList ns)(hj:Qe B.toList P):Meets (Builtin.«tuple.__lt__» ⟨[.ref l,.ref b],[]⟩) (λ_ R s=>s.heap.get? l=O {cls:=.type "tuple",dict:=dd,data:=.seq items n,slots:=sl}/\s.heap.get? b=O {cls:=.type "tuple",dict:=am,data:=.seq B n2,slots:=ko} /\ R (.ok<|.ret<|.bool<|lexLt ns P) s):=
 .of_wp λprog w A R s h=>by
  obtain⟨S,g,d,Y,os⟩:=s;obtain⟨hl,hb,h⟩:=h;have f2:=AutoSeq1.sub_tuple_tuple;have z1:items.size=ns.length:=by rw[<-hi.length];simp
  have z2:B.size=P.length:=by rw[<-hj.length];simp
  wp_walk using Lg hl,Lg hb,Of _ (λrest b s'=>b.1=U/\s'=⟨S,g,d,Y,os⟩/\∃(vs ws:Et) (C F:Qo),rest=vs.zip ws /\
    Qe vs C/\Qe ws F/\C.length+B.size=F.length+items.size/\R (.ok<|.ret<|.bool<|lexLt C F) ⟨S,g,d,Y,os⟩) _
  case turn =>
   rintro⟨y,x⟩ rest b s' ⟨m,rfl,vs,ws,C,F,i,v,nr,G,j⟩;cases v with
   |nil=>rw[List.zip_nil_left]at i;cases i
   |cons a t L =>
    cases nr with
    |nil=>rw[List.zip_nil_right]at i;cases i
    |cons c u M =>
     rw[U2]at i;injection i with hyx qh;injection hyx with hy hx;subst hy hx;rw[lexLt_cons]at j;simp only[J2]at G;obtain⟨e,he,k⟩:=gy A.in1 ⟨S,g,d,Y,os⟩ a t c u;refine Ad<|he prog w _ _ ?_;cases e with
     |true =>
      rw[Jd<|k.mp Z]at j
      wp_walk
      exact⟨Z,Z,_,_,_,_,qh,L,M,by lia,j⟩
     |false =>
      rw[Gd<|λq=>absurd (k.mpr q) P1]at j;have hri:=iy A.in1 ⟨S,g,d,Y,os⟩ a t c u prog w
      wp_walk using hri
      exact⟨_,Z,by simpa using j⟩
  case fin =>
   rintro⟨b1,b2⟩ s' ⟨m,rfl,vs,ws,C,F,i,v,nr,G,j⟩;simp only at m;subst m;have hv:lexLt C F=Es (items.size<B.size):=by
    cases v with
    |nil =>
     cases nr with
     |nil=>simp only[W6]at G;rw[XH];exact(Ee<|b9<|V0<|Nat.add_left_cancel G).symm
     |cons c u hw=>simp only[W6,J2]at G;rw[RU];exact(Pd<|by lia).symm
    |cons a t hv =>
     cases nr with
     |nil=>simp only[W6,J2]at G;rw[SU];exact(Ee<|by lia).symm
     |cons c u hw=>rw[U2]at i;cases i
   rw[hv]at j
   wp_walk
   exact⟨_,Z,by simpa [V8]using j⟩
  case h=>exact⟨Z,Z,items.toList,B.toList,ns,P,Z,hi,hj,by lia,h⟩
end
section
variable {w:Be}
theorem lt_tupInts(hl:Wm s.heap l items)(k:Wm s.heap b fe)(hi:Qe items.toList ns)(m:Qe fe.toList a)(q:A.units<Ze) (h:Q (.bool<|lexLt ns a) s):Ed (Md prog w) A (Le .Lt (.ref l)<|.ref b) Q E s:=by
 obtain⟨⟨t,v,c,y⟩,d,e,n,hd⟩:=id hl;obtain⟨⟨g,B,data2,C⟩,i,j,G,pi⟩:=id k;simp only at e hd j pi;subst e hd j pi;exact Mh (op:=.Lt) ⟨_,d,Z⟩ ⟨_,i,Z⟩ PySem.F.slot_tuple_lt PySem.F.entry_tuple_lt (PySem.F.args_tuple_lt_2 _ _) (YH l b items fe n G v B y C ns a hi m)
  ⟨d,i,show wX (lexLt ns a)≠jX/\Q (.bool<|lexLt ns a) s from ⟨(λx=>nomatch x),h⟩⟩ q
theorem cat_tup(y:Wm s.heap t vs.toArray)(B:Wm s.heap b ws.toArray)(g:vs≠[])(C:ws=[]->Q (.ref t) s) (G:ws≠[]->Q (.ref s.heap.objs.size) {s with heap:=s.heap.push {cls:=.type "tuple",data:=.seq (vs++ws).toArray}})(d:vs.length+ws.length<=sizeLine):Ed (Md prog w) A (Qf .Add (.ref t)<|.ref b) Q E s:=by
 obtain⟨⟨cls,i,data,j⟩,a,k,n,hd⟩:=id y;obtain⟨⟨l,m,data2,q⟩,c,v,x,pi⟩:=id B;simp only at k hd v pi;subst k hd v pi;have e:vs.toArray++ws.toArray=(vs++ws).toArray:=by simp
 by_cases hw:ws=[]
 .exact Cn ⟨_,a,Z⟩ ⟨_,c,Z⟩ Al Im PySem.F.slot_tuple_add PySem.F.entry_tuple_add (PySem.F.args_tuple_add_2 _ _)
   (tuple_addW1 t b vs.toArray ws.toArray n x i m j q (by simpa using g)<|by simp[hw]) ⟨a,c,C hw⟩
 .refine Cn ⟨_,a,Z⟩ ⟨_,c,Z⟩ Al Im PySem.F.slot_tuple_add PySem.F.entry_tuple_add (PySem.F.args_tuple_add_2 _ _)
   (tuple_addW2 t b vs.toArray ws.toArray n x i m j q (by simpa using g) (by simpa using hw)<|by rw[S0,S0];exact d) ⟨a,c,?_⟩;rw[e];exact G hw
noncomputable def sIx(n d:Nat):Do Int->Nat
 |none=>d
 |some v=>if v<0 then (v+(n:Int)).toNat else min v.toNat n
theorem qN(n d:Nat)(hd:d<=n)(o:Do Int):sIx n d o<=n:=by
 cases o with
 |none=>exact hd
 |some v =>
  show (if v<0 then (v+(n:Int)).toNat else min v.toNat n)<=n;by_cases a:v<0
  .rw[Jd a];lia
  .rw[Gd a];exact K7 _ _
theorem Oj(v:Int)(n d:Nat):(if v<0 then max (v+(n:Int)) 0 else min v (n:Int))=((sIx n d (O v):Nat):Int):=by
 show (if v<0 then max (v+(n:Int)) 0 else min v (n:Int))=(((if v<0 then (v+(n:Int)).toNat else min v.toNat n):Nat):Int);by_cases a:v<0
 .simp only[Jd a];lia
 .simp only[Gd a];lia
theorem kz(lo hi:Do Int)(n:Nat):n8 lo hi 1 (n:Int)=(((sIx n 0 lo:Nat):Int),((sIx n n hi:Nat):Int)):=by
 have a:¬((1:Int)<0):=J6<|Int.zero_le_ofNat _;unfold n8;simp only[a,if_false];refine Prod.ext ?_ ?_
 .cases lo with
  |none=>rfl
  |some v=>exact Oj v n 0
 .cases hi with
  |none=>rfl
  |some v=>exact Oj v n n
theorem mz(i j:Nat):o7 (i:Int) (j:Int) 1=j-i:=by unfold o7;have a:(1:Int) > 0:=Int.zero_lt_one;simp only[a,if_true,Int.ediv_one];split<;>lia
theorem TU{o:Do Int}{Q:Do Int->Fd->Prop}(p:Bl v o)(h:Q o s):Ed (Md prog w) A (Builtin.Slice.slicePartIndex v) Q E s:=by
 cases p with
 |none=>exact slicePart_none h
 |int i t=>exact slicePart_int h
theorem RK{lo hi:Do Int}{Q:Int×Int×Nat->Fd->Prop}(c:s.heap.IsSliceOf sl vl vu .none)(d:Bl vl lo)(e:Bl vu hi)(h:Q (((sIx n 0 lo:Nat):Int),1,sIx n n hi-sIx n 0 lo) s):Ed (Md prog w) A (R9 (.ref sl)<|pure (n:Int)) Q E s:=by
 obtain⟨os,a,g,b⟩:=id c;unfold R9 Builtin.Slice.sliceFields;refine Ad<|Ad<|Ie a b (x:=vl) rfl<|Ad<|Ie a b (x:=vu) rfl<|Ad<|Ie a b (x:=.none) rfl<|Bd ?_;refine Ad<|slicePart_none ?_;show Ed _ _ (if ((1:Int)==0)=Ep then _ else _) _ _ s;rw[Gd<|by decide];refine Ad<|TU d<|Ad<|TU e<|Ad<|Bd ?_;show Ed _ _ (match n8 lo hi 1 (n:Int) with|(lo,hi)=>pure (lo,(1:Int),o7 lo hi 1)) _ _ s;rw[kz lo hi n];show Ed _ _ (pure (((sIx n 0 lo:Nat):Int),(1:Int),o7 ((sIx n 0 lo:Nat):Int) ((sIx n n hi:Nat):Int) 1)) _ _ s;rw[mz];exact Bd h
theorem jy(a:Eo Cd)(i k:Nat):((S1 k).filterMap λ(m:Nat)=>a[((i:Int)+(m:Int)*1).toNat]?).toArray=((a.toList.drop i).take k).toArray:=by
 have e:(λ(m:Nat)=>a[((i:Int)+(m:Int)*1).toNat]?)=λm=>a[i+m]?:=by
  funext m;have:((i:Int)+(m:Int)*1).toNat=i+m:=by lia
  rw[this]
 rw[e];have:=pick_run a i k;rw[List.filterMap_map]at this;have b:((λx=>a[x]?)∘λx=>i+x)=λm=>a[i+m]?:=rfl;rw[b]at this;rw[this]
theorem getItem_tuple_cut{lo hi:Do Int}(a:Wm s.heap t items)(i:s.heap.IsSliceOf sl vl vu .none)(j:Bl vl lo)(k:Bl vu hi)(hw:¬(sIx items.size 0 lo=0/\sIx items.size items.size hi=items.size))(h:Q (.ref s.heap.objs.size) {s with heap:=s.heap.push {cls:=.type "tuple",data:=.seq ((items.toList.drop<|sIx items.size 0 lo).take<|sIx items.size items.size hi-sIx items.size 0 lo).toArray}})(c:items.size<=sizeLine):Ed (Md prog w) A (Fi (.ref t)<|.ref sl) Q E s:=by
 have b:sizeOk (.seq ((items.toList.drop<|sIx items.size 0 lo).take<|sIx items.size items.size hi-sIx items.size 0 lo).toArray):=by show ((items.toList.drop<|sIx items.size 0 lo).take<|sIx items.size items.size hi-sIx items.size 0 lo).toArray.size<=sizeLine;rw[S0,G5,J5,W0];exact K0 (K7 _ _)<|K0 (e8 _ _) c
 have l:sIx items.size items.size hi<=items.size:=qN _ _ (P0 _) hi;obtain⟨os,d,v,B⟩:=id i;have e:s.TypeIs (.ref sl) "slice":=⟨os,d,v⟩;unfold Fi;try with_reducible refine Ce ?_
 first|refine Ad (Bd ?_)|skip
 refine Ad<|wpAny_sequenceKey a.typeIs (by decide) ?_;refine Ad<|Yd (name:=Str.ofString "__getitem__") a.typeIs w6
   (wpAny_call_entry w6 a.typeIs Am ?_<|args_tuple_getitem _ _);show Ed _ _ (i8 (.ref t) >>= _) _ _ s;refine Ad<|tupleItemsOf_ a ?_;refine Ad<|Xf e ?_;rw[Jd<|by decide];refine Ad<|RK i j k ?_;have g:¬((((sIx items.size 0 lo:Nat):Int)==0&&(1:Int)==1&&(sIx items.size items.size hi-sIx items.size 0 lo)==items.size)=Ep):=by
  intro q;rw[J1,J1]at q;have x:((sIx items.size 0 lo:Nat):Int)=0:=eq_of_beq q.1.1;have y:sIx items.size items.size hi-sIx items.size 0 lo=items.size:=eq_of_beq q.2;exact hw ⟨E7 x,j4 l<|K0 (V0 y.symm)<|e8 _ _⟩
 show Ed _ _ (if (((sIx items.size 0 lo:Nat):Int)==0&&(1:Int)==1&&(sIx items.size items.size hi-sIx items.size 0 lo)==items.size)=Ep then _ else _) _ _ s;rw[Gd g,jy];first
  |exact Ad (m:=G7 _)<|Fe (Bd ⟨_,rfl,Bd h⟩) b
  |exact Ad (m:=G7 _)<|Fe (Ad<|Bd<|Bd ⟨_,rfl,Bd h⟩) b
  |exact Ad<|Ad (m:=G7 _)<|Fe (Bd<|Bd ⟨_,rfl,Bd h⟩) b
  |exact Ad<|Ad (m:=G7 _)<|Fe (Bd ⟨_,rfl,Bd h⟩) b
end
end HT
namespace L2
noncomputable abbrev TO:=St->Hp->(Do Int->Hp->Prop)->Prop
def PO(X:Cx)(e:Do Ge)(t:TO):Prop :=
 ∀(ae:Op) (s:Fd) (σ:St) (H:Hp) (Q:Do Int->Hp->Prop),Inv X ae σ H s->t σ H Q ->
  Ed (Md X.prog X.w) X.A (evalPart e X.env) (λu s'=>∃o a,Inv X ae σ a s'/\Bl u o/\Q o a) X.xe s
noncomputable def UC:TO:=λ_ H Q=>Q U H
noncomputable def ly(t:TE):TO:=λσ H Q=>t σ H λx a=>∃i,x=.int i/\Q (O i) a
theorem EZ:∀{us:Et},Vals (ns.map V.int) us->Qe us ns:=by
 induction ns with
 |nil=>intro us r;rw[E9]at r;cases r;exact .nil
 |cons n ns a =>
  intro us r;rw[G2]at r;cases r with
  |cons b c=>obtain⟨t,e⟩:=b;subst e;exact .cons n t<|a c
section
variable {e:Ge}{te:TE}{lo hi:Do Ge}{tl th:TO}{pos p2:Pos}
theorem AU:PO X U UC:=by intro ae s σ H Q I h;rw[evalPart_none];exact Bd ⟨U,H,I,.none,h⟩
theorem kW(h:PE X e te):PO X (O e) (ly te):=by intro ae s σ H Q I hw;rw[evalPart_some];refine uJ (h ae s σ H _ I hw) λu g ⟨x,a,b,c,d⟩=>?_;obtain⟨i,rfl,q⟩:=d;obtain⟨t,rfl⟩:=c;exact⟨O i,a,b,.int i t,q⟩
def A_(X:Cx)(r:V->Do Int->Do Int->Hp->VK->Prop):Prop :=
 ∀(ae:Op) (s:Fd) (σ:St) (H:Hp) (x:V) (v a b:Cd) (lo hi:Do Int) (c:Hd) (Q:VK),Inv X ae σ H s->RelV x v->s.heap.IsSliceOf c a b .none->Bl a lo->Bl b hi->r x lo hi H Q ->
  ∃T id,Ph (.type T) "__getitem__"=pure (O<|.builtin id)/\s.TypeIs v T/\Ed (Md X.prog X.w) X.A (Fi v<|.ref c) (EP X ae σ Q) X.xe s
def kb(r:V->Do Int->Do Int->Hp->VK->Prop)(te:TE)(tl th:TO):TE:=λσ H Q=>te σ H λx a=>tl σ a λl b=>th σ b λu c=>r x l u c Q
theorem GY{r:V->Do Int->Do Int->Hp->VK->Prop}(i:A_ X r)(j:PE X e te)(hl:PO X lo tl)(k:PO X hi th):PE X (.Subscript e (.Slice lo hi U p2) pos) (kb r te tl th):=by intro ae s σ H Q I h;refine Subscript_<|uJ (j ae s σ H _ I h) λv m ⟨x,t,y,B,C⟩=>?_;refine wpAny_Slice<|uJ (hl ae m σ t _ y C) λc F ⟨l,G,L,M,P⟩=>uJ (k ae F σ G _ L P) λd a ⟨u,g,R,S,Y⟩=>?_;rw[evalPart_none];refine Bd ?_;have I4:Inv X ae σ g {a with heap:=a.heap.push {cls:=.type "slice",data:=.fields #[c,d,.none]}}:=R.kept (t':=a.toks) λb ob q=>j0 _ q;obtain⟨T,id,hT,ht,hg⟩:=i ae {a with heap:=a.heap.push {cls:=.type "slice",data:=.fields #[c,d,.none]}} σ g x v c d l u a.heap.objs.size Q I4 B (Heap.IsSliceOf.new ..) M S Y;show Ed (Md X.prog X.w) X.A (Hm e (.Slice lo hi U p2) v<|.ref a.heap.objs.size) (EP X ae σ Q) X.xe {a with heap:=a.heap.push {cls:=.type "slice",data:=.fields #[c,d,.none]}};exact tail_any (ops:=[.ref a.heap.objs.size,v]) ht hT hg (by with_unfolding_all rfl)
noncomputable def HY(a:List V)(lo hi:Do Int):List V:=(a.drop<|HT.sIx a.length 0 lo).take<|HT.sIx a.length a.length hi-HT.sIx a.length 0 lo
theorem nD(a:List V)(lo hi:Do Int):(HY a lo hi).length<=a.length:=by unfold HY;rw[G5,J5];exact K0 (K7 _ _)<|e8 _ _
def rN(K:M0):V->Do Int->Do Int->Hp->VK->Prop:=λx lo hi H Q=>∃a b,x=.ref a/\SqT K H a b /\
 ¬(HT.sIx b.length 0 lo=0/\HT.sIx b.length b.length hi=b.length)/\∀p,H p=U->Q (.ref p) (gJ H p<|.tup<|HY b lo hi)
theorem nz:A_ X (rN X.K):=by
 intro ae s σ H x v t w lo hi y Q I j k l m h;obtain⟨a,c,rfl,hx,hw,q⟩:=h;cases j;obtain⟨be,r,g,i⟩:=I.tuple hx;have d:be.toArray.size=c.length:=by rw[S0];exact r.length.symm
 refine⟨"tuple",_,w6.lookup,g.typeIs,?_⟩;refine HT.getItem_tuple_cut g k l m (by rw[d];exact hw) ?_ (by rw[d];exact i);rw[d];refine⟨.ref s.heap.objs.size,_,I.laid (t':=s.toks) (o:=.tup<|HY c lo hi) (λb B q=>j0 _ q) (P0 _) ?_,Z,q _<|I.hok.fresh<|P0 _⟩;exact⟨K0 (nD c lo hi) i,_,(r.drop<|HT.sIx c.length 0 lo).take<|HT.sIx c.length c.length hi-HT.sIx c.length 0 lo,IsTupD.new _ _⟩
def xR(K:M0):R2:=λx y H Q=>∃a b c ys,x=.ref a/\y=.ref b/\SqT K H a c/\SqT K H b ys/\c≠[]/\c.length+ys.length<=sizeLine /\
 (ys=[]->Q (.ref a) H)/\(ys≠[]->∀p,H p=U->Q (.ref p) (gJ H p<|.tup<|c++ys))
theorem Vals.nil_iff(r:Vals xs us):us=[]↔xs=[]:=by
 cases r with
 |nil=>simp
 |cons _ _=>simp
theorem VC:OpR X (Qf .Add) (xR X.K):=by intro ae s σ H x y v u Q I i j h;obtain⟨a,b,k,ys,rfl,rfl,l,m,hx,g,t,B⟩:=h;cases i;cases j;obtain⟨be,d,C,_⟩:=I.tuple l;obtain⟨F,c,p2,_⟩:=I.tuple m;refine HT.cat_tup C p2 (λz=>hx<|d.nil_iff.mp z) (λz=>⟨.ref a,H,I,Z,t<|c.nil_iff.mp z⟩) (λz=>?_) (by rw[<-d.length,<-c.length];exact g);refine⟨.ref s.heap.objs.size,_,I.laid (t':=s.toks) (o:=.tup<|k++ys) (λb G q=>j0 _ q) (P0 _) ?_,Z,B (λw=>z<|c.nil_iff.mpr w) _<|I.hok.fresh<|P0 _⟩;exact⟨by rw[T0];exact g,_,d.append c,IsTupD.new _ _⟩
end
noncomputable def oz(n:Nat)(i:Int):Do Nat:=if 0<=i then (if i<n then O i.toNat else U) else if -(n:Int)<=i then O (i+n).toNat else U
noncomputable def vW{α:Type}(a:List α)(i:Int):Do α:=(oz a.length i).bind λj=>a[j]?
theorem Pj(h:oz n i=O j):seqIndex? i n=O j/\j<n/\-(n:Int)<=i/\i<n:=by
 unfold oz at h;by_cases h0:0<=i
 .rw[Jd h0]at h;by_cases a:i<n
  .rw[Jd a]at h;have e:i.toNat=j:=O2 h;exact⟨by rw[Ol h0 a,e],by omega,by lia,a⟩
  .rw[Gd a]at h;cases h
 .rw[Gd h0]at h;by_cases a:-(n:Int)<=i
  .rw[Jd a]at h;have e:(i+n).toNat=j:=O2 h;exact⟨by rw[Bn (nQ h0) a,e],by lia,a,Int.lt_of_lt_of_le (L9.1 h0)<|G3 _⟩
  .rw[Gd a]at h;cases h
theorem Qj(h:vW a i=O v):∃j,seqIndex? i a.length=O j/\a[j]?=O v/\j<a.length/\-(a.length:Int)<=i/\i<a.length:=by
 unfold vW at h;cases e:oz a.length i with
 |none=>rw[e]at h;cases h
 |some j=>rw[e]at h;obtain⟨b,c,d,g⟩:=Pj e;exact⟨j,b,h,c,d,g⟩
theorem bJ{a:List α}{j:Nat}{v:α}(h:a[j]?=O v):vW a (j:Int)=O v:=by
 have b:j<a.length:=(O1.mp h).1;have e:oz a.length (j:Int)=O j:=by unfold oz;rw[Jd<|G3 _,Jd<|U4.2 b];simp
 unfold vW;rw[e];exact h
theorem my(a:List α)(v:α):vW (a++[v]) (-1)=O v:=by
 have hl:(a++[v]).length=a.length+1:=by simp
 have e:oz (a++[v]).length (-1)=O a.length:=by
  unfold oz;rw[hl,Gd<|by decide,Jd<|by exact Int.neg_le_neg<|G8.2<|X2 _ _];congr 1
  lia
 unfold vW;rw[e];show (a++[v])[a.length]?=O v;simp
def mF(b:Ge):Prop:=∀o i,Nl b Er o i=operate [o,i] (Fi o i)
def IxR(X:Cx)(r:R2):Prop :=
 ∀(a b:Ge) (ae:Op) (s:Fd) (σ:St) (H:Hp) (x y:V) (v u:Cd) (Q:VK),Inv X ae σ H s->RelV x v->RelV y u->r x y H Q ->
  Nl b Er v u=operate [v,u] (Fi v u)->Ed (Md X.prog X.w) X.A (Hm a b v u) (EP X ae σ Q) X.xe s
def L'(X:Cx)(id:String)(r:V->List V->Hp->VK->Prop):Prop :=
 ∀(ae:Op) (s:Fd) (σ:St) (H:Hp) (x:V) (a:List V) (v:Cd) (us:Et) (Q:VK),Inv X ae σ H s->RelV x v->Vals a us->r x a H Q ->
  Ed (Md X.prog X.w) X.A (call (.builtin id) (v::us)) (EP X ae σ Q) X.xe s
section
variable {a b:Ge}{ta tb:TE}{pos:Pos}
theorem IxR.or{r:R2}(h:IxR X r)(h':IxR X r'):IxR X (λx y H Q=>r x y H Q\/r' x y H Q):=by
 intro c d ae s σ H x y v u Q I e g q i;rcases q with q|q
 .exact h c d ae s σ H x y v u Q I e g q i
 .exact h' c d ae s σ H x y v u Q I e g q i
theorem yR{r:R2}(c:IxR X r)(d:PE X a ta)(e:PE X b tb)(g:mF b):PE X (.Subscript a b pos) (bR r ta tb):=by intro ae s σ H Q I h;exact Subscript_<|fN d e I h λv u i x y j k l m q=>c a b ae i σ j x y v u Q k l m q<|g _ _
def WC(K:M0):R2:=λx y H Q=>∃p c i v,x=.ref p/\y=.int i/\SqL K H p c/\vW c i=O v/\Q v H
def XC(K:M0):R2:=λx y H Q=>∃p c i v,x=.ref p/\y=.int i/\SqT K H p c/\vW c i=O v/\Q v H
theorem YC:IxR X (WC X.K):=by
 intro d R ae s σ H x y v u Q I m B h k;obtain⟨p,S,i,z,rfl,rfl,C,F,q⟩:=h;cases m;obtain⟨t,rfl⟩:=B;obtain⟨be,r,e,Y⟩:=I.list C;obtain⟨j,c,G,h3,L,M⟩:=Qj F;obtain⟨w,l,P⟩:=r.get G;have hl:=r.length;have hn:=kF;have fin:EP X ae σ Q w s:=⟨z,H,I,P,q⟩;by_cases h0:0<=i
 .have g:i.toNat=j:=by
   rw[Ol h0 M]at c;exact O2 c
  exact item_listR e.isList h0 (by lia) (by rw[g];simpa using l) fin k
 .have g:(i+(be.toArray.size:Int)).toNat=j:=by
   rw[Bn (nQ h0) L]at c;rw[S0,<-hl];exact O2 c
  exact Hl (x:=w) e.isList.typeIs slot_list_getitem.lookup
   (wpAny_getItem_list_neg (Q:=λr s'=>r=w/\EP X ae σ Q r s') e.isList (L9.1 h0) (by rw[S0]<;>lia) (by lia) (by rw[g];simpa using l) ⟨Z,fin⟩) k
theorem sN:IxR X (XC X.K):=by
 intro c L ae s σ H x y v u Q I e g h k;obtain⟨p,M,i,z,rfl,rfl,l,m,q⟩:=h;cases e;obtain⟨t,rfl⟩:=g;obtain⟨be,r,d,P⟩:=I.tuple l;obtain⟨j,B,C,R,S,Y⟩:=Qj m;obtain⟨w,F,G⟩:=r.get C;have hl:=r.length;have hn:=kF;have fin:EP X ae σ Q w s:=⟨z,H,I,G,q⟩;exact Hl (x:=w) d.typeIs slot_tuple_getitem.lookup
  (getItem_tuple (j:=j) (Q:=λr s'=>r=w/\EP X ae σ Q r s') d (by lia) (by lia) (by rw[S0,<-hl];exact B) (by simpa using F) ⟨Z,fin⟩) k
theorem qz(be:Et)(n j:Nat)(u:Cd):U3 (·.setIfInBounds j u) {cls:=.type "list",data:=.seq be.toArray n}={cls:=.type "list",data:=.seq (be.set j u).toArray n}:=by simp[U3]
theorem Inv.lst{p:Hd}(I:Inv X ae σ H s)(h:H p=O (.lst xs)):∃(be:Et) (n:Nat),Vals xs be/\s.heap.get? p=O {cls:=.type "list",data:=.seq be.toArray n}/\xs.length<=sizeLine:=by
 obtain⟨z,be,n,r,e⟩:=I.hok p _ h;exact⟨be,n,r,e,z⟩
theorem Inv.lstUpd{p:Hd}{f:Obj->Obj}(I:Inv X ae σ H s)(h:H p=O (.lst xs))(c:s.heap.get? p=O {cls:=.type "list",data:=.seq be.toArray n}) (hf:f {cls:=.type "list",data:=.seq be.toArray n}={cls:=.type "list",data:=.seq its'.toArray n'}) (r:Vals ys its') (d:ys.length<=sizeLine) (t:Nat):Inv X ae σ (gJ H p<|.lst ys) {s with heap:=s.heap.update p f,toks:=t}:=by
 have e:(s.heap.update p f).get? p=O {cls:=.type "list",data:=.seq its'.toArray n'}:=by rw[O4 f c (by rw[hf]<;>rfl),hf]
 refine I.write (x:=p) (e:=p) (by rw[h];trivial) (.inl Z) (λb u g q=>(P7 _ _<|L5 g).trans q) ⟨_,e⟩ ?_;exact⟨d,its',n',r,e⟩
def Rj:V->V->V->Hp->(Hp->Prop)->Prop:=λo i v H Q=>∃p c k j,o=.ref p/\i=.int k/\H p=O (.lst c)/\oz c.length k=O j/\Q (gJ H p<|.lst<|c.set j v)
theorem ny:pR X Rj:=by
 intro ae s σ H o i v L M u Q I x y B h;obtain⟨p,C,k,j,rfl,rfl,g,F,q⟩:=h;cases x;obtain⟨t,rfl⟩:=y;obtain⟨be,n,r,d,G⟩:=I.lst g;obtain⟨c,P,l,m⟩:=Pj F;have hl:=r.length;have R:=kF;have w:Inv X ae σ (gJ H p<|.lst<|C.set j v) {s with heap:=s.heap.update p (U3 (·.setIfInBounds j u))}:=I.lstUpd g d (qz be n j u) (r.set B j) (by rw[o4];exact G) s.toks;by_cases h0:0<=k
 .have e:k.toNat=j:=by
   rw[Ol h0 m]at c;exact O2 c
  exact PySem.W.ki_setAt d h0 (by lia) (by rw[S0,<-hl];exact m) (by rw[e];exact⟨_,w,q⟩)
 .have e:(k+(be.toArray.size:Int)).toNat=j:=by
   rw[Bn (nQ h0) l]at c;rw[S0,<-hl];exact O2 c
  exact PySem.W.ki_setBack d (L9.1 h0) (by rw[S0,<-hl];exact l) (by lia) (by rw[e];exact⟨_,w,q⟩)
theorem nF:VZ X (.builtin "len") (λi H Q=>∃p ys,i=[.ref p]/\(SqL X.K H p ys\/SqT X.K H p ys)/\Q (.int ys.length) H):=by
 intro ae s σ H i us Q I r h;obtain⟨p,ys,rfl,c,q⟩:=h;obtain⟨u,rfl,j⟩:=yK r;cases j;have l:=kF;rcases c with c|c
 .obtain⟨be,d,e,k⟩:=I.list c;have g:=d.length;exact Calls.call_len_list e.isList (by simp only[S0]<;>lia) ⟨.int ys.length,H,I.tok _,⟨s.toks+1,by rw[S0,g]⟩,q⟩
 .obtain⟨be,d,e,k⟩:=I.tuple c;have g:=d.length;exact len_tuple e (by simp only[S0]<;>lia) ⟨.int ys.length,H,I.tok _,⟨s.toks+1,by rw[S0,g]⟩,q⟩
theorem oF:VZ X (.type "list") (λt H Q=>∃p ys,t=[.ref p]/\(SqL X.K H p ys\/SqT X.K H p ys)/\∀l,H l=U->Q (.ref l) (gJ H l<|.lst ys)):=by
 intro ae s σ H t us Q I r h;obtain⟨p,ys,rfl,g,q⟩:=h;obtain⟨u,rfl,x⟩:=yK r;cases x;have fin:∀(be:Et),Vals ys be->ys.length<=sizeLine->∀(h':Ke) (c:Nat),(∀b v,s.heap.get? b=O v->h'.get? b=O v) ->
   h'.get? s.heap.objs.size=O {cls:=.type "list",dict:=U,data:=.seq be.toArray c,slots:=#[]}->EP X ae σ Q (.ref s.heap.objs.size) {s with heap:=h'}:=λbe d i h' c kp e =>
  ⟨.ref s.heap.objs.size,_,I.laid (t':=s.toks) kp (P0 _)<|show ObjOk X.prog X.w _ h' _ (.lst ys) from ⟨i,be,c,d,e⟩,Z,q _<|I.hok.fresh<|P0 _⟩;rcases g with g|g
 .obtain⟨be,d,j,i⟩:=I.list g;have y:=d.length;obtain⟨o,k,m,n,hd⟩:=j.isList;exact call_list_seq p (.inl Z) k m hd (λh' c kp e=>fin be d i h' c kp e) (by simp only[S0]<;>lia)
 .obtain⟨be,d,j,i⟩:=I.tuple g;have y:=d.length;obtain⟨o,k,m,n,hd⟩:=j;exact call_list_seq p (.inr Z) k m hd (λh' c kp e=>fin be d i h' c kp e) (by simp only[S0]<;>lia)
theorem ZH:VZ X (.type "tuple") (λi H Q=>∃p ys,i=[.ref p]/\((SqL X.K H p ys/\∀l,H l=U->Q (.ref l) (gJ H l<|.tup ys))\/(SqT X.K H p ys/\Q (.ref p) H))):=by
 intro ae s σ H i us Q I r h;obtain⟨p,ys,rfl,h⟩:=h;obtain⟨u,rfl,m⟩:=yK r;cases m;rcases h with⟨c,q⟩|⟨c,q⟩
 .obtain⟨be,d,g,j⟩:=I.list c;have v:=d.length;refine call_tuple_list g.isList (λh' kp=>?_) (by simp only[S0]<;>lia);have k:Inv X ae σ H {s with heap:=h'}:=I.kept (t':=s.toks) kp;have t:Inv X ae σ (gJ H h'.objs.size<|.tup ys) {s with heap:=h'.push {cls:=.type "tuple",data:=.seq be.toArray}}:=k.laid (t':=s.toks) (λb o e=>j0 _ e) (P0 _)<|show ObjOk X.prog X.w _ _ _ (.tup ys) from ⟨j,be,d,IsTupD.new _ _⟩;exact⟨.ref h'.objs.size,_,t,Z,q _<|k.hok.fresh<|P0 _⟩
 .obtain⟨be,d,g,j⟩:=I.tuple c;exact call_tuple_same g ⟨.ref p,H,I,Z,q⟩
def B_(K:M0)(T:String)(x:V)(H:Hp):Prop:=match x with
 | .str _=>T = "str"
 | .int _=>T = "int"
 | .ref p=>(T = "list"/\∃d,SqL K H p d)\/(T = "tuple"/\∃o,K.lookup p=O o/\o.cls=.type "tuple"/\o.dict=U) \/
   (T = "dict"/\((∃c,H p=O (.dK c))\/∃c,H p=O (.dT c)))\/(T = "set"/\∃S n,H p=O (.set S n))
 |_=>Fo
theorem oy{T:String}(I:Inv X ae σ H s)(r:RelV x v)(ty:B_ X.K T x H):s.TypeIs v T/\∀a,v=.ref a->∃j,s.heap.get? a=O j/\j.dict=none:=by
 cases x with
 |str z=>obtain⟨t,rfl⟩:=r;cases (show T = "str" from ty);exact⟨typeIs_str s z t,λ_ e=>nomatch e⟩
 |int i=>obtain⟨t,rfl⟩:=r;cases (show T = "int" from ty);exact⟨Om s i t,λ_ e=>nomatch e⟩
 |ref p =>
  cases r;rcases ty with⟨rfl,w,l⟩|⟨rfl,o,d,m,hd⟩|⟨rfl,d⟩|⟨rfl,S,n,d⟩
  .obtain⟨be,_,k,_⟩:=I.list l;refine⟨k.isList.typeIs,λa e=>?_⟩;cases e;obtain⟨o,n,e,c,hd,_⟩:=k;exact⟨o,e,hd⟩
  .refine⟨⟨o,I.kIn p o d,m⟩,λa e=>?_⟩;cases e;exact⟨o,I.kIn _ o d,hd⟩
  .have z:∃o,s.heap.get? p=O o/\o.ExactDict:=by
    rcases d with⟨q,d⟩|⟨q,d⟩
    .obtain⟨_,_,_,_,o,_,_,e,ex,_⟩:=I.hok p _ d;exact⟨o,e,ex⟩
    .obtain⟨_,_,_,_,o,_,_,e,ex,_⟩:=I.hok p _ d;exact⟨o,e,ex⟩
   obtain⟨o,e,ex⟩:=z;refine⟨⟨o,e,ex.1⟩,λa g=>?_⟩;cases g;exact⟨o,e,ex.2.1⟩
  .obtain⟨o,_,_,_,e,ex,_⟩:=I.hok p _ d;refine⟨⟨o,e,ex.1⟩,λa g=>?_⟩;cases g;exact⟨o,e,ex.2.1⟩
 |_=>exact False.elim ty
def zR(K:M0)(T:String)(r:V->List V->Hp->VK->Prop)(to:TE):TE:=λσ H Q=>to σ H λx c=>B_ K T x c/\r x [] c Q
def qb(K:M0)(T:String)(r:V->List V->Hp->VK->Prop)(to:TE)(t:TA):TE:=λσ H Q=>to σ H λx c=>B_ K T x c/\t σ c λd e=>r x d e Q
variable {o e:Ge}{es:Rs}{to:TE}{t:TA}{ve re:Pos}{T id:String}
theorem tN(g:PlainAttrs T)(slot:Slot T name id)(i:Km (.builtin id)=pure (.type "method_descriptor"))(j:L' X id r)(k:PE X o to)
  (l:Hf o name X.env (Cf o X.env)=Cf o X.env:=by rfl) (m:(ve.endLine==re.line)=true:=by rfl):PE X (.Call (.Attribute o name ve) [] [] re) (zR X.K T r to):=by
 intro ae s σ H Q I h;refine Hh l m<|uJ (k ae s σ H _ I h) λv q ⟨x,w,c,d,ty,y⟩=>?_;obtain⟨B,C⟩:=oy c d ty;exact⟨T,id,g,slot,i,B,C,Calls.callWith_builtin rfl<|PySem.evalArgs_none<|j ae q σ w x [] v [] Q c d .nil y⟩
theorem AR(i:PlainAttrs T)(slot:Slot T name id)(j:Km (.builtin id)=pure (.type "method_descriptor"))(k:L' X id r)(l:PE X o to)(m:PA X (e::es) t)
  (q:Hf o name X.env (Cf o X.env)=Cf o X.env:=by rfl)
  (w:((Rf re<|Xd (e::es) X.env).all (λx=>!x.1)&&(Co re<|Pl [] X.env).all (λx=>x.1.isSome)
    && Es ((e::es).length+([]:List Gi).length+(if ([]:List Gi).isEmpty then 0 else 1)<30))=true:=by rfl)
  (y:(ve.endLine==re.line)=true:=by rfl) (B:Xd (e::es) X.env=(Er,Cf e X.env)::Xd es X.env:=by rfl) (C:(Rf re<|Xd es X.env).any (·.1)=false:=by rfl) :
  PE X (.Call (.Attribute o name ve) (e::es) [] re) (qb X.K T r to t):=by
 intro ae s σ H Q I h;refine wpAny_Call_method_late q w y rfl<|uJ (l ae s σ H _ I h) λv F ⟨x,G,c,d,ty,L⟩=>?_;obtain⟨M,P⟩:=oy c d ty;refine⟨T,id,i,slot,j,M,P,?_⟩;have g:=m re ae F σ G _ c L;rw[B]at g ⊢;refine Calls.callWith_builtin (by show (Er||(Rf re<|Xd es X.env).any (·.1))=Er;rw[C]<;>rfl)<|Calls.evalArgs_plain ?_;exact uJ g λus R ⟨S,Y,I2,r2,q2⟩=>k ae R σ Y x S v us Q I2 d r2 q2
end
def BR(X:Cx)(id:String)(r:V->List V->Hp->VK->Prop):Prop :=
 ∀(ae:Op) (s:Fd) (σ:St) (H:Hp) (x:V) (a:List V) (v:Cd) (us:Et) (Q:VK),Inv X ae σ H s->RelV x v->Vals a us->r x a H Q ->
  Ed (Md X.prog X.w) X.A (call (.builtin id) (v::us)) (EP X ae σ Q) X.xe s
theorem Vals.one:∀{x:V}{us:Et},Vals [x] us->∃u,us=[u]/\RelV x u
 |_,_,.cons r .nil=>⟨_,Z,r⟩
theorem Vals.zero:∀{us:Et},Vals [] us->us=[]
 |_,.nil=>rfl
theorem Vals.dropLast(h:Vals xs us):Vals xs.dropLast us.dropLast:=by
 induction h with
 |nil=>exact .nil
 |cons r t a =>
  cases t with
  |nil=>exact .nil
  |cons q t'=>exact .cons r a
theorem Vals.eraseIdx:∀{a:List V}{us:Et} (i:Nat),Vals a us->Vals (a.eraseIdx i) (us.eraseIdx i)
 |_,_,_,.nil=>.nil
 |_,_,0,.cons _ t=>t
 |_,_,i+1,.cons r t=>.cons r<|Vals.eraseIdx i t
theorem Vals.rep{a:List V}(h:Vals a us):∀k:Nat,Vals (u3 k a).flatten (u3 k us).flatten
 |0=>.nil
 |k+1=>by rw[U5,U5,y7,y7];exact Vals.append h<|Vals.rep h k
theorem rz(l:List α):l.eraseIdx (l.length-1)=l.dropLast:=by
 induction l with
 |nil=>rfl
 |cons a r c =>
  cases r with
  |nil=>rfl
  |cons b r =>
   have e:(a::b::r).length-1=((b::r).length-1)+1:=by have d:(a::b::r).length=r.length+2:=rfl;have g:(b::r).length=r.length+1:=rfl;rfl
   rw[e,wQ,c];all_goals rfl
theorem AG:∀(l:List α) (i:Nat),(l.eraseIdx i).length<=l.length
 |[],_=>P0 _
 |_::_,0=>k6 _
 |_::r,i+1=>l8<|AG r i
theorem BG(be:Et):∀(k:Nat) (a:Et), PX (λb c=>b++c) a.toArray (u3 k be.toArray)=(a++(u3 k be).flatten).toArray
 |0,a=>by simp
 |k+1,a=>by
  have e:a.toArray++be.toArray=(a++be).toArray:=by simp
  have d:(a++be)++(u3 k be).flatten=a++(u3 (k+1) be).flatten:=by rw[U5,y7,V2]
  rw[<-d,<-BG be k (a++be),<-e,U5,List.foldl_cons]
section
variable {l b:Hd}{xs zs:List V}
theorem Inv.lset{f:Eo Cd->Eo Cd}(I:Inv X ae σ H s)(a:H l=O (.lst xs))(e:s.heap.get? l=O {cls:=.type "list",data:=.seq be.toArray n}) (hf:f be.toArray=its'.toArray) (c:Vals ys its') (d:ys.length<=sizeLine):Inv X ae σ (gJ H l<|.lst ys) {s with heap:=s.heap.update l (U3 f),toks:=t'}:=by
 have q:=PySem.IsL.update e f;rw[hf]at q;refine I.write (x:=l) (e:=l) (by rw[a];exact trivial) (.inl Z) (λj u g i=>(P7 s.heap (U3 f)<|L5 g).trans i) ⟨_,q⟩ ?_;exact⟨d,its',_,c,q⟩
theorem Inv.lnew(I:Inv X ae σ H s)(a:Vals ys be)(c:ys.length<=sizeLine):Inv X ae σ (gJ H s.heap.objs.size<|.lst ys) {s with heap:=s.heap.push {cls:=.type "list",data:=.seq be.toArray},toks:=t'}:=
 I.laid (λ_ _ q=>j0 _ q) (P0 _) ⟨c,be,0,a,O0 _ Z⟩
theorem Inv.fresh(I:Inv X ae σ H s):H s.heap.objs.size=none:=I.hok.fresh<|P0 _
theorem Inv.lstM(I:Inv X ae σ H s)(a:H l=O (.lst xs)):xs.length<=sizeLine/\∃(be:Et) (n:Nat),Vals xs be/\xs.length=be.length/\s.heap.get? l=O {cls:=.type "list",data:=.seq be.toArray n}:=by obtain⟨z,be,n,r,e⟩:=I.hok l _ a;exact⟨z,be,n,r,r.length,e⟩
theorem UU(h:n<=sizeLine):e6 n=false:=by unfold e6;exact Ee<|b9 h
end
def Sj:V->List V->Hp->VK->Prop:=λx b H Q=>∃l a y,x=.ref l/\b=[y]/\H l=O (.lst a)/\a.length<sizeLine/\Q .non (gJ H l<|.lst<|a++[y])
theorem vK:BR X "list.append" Sj:=by intro ae s σ H x i v us Q I b c h;obtain⟨l,j,y,rfl,rfl,a,d,q⟩:=h;cases b;obtain⟨u,rfl,g⟩:=c.one;obtain⟨z,be,n,r,hl,e⟩:=I.lstM a;refine Gg F.slot_list_append ⟨_,e,Z⟩ F.entry_list_append (F.args_list_append_2 _ _) (PySem.list_append l be.toArray n u<|by rw[S0];exact K0 (V0 hl.symm) z) ⟨e,?_⟩;refine⟨.non,_,I.lset (its':=be++[u]) a e (by simp) (r.append<|.cons g .nil) ?_,Z,q⟩;rw[T0,Y5];exact d
def Tj:V->List V->Hp->VK->Prop:=λx d H Q=>∃l b a c,x=.ref l/\d=[.ref b]/\H l=O (.lst a)/\H b=O (.lst c)/\a.length+c.length<=sizeLine/\Q .non (gJ H l<|.lst<|a++c)
theorem GV:BR X "list.extend" Tj:=by
 intro ae s σ H x y v us Q I g i h;obtain⟨l,b,B,C,rfl,rfl,d,hB,G,q⟩:=h;cases g;obtain⟨u,rfl,j⟩:=i.one;cases j;obtain⟨z,be,n,r,hl,e⟩:=I.lstM d;obtain⟨L,c,k,m,M,t⟩:=I.lstM hB;have a:be.toArray.size+c.toArray.size<=sizeLine:=by rw[S0,S0];lia
 have w:¬(!be.toArray.isEmpty&&e6 (be.toArray.size+c.toArray.size))=true:=by rw[UU a,Bool.and_false];exact P1
 refine Gg F.slot_list_extend ⟨_,e,Z⟩ F.entry_list_extend (F.args_list_extend_2 _ _)
  (AutoSeq1.list_extend_list_list_0 l be.toArray n b c.toArray k w (by rw[S0];exact K0 (V0 hl.symm) z)<|X5 a) ⟨e,t,?_⟩;refine⟨.non,_,I.lset (its':=be++c) d e (by simp) (r.append m) ?_,Z,q⟩;rw[T0];omega
def DR:V->List V->Hp->VK->Prop:=λx b H Q=>∃l a y,x=.ref l/\b=[]/\H l=O (.lst a)/\a[a.length-1]?=O y/\Q y (gJ H l<|.lst a.dropLast)
theorem qy:BR X "list.pop" DR:=by
 intro ae s σ H x k v us Q I d g h;obtain⟨l,m,y,rfl,rfl,c,hy,q⟩:=h;cases d;have a:=g.zero;subst a;obtain⟨z,be,n,r,hl,e⟩:=I.lstM c;obtain⟨u,i,j⟩:=r.get hy;have b:be.toArray[be.toArray.size-1]?=O u:=by show be.toArray[be.length-1]?=O u;rw[<-E3,<-hl];exact i
 refine Gg F.slot_list_pop ⟨_,e,Z⟩ F.entry_list_pop (F.args_list_pop_1 _) (MeetsSeq.list_pop_last l be.toArray n u b<|by rw[S0];lia) ⟨e,?_⟩;refine⟨y,_,I.lset (its':=be.dropLast) c e ?_ r.dropLast ?_,j,q⟩
 .show be.toArray.eraseIdxIfInBounds (be.toArray.size-1)=be.dropLast.toArray;rw[S0,W8,rz]
 .rw[List.length_dropLast];exact K0 (e8 _ _) z
def sy:V->List V->Hp->VK->Prop:=λx b H Q=>∃l a i k y,x=.ref l/\b=[.int i]/\H l=O (.lst a)/\-(2 ^ 63)<=i/\i<2 ^ 63/\seqIndex? i a.length=O k/\a[k]?=O y/\Q y (gJ H l<|.lst<|a.eraseIdx k)
theorem uy:BR X "list.pop" sy:=by
 intro ae s σ H x G v us Q I b c h;obtain⟨l,d,i,k,y,rfl,rfl,a,g,j,m,hy,q⟩:=h;cases b;obtain⟨u,rfl,B⟩:=c.one;obtain⟨t,rfl⟩:=B;obtain⟨z,be,n,r,hl,e⟩:=I.lstM a;obtain⟨w,hw,C⟩:=r.get hy;refine Gg F.slot_list_pop ⟨_,e,Z⟩ F.entry_list_pop (F.args_list_pop_2 _ _)
  (MeetsSeq.list_pop_at l be.toArray n i t k w (fitsIndex_both g j) (by rw[S0,<-hl];exact m) (by rw[<-E3];exact hw)<|by rw[S0];lia) ⟨e,?_⟩;refine⟨y,_,I.lset (its':=be.eraseIdx k) a e ?_ (r.eraseIdx k) ?_,C,q⟩
 .show be.toArray.eraseIdxIfInBounds k=(be.eraseIdx k).toArray;rw[W8]
 .have:=AG d k;exact K0 this z
def uN:R2:=λx y H Q=>∃l b a c,x=.ref l/\y=.ref b/\H l=O (.lst a)/\H b=O (.lst c)/\a.length+c.length<=sizeLine/\∀p,H p=U->Q (.ref p) (gJ H p<|.lst<|a++c)
theorem vN:OpR X (Qf .Add) uN:=by
 intro ae s σ H x y v u Q I c d h;obtain⟨l,b,m,t,rfl,rfl,g,hB,w,q⟩:=h;cases c;cases d;obtain⟨z,be,n,r,hl,e⟩:=I.lstM g;obtain⟨B,a,C,i,F,j⟩:=I.lstM hB;refine PySem.P.add_list e j ?_ (by rw[S0,S0];lia);have k:be.toArray++a.toArray=(be++a).toArray:=by simp
 rw[k];exact⟨.ref _,_,I.lnew (t':=s.toks) (r.append i) (by rw[T0];omega),Z,q _ I.fresh⟩
def wN:R2:=λx y H Q=>∃l k a,x=.ref l/\y=.int k/\H l=O (.lst a)/\-(2 ^ 63)<=k/\k<2 ^ 63/\a.length*k.toNat<=sizeLine /\
 ∀p,H p=U->Q (.ref p) (gJ H p<|.lst (u3 k.toNat a).flatten)
theorem ZC(a:List α)(k:Nat):(u3 k a).flatten.length=k*a.length:=by
 induction k with
 |zero=>simp
 |succ k b=>rw[U5,y7,T0,b,AQ,E8]
theorem xN:OpR X (Qf .Mult) wN:=by
 intro ae s σ H x y v u Q I j w h;obtain⟨l,k,R,rfl,rfl,B,C,G,g,q⟩:=h;cases j;obtain⟨t,rfl⟩:=w;obtain⟨z,be,n,r,hl,e⟩:=I.lstM B;have i:be.toArray.size*k.toNat<=sizeLine:=by rw[S0,<-hl];exact g
 have b:¬be.toArray.size*k.toNat > (2 ^ 63-1) / 8:=by
  have:(sizeLine:Nat)<=(2 ^ 63-1) / 8:=by decide
  exact b9<|K0 i this
 have L:¬(!Builtin.List.listFitsIndex k)=true:=by rw[fitsIndex_both C G];exact P1
 have M:¬e6 (be.toArray.size*k.toNat)=true:=by rw[UU i];exact P1
 have P:PX (λc d=>c++d) #[] (u3 (if be.toArray.isEmpty=Ep then 0 else k.toNat) be.toArray)=(u3 k.toNat be).flatten.toArray:=by
  have f0:∀m:Nat,PX (λc d=>c++d) #[] (u3 m be.toArray)=(u3 m be).flatten.toArray:=λm=>by have:=BG be m [];rw[MQ]at this;exact this
  rw[f0];cases be with
  |nil=>simp
  |cons a S=>rw[Gd<|by simp]
 refine wpAny_binaryOp_repeat_ref (T:="list") (U:="int") (by decide) ⟨_,e,Z⟩ (λs'=>Om s' k t) noFill_list_mul F.fills_int_mul F.slot_int_rmul repeat_list F.slot_int_index.lookup
  (Gg F.slot_int_rmul (Om s k t) F.entry_int_rmul (F.args_int_rmul_2 _ _) (int___rmul___int_list k t l be.toArray n)
    ⟨e,Z,⟨_,e,Z⟩,Gg F.slot_list_mul ⟨_,e,Z⟩ F.entry_list_mul (F.args_list_mul_2 _ _) (AutoListH.list___mul___list_int_3 l be.toArray n k t L b M) ⟨e,?_⟩⟩);rw[P];exact⟨.ref _,_,I.lnew (t':=s.toks) (r.rep k.toNat) (by rw[ZC,GX];exact g),Z,q _ I.fresh⟩
section
variable {w:Be}
set_option maxRecDepth 100000 in
end
section
variable {κ:Type}[DecidableEq κ]
end
theorem ER{P:De}{w:Be}{k:dY}(r:RelV (kV k) u):(gK P w).is k u=true:=by
 cases k with
 |inl i=>obtain⟨t,e⟩:=(show ∃t,u=A8 i t from r);subst e;exact jD P w i t
 |inr x=>obtain⟨t,e⟩:=(show ∃t,u=Value.str x t from r);subst e;exact kD P w x t
theorem CG{P:De}{w:Be}:∀{ks:List dY}{us:Et},Vals (ks.map kV) us->ItemsAre (gK P w) ks us
 |[],_,r=>by rw[E9]at r;cases r;exact .nil
 |k::ks,_,r=>by
  rw[G2]at r;cases r with
  |cons h t=>exact .cons (ER h)<|CG t
abbrev KT(H:Hp):List (List dY×V)->List (List dY×Hd×Cd)->Prop:=Paired λp q=>p.1=q.1/\H q.2.1=O (.tup<|p.1.map kV)/\RelV p.2 q.2.2
section
variable {P:De}{w:Be}{a:Hd}
theorem KL{u:HO}(ok:HOk P w H h)(e:Rd H a u):ObjOk P w H h a u:=e.ok ok
theorem FR{b:List (dY×V)}(ok:HOk P w H h)(e:Rd H a (.dK b)):b.length<=sizeLine/\(a==Nf)=Er/\∃c,KV b c/\h.DictOf (gK P w) a c:=show ObjOk P w H h a (.dK b) from KL ok e
theorem yN{ks:List dY}(ok:HOk P w H h)(e:H a=O (.tup<|ks.map kV)):(Vi<|gK P w).is h ks a:=by obtain⟨_,be,r,o,b,c,n,d,_⟩:=(show ObjOk P w H h a (.tup<|ks.map kV) from ok a _ e);exact⟨o,be.toArray,n,b,c,d,by simpa using CG r⟩
theorem GR{b:List (List dY×V)}(ok:HOk P w H h)(e:Rd H a (.dT b)):b.length<=sizeLine/\(a==Nf)=Er /\ ∃c,KT H b c/\h.DictOfH (Vi<|gK P w) a c:=by
 obtain⟨z,y,c,r,o,g,i,j,k,v,B,C⟩:=(show ObjOk P w H h a (.dT b) from KL ok e);refine⟨z,y,c,r,o,g,i,j,k,v,B,λx hx=>?_,C⟩;have all:∀{l:List (List dY×V)}{m:List (List dY×Hd×Cd)},KT H l m->∀x∈m,(Vi<|gK P w).is h x.1 x.2.1:=by
  intro l m q;induction q with
  |nil=>intro x hx;exact nomatch hx
  |@cons p q G L d t F =>
   intro x hx;rcases R0.mp hx with e|hx
   .subst e;exact yN ok (by rw[<-d.1];exact d.2.1)
   .exact F x hx
 exact all r x hx
end
section
variable {a:Hd}{y v:V}{r:Cd}{o:Do V}
theorem Inv.big(I:Inv X ae σ H s):Nf<s.heap.objs.size:=by have h:Zd<s.heap.objs.size:=(I.mod.glob.keeps I.bk).lt;exact J8 (by decide) h
end
section
variable {a:Hd}{se:List (dY×V)}{k:dY}
end
def zN(i:Ge):Prop:=∀a b,Nl i Er a b=operate [a,b] (Fi a b)
theorem aE{T id:String}(hl:Ph (.type T) "__getitem__"=pure (O<|.builtin id)) (m:zN k)(h:Ed (Md prog w) A (Cf b env) (λo d=>Ed (Md prog w) A (Cf k env) (λi a=>a.TypeIs o T/\Ed (Md prog w) A (Fi o i) Q E a) E d) E s):Ed (Md prog w) A (Cf (.Subscript b k pos) env) Q E s:=by
 refine Subscript_<|wpAny_mono h (λo d g=>wpAny_mono g (λi a c=>?_) λ_ _ x=>x) λ_ _ x=>x;obtain⟨l,c⟩:=c;unfold Hm;refine Ad ?_;rw[getitemInPython_of_ne l.not_modules];refine Ad<|Kg l hl ?_;have fin:Ed (Md prog w) A (Nl k Er o i) (λr e=>Ed (Md prog w) A (letTemporaryGo b o r >>= λ_=>pure r) Q E e) E a:=by rw[m o i];exact wpAny_operating<|wpAny_mono c (λr e j=>Ad<|wpAny_letTemporaryGo<|Bd j) λ_ _ x=>x
 first
  |exact Bd<|Ad fin
  |exact Ad<|Bd<|Ad fin
  |exact Ad fin
section
variable {o i e value:Ge}{pos af cg:Pos}{td ty tv:TE}
end
section
variable {pos:Pos}
end
structure M1(X:Cx)(o:Ge)(m:Str)(ve:Pos)(e:Ge)(re:Pos):Prop where
 base:Hf o m X.env (Cf o X.env)=Cf o X.env
 few:((Rf re<|Xd [e] X.env).all (λx=>!x.1)&&(Co re<|Pl [] X.env).all (λx=>x.1.isSome)
   && Es (([e]:Rs).length+([]:List Gi).length+(if ([]:List Gi).isEmpty then 0 else 1)<30))=Ep
 line:(ve.endLine==re.line)=Ep
 trees:Rf re (Xd [e] X.env)=[(Er,Cf e X.env)]
structure M2(X:Cx)(o:Ge)(m:Str)(ve:Pos)(e f:Ge)(re:Pos):Prop where
 base:Hf o m X.env (Cf o X.env)=Cf o X.env
 few:((Rf re<|Xd [e,f] X.env).all (λx=>!x.1)&&(Co re<|Pl [] X.env).all (λx=>x.1.isSome)
   && Es (([e,f]:Rs).length+([]:List Gi).length+(if ([]:List Gi).isEmpty then 0 else 1)<30))=Ep
 line:(ve.endLine==re.line)=Ep
 trees:Rf re (Xd [e,f] X.env)=[(Er,Cf e X.env),(Er,Cf f X.env)]
def C_(H:Hp)(a:Hd):Prop:=(∃b,Rd H a<|.dK b)\/∃b,Rd H a (.dT b)
theorem AN(I:Inv X ae σ H s)(d:C_ H a):s.TypeIs (.ref a) "dict"/\(∀b,T2 a=.ref b->∃c,s.heap.get? b=O c/\c.dict=U)/\(a==Nf)=false:=by
 rcases d with⟨k,e⟩|⟨k,e⟩
 .obtain⟨_,hd,l,_,g⟩:=FR I.hok e;refine⟨g.typeIs,λb q=>?_,hd⟩;cases q;obtain⟨c,_,_,i,j,_⟩:=g;exact⟨c,i,j.2.1⟩
 .obtain⟨_,hd,m,_,g⟩:=GR I.hok e;refine⟨g.typeIs,λb q=>?_,hd⟩;cases q;obtain⟨c,_,_,i,j,_⟩:=g;exact⟨c,i,j.2.1⟩
section
variable {a:Hd}{y d:V}{r:Cd}{o:Do V}
end
section
variable {o e f:Ge}{ve re:Pos}{td ty tx:TE}
end
section
variable {a:Hd}{se:List (dY×V)}
end
section
variable {a:Hd}{y:V}
end
end L2
namespace Att
open PySem.W PySem.Calls
theorem tU:∀(ns:Qo) (c:Et),WellAll P h c (ns.map WData.int)->Qe c ns:=by
 intro ns;induction ns with
 |nil=>intro c w;rw[E9]at w;cases w;exact .nil
 |cons n ns d =>
  intro c w;rw[G2]at w;cases w with
  |cons a b=>cases a;exact .cons _ _<|d _ b
theorem Yk{l:OpenLaw}(t:l.most=O n){P:Params}{h:Ke}{args:List WData}{i:Et}(j:l.row.toRowW.claim.pre args=Ep) (e:WellAll P h i args):∃a k ns,i=[T2 a]/\args=[WData.list<|ns.map WData.int]/\h.get? a=O {cls:=.type "list",data:=.seq k.toArray}/\Qe k ns/\ns.length<=n:=by
 have g:WShape.hasAll [] args [.list .int]=true:=(pre_splitW j).1;have m:l.pre.holds [] {args:=args}=true:=(pre_splitW j).2;obtain⟨d,r,rfl,v,w⟩:=hasAllW_cons g;obtain rfl:=hasAllW_nil w;obtain⟨L,rfl,x⟩:=hasW_list v;obtain⟨ns,rfl⟩:=items_int x;have y:ns.length<=n:=by
  unfold OpenLaw.pre at m;have b:(WTm.not<|.lt (.lit<|.int (n:Int))<|.len<|.arg 0).holds [] {args:=[.list<|ns.map .int]}=true:=by have b:=(holds_andW m).1;rw[t]at b;exact b
  have c:=condW_of b<|w_not<|w_lt w_lit<|w_len_list<|w_arg Z;rw[l0]at c;refine E1 λq=>?_;have B:(n:Int)<((ns.length:Nat):Int):=U4.2 q;first
   |(rw[Pd B]at c;exact absurd c<|by decide)
   |(simp at c;omega)
 cases e with
 |cons C F =>
  cases F;cases C with
  |list G ci=>exact⟨_,_,ns,Z,Z,G,tU ns _ ci,y⟩
theorem aw(l:OpenLaw)(args:List WData):l.row.toRowW.claim.post args (.bool Ep) args=true :=
 postW_of (r:=l.row.toRowW) (X:=(Ep==Ep))
  (show WShape.has [] (.bool Ep) .bool=Ep by first|rfl|decide|simp[WShape.has,WShape.arms,WShape.armsAll])
  (show (WTm.eq .res<|.lit<|.bool Ep).value [] {args:=args,res:=O (.bool Ep),after:=args}=O (.bool<|Ep==Ep) from w_eq_bool (w_res Z) w_lit) Z
theorem attach_call{l:OpenLaw}(B:l.most=O n) (C:d.params.defaults=[])(call:∀(w:Be) (c b:Fd) (mg j:Str->Do Cd) (fa:Hd) (o:Obj) (k i m:Cd) (a:Hd) (e:Et) (ns:Qo), Ground q wl [] XP w c mg j b.heap->YP w b.heap -> b.heap.get? fa=O o->o.data=.func (docDef d.name d.params d.body d.scope k i m)->b.heap.CodeRec i d.name->mg d.name=O (.ref fa) -> b.heap.get? a=O {cls:=.type "list",data:=.seq e.toArray}->Qe e ns->ns.length<=n->b.gens=#[] -> Ah (Md l.prog w) Wl (.call (.ref fa) ⟨[.ref a],[]⟩) (λr s'=>r=.ok (.ret<|.bool Ep)/\OldK b.heap s'.heap/\s'.os=b.os/\Hi s'.gens) b):WalkO q wl XP YP l.row.toRowW d [] (λf e=>PySem.call f e):=by
 intro w c b mg j G Y fa o k i m F kV L hd M v hmg P x js as R y S t zp;obtain rfl:F=.none:=Dflts.none v C;obtain rfl:kV=.none:=Dflts.noKw v;obtain⟨a,e,ns,rfl,rfl,g,xn,je⟩:=Yk B R t;refine enter_call<|Hg (call w c b mg j fa o k i m a e ns G Y L (fd_plain hd) M hmg g xn je P) λr s' hq=>?_;obtain⟨rfl,h2,h3,h4⟩:=hq;exact⟨.inl ⟨.bool Ep,.bool Ep,[],Z,λ_=>rfl,.bool Ep,aw l _,λ_=>⟨List.Pairwise.nil,λ_ hm=>(nomatch hm)⟩⟩,h2,h3,h4⟩
section
variable {w:Be}{K:Frag}
end
end Att
namespace L2
theorem DG:∀{a:Et}{ns:Qo},Qe a ns->Vals (ns.map V.int) a
 |_,_,.nil=>.nil
 |_,_,.cons n t h=>.cons ⟨t,Z⟩<|DG h
def BN(H:Hp):Prop:=∀b,H b=U\/∃o a,H b=O (.frz o<|.lst a)
theorem vy{K:M0}(KX:K.In c.heap) (km:c.heap.Ns Zd mg) (g:c.heap.Ns Um mb) (hbb:∀x:Str,x ≠ "__name__"->mb x=Se x) (y:c.heap.NoLimit) (hg:c.gens=#[])(ha:c.heap.get? a=O {cls:=.type "list",data:=.seq t.toArray}) (hi:Qe t ns) (hl:ns.length<=sizeLine) (hr:Room k Wl)(F:∀base:Ke,K.In base->base.Ns Zd mg->FnOk P w K mg base CX k fa fd [x] sp) (l:∀(s:Fd) (u:Cd),Xl s fd ⟨[u],[]⟩ [(x,u)])(mr:∀H:Hp,BN H->SqL K H a (ns.map V.int)->sp [.ref a] H (λv _=>v=.bl Ep) λ_ _ _=>Fo)(hCX:∀H e s',CX [] H c (λ_ _ _=>Fo) e s'->Fo):Ah (Md P w) Wl (.call (.ref fa) ⟨[.ref a],[]⟩) (λr s'=>r=.ok (.ret<|.bool Ep)/\OldK c.heap s'.heap/\s'.os=c.os/\Hi s'.gens) c:=by
 have rv:=DG hi;have B:=hi.length;have j:∀H:Hp,BN H->SqL K H a (ns.map V.int)->HOk P w H c.heap->(∀b,H b≠U->b=a)->(H a≠U->K.lookup a=U) ->
   Ah (Md P w) Wl (.call (.ref fa) ⟨[.ref a],[]⟩) (λr s'=>r=.ok (.ret<|.bool Ep)/\OldK c.heap s'.heap/\s'.os=c.os/\Hi s'.gens) c:=by
  intro H hO hS C hA hK;have ql:∀{b:Hd}{o:Obj},c.heap.get? b=O o->H b=U->(jF c.heap H).get? b=O o:=λe n=>Dv e n;have noA:∀{b:Hd}{o:Obj}{G:Eo Jn}{L:Nat},c.heap.get? b=O o->o.data=.dict G L->H b=none:=λ{b o G L} e d=>by
   cases q:H b with
   |none=>rfl
   |some u=>have e':b=a:=hA b (by rw[q];simp);subst e';rw[ha]at e;cases e;have d':Data.seq t.toArray _=Data.dict G L:=d;cases d'
  have i:∀{b:Hd}{m:Str->Do Cd},c.heap.Ns b m->(jF c.heap H).Ns b m:=λ{b m} ⟨o,G,L,e,d,r⟩=>⟨o,G,L,ql e<|noA e d,d,r⟩;have M:K.In (jF c.heap H):=λb o e=>ql (KX b o e) (by
    cases q:H b with
    |none=>rfl
    |some u=>have e':b=a:=hA b (by rw[q];simp);subst e';rw[hK<|by rw[q];simp]at e;cases e);have hM:Mod K mg (jF c.heap H):=⟨M,i km,⟨mb,i g,hbb⟩,let ⟨mc,h1,h2⟩:=y;⟨mc,i h1,h2⟩⟩;have e0:Env0 P w K mg (jF c.heap H) Wl [] c H:=⟨Z,hM,λb o e=>FC e,V0<|Tk _ _,trivial,λb g=>absurd (show b∈([]:List Hd) from g)<|by simp,C,.of_eq hg⟩;refine Hg ((F _ M<|i km).run Wl [] c H ⟨[.ref a],[]⟩ [.ref a] [.ref a] _ _ hr e0 (l c<|.ref a) (.cons Z .nil)<|mr H hO hS) λr s' h=>?_;cases r with
  |error e=>exact(hCX H e s' h).elim
  |ok fl =>
   cases fl with
   |next=>exact False.elim h
   |brk=>exact False.elim h
   |cont=>exact False.elim h
   |ret u =>
    obtain⟨v,H',os,R,un,S,r',q⟩:=h;have q':v=.bl true:=q;subst q';obtain rfl:u=wX true:=r';refine⟨Z,OldK.of_keep λb o e=>?_,os,R⟩;cases q:H b with
    |none=>exact un.keep b o e q (by intro z;exact absurd (show b∈([]:List Hd) from z)<|by simp) (by simp)
    |some u =>
     rcases hO b with z|⟨ob,xs,z⟩
     .rw[q]at z;cases z
     .have z2:=un.frzs b ob _ z;obtain⟨e1,_⟩:=C b _ z;obtain⟨e2,_⟩:=S b _ z2;rw[e]at e1;cases e1;exact e2
 cases hk:K.lookup a with
 |some o=>have e:=KX a o hk;rw[ha]at e;cases e;refine j (λ_=>U) (λ_=>.inl Z) (.inr ⟨_,t.toArray,_,hk,Z,Z,Z,by rw[S0,B];exact hl,by simpa using rv⟩) (λb u z=>by have Y:(U:Do HO)=O u:=z;cases Y) (λb z=>absurd Z z) λz=>absurd Z z
 |none =>
  refine j (λb=>if b=a then O (.frz {cls:=.type "list",data:=.seq t.toArray}<|.lst<|ns.map V.int) else U) (λb=>?_) (.inl<|.inr ⟨{cls:=.type "list",data:=.seq t.toArray},Jd Z⟩) (λb u z=>?_) (λb z=>?_) λ_=>hk
  .by_cases g:b=a
   .exact .inr ⟨_,_,Jd g⟩
   .exact .inl (Gd g)
  .by_cases g:b=a
   .have Y:=(Jd g).symm.trans z;cases Y;subst g;exact⟨ha,by rw[l0];exact hl,t,_,rv,ha⟩
   .have Y:=(Gd g).symm.trans z;cases Y
  .by_cases g:b=a
   .exact g
   .exact absurd (Gd g) z
theorem walk_of{l:NQ}{K:Params->M0}{CX:Be->fy}{sp:Be->Sp}(C:l.most=O n) (j:n<=sizeLine) (L:d.params.defaults=[]) (M:Room k Wl)(P:∀(w:Be) (h:Ke),YP w h->(K w.params).In h)(F:∀(w:Be) (mg:Str->Do Cd) (fa:Hd) (h:Ke),(K w.params).In h->h.Ns Zd mg->mg d.name=O (.ref fa) -> ∃fd:Tg,(∀(s:Fd) (u:Cd),Xl s fd ⟨[u],[]⟩ [(x,u)]) /\ ∀base:Ke,(K w.params).In base->base.Ns Zd mg->FnOk l.prog w (K w.params) mg base (CX w) k fa fd [x] (sp w))(R:∀(w:Be) (H:Hp) (a:Hd) (ns:Qo),ns.length<=n->BN H->SqL (K w.params) H a (ns.map V.int)->sp w [.ref a] H (λv _=>v=.bl Ep) λ_ _ _=>Fo)(m:∀(w:Be) (H:Hp) (s:Fd) (e:Cd) (s':Fd),CX w [] H s (λ_ _ _=>Fo) e s'->Fo):PySem.W.WalkO q wl XP YP l.row.toRowW d [] (λf t=>PySem.call f t):=by
 refine Att.attach_call C L λw y c mg mb fa o pm cd ah a t ns G Y ho hd xh hmg i S B hg=>?_;have KX:=P w _ Y;obtain⟨fd,hb,hF⟩:=F w mg fa _ KX G.T.g hmg;exact vy KX G.T.g G.T.b G.T.builtins G.T.nolimit hg i S (K0 B j) M hF hb (λH hO hS=>R w H a ns B hO hS) λH e s'=>m w H c e s'
noncomputable def fY(s:Xg):Arguments:=match s with
 | .FunctionDef _ a _ _ _ _ _ _ _ _=>a
 |_=>{posonlyargs:=[],args:=[],vararg:=U,kwonlyargs:=[],kw_defaults:=[],kwarg:=U,defaults:=[]}
noncomputable def PJ(s:Xg):List Xg:=match s with
 | .FunctionDef _ _ b _ _ _ _ _ _ _=>b
 |_=>[]
noncomputable def SX(s:Xg):Bm:=match s with
 | .FunctionDef _ _ _ _ _ _ sc _ _ _=>sc
 |_=>{kind:=.function,names:=[],isGenerator:=Er,isCoroutine:=Er}
noncomputable abbrev mJ:fy:=λ_ _ _ _ _ _=>Fo
noncomputable abbrev E0:XK:=λ_ _ _=>Fo
theorem HR:jz mJ X E0:=λ_ _ _ _ _ _ _ h=>h.elim
structure Fun(K:M0)(x qual:Str)(st:Xg)(f:Hd)(fd:Tg):Prop where
 ex:∃(oc:Cd) (od:Do Hd) (kV ah pm:Cd) (an:Do Hd) (ke ct:Cd) (cm:Eo (Do Cd)),
  fd=u7 x qual (fY st) (PJ st) (SX st) .none kV ah pm an ke ct/\K.lookup f=O ⟨oc,od,.func fd,cm⟩/\M9 K ke qual=Ep
 kp:i7 K (.ref f)=Ep
section
variable {P:De}{w:Be}{K:M0}{mg:Str->Do Cd}{base:Ke}
theorem Fun.ok{st:Xg}(F:Fun K x qual st f fd)(S:FnScope N ps (SX st))(len:∀a H Q E,c a H Q E->a.length=ps.length)(d:∀(b:Cd) (A:Eg) (outer:List Env) (s:Fd) (H:Hp) (a:List V) (Q:VK) (E:XK),Room k (A.deeper<|Yh qual (SX st) s.heap.objs.size f b)->c a H Q E -> ∃t,PSs (lF mJ P w K mg base N qual (SX st) f b A outer s H E).nox (PJ st) t/\t {nx:=λ_ e=>Q .non e,rt:=Q} (start N a) H):FnOk P w K mg base mJ (k+1) f fd ps c:=by
 obtain⟨m,od,kV,v,y,B,b,C,G,rfl,g,i⟩:=F.ex;refine wR g i S len λA outer s H a Q E j l=>?_;obtain⟨t,h,q⟩:=d b A outer s H a Q E j l;exact⟨t,h.nox,q⟩
theorem Fun.binds{st:Xg}(F:Fun K x qual st f fd)(h:∀(kV a b:Cd) (c:Do Hd) (d e:Cd) (us:Et),us.length=ps.length->bindArgs (u7 x qual (fY st) (PJ st) (SX st) .none kV a b c d e) ⟨us,[]⟩=pure (ps.zip us)):Binds K fd ps []:=by
 obtain⟨g,od,kV,a,b,c,d,e,i,rfl,j,k⟩:=F.ex;exact .all<|h kV a b c d e
theorem CN{st:Xg}{od:Do Hd}{kV:Cd}(l:K.lookup f=O ⟨oc,od,.func<|u7 x qual (fY st) (PJ st) (SX st) .none kV ah pm an ke ct,cm⟩)(c:M9 K ke qual=Ep) (k:i7 K (.ref f)=Ep):Fun K x qual st f (u7 x qual (fY st) (PJ st) (SX st) .none kV ah pm an ke ct):=⟨⟨oc,od,kV,ah,pm,an,ke,ct,cm,Z,l,c⟩,k⟩
end
theorem RZ{A:Prop}[Decidable c](a:c->A)(b:¬c->B):if c then A else B:=by
 by_cases h:c
 .rw[Jd h];exact a h
 .rw[Gd h];exact b h
section
variable {κ:Type}[DecidableEq κ]
end
noncomputable def gY(a:List (Str×Hd)):List (Str×Jg)->List (Str×Hd)->List (Str×Hd)
 |[],b=>b
 |(n,k)::r,b=>gY a r (if k==.free then (n,(a.lookup n).getD 0)::b else b)
theorem VU(h:∀y∈sc.names,y.2=.free->∃c,env.cells.lookup y.1=O c):closureFor sc env=pure (gY env.cells sc.names []):=by
 have go:∀(l:List (Str×Jg)) (b:List (Str×Hd)),(∀y∈l,y.2=.free->∃c,env.cells.lookup y.1=O c) ->
   (forIn l b λ(x:Str×Jg) r=>(if (x.2==NameKind.free)=Ep then (do let a<-cellOf env x.1;pure (ForInStep.yield ((x.1,a)::r))) else pure (ForInStep.yield r):Sem (ForInStep<|List<|Str×Hd)))=pure (gY env.cells l b):=by
  intro l;induction l with
  |nil=>intro b _;rfl
  |cons y r i =>
   intro b hl;obtain⟨n,k⟩:=y;rw[OQ];by_cases d:(k==NameKind.free)=Ep
   .obtain⟨c,g⟩:=hl (n,k) G0 (by simpa using d);have g:env.cells.lookup n=O c:=g;simp only[d,if_true,cellOf,g,pure_bind,gY,c7];exact i _ λy hy=>hl y<|q0 _ hy
   .simp only[d,if_false,pure_bind,gY];exact i _ λy hy=>hl y<|q0 _ hy
 have e:=go sc.names [] h;unfold closureFor;show (forIn sc.names [] _ >>= λj=>pure j)=_;rw[show (forIn sc.names ([]:List (Str×Hd)) λ(x:Str×Jg) r=>(match x with|(name,kind)=>if (kind==NameKind.free)=Ep then (do let a<-cellOf env name;pure (ForInStep.yield ((name,a)::r))) else pure (ForInStep.yield r):Sem (ForInStep<|List<|Str×Hd)))=pure (gY env.cells sc.names []) from e];rfl
theorem IY{a:List (Str×Hd)}{x:Str}{c:Hd}:∀{l:List (Str×Jg)}{d:List (Str×Hd)},(∀y∈l,y.2=.free->∃c,a.lookup y.1=O c)->(gY a l d).lookup x=O c -> d.lookup x=O c\/a.lookup x=O c
 |[],d,_,h=>.inl h
 |(n,k)::r,d,hl,h=>by
  have b:=IY (l:=r) (λy hy=>hl y<|q0 _ hy) h;rcases b with b|b
  .by_cases i:(k==NameKind.free)=Ep
   .rw[Jd i,Q5]at b;obtain⟨j,g⟩:=hl (n,k) G0 (by simpa using i);have g:a.lookup n=O j:=g;cases e:x==n with
    |true =>
     rw[e]at b;have:x=n:=by simpa using e
     subst this;simp only[g,c7,Option.some.injEq]at b;subst b;exact .inr g
    |false=>rw[e]at b;exact .inl b
   .rw[Gd i]at b;exact .inl b
  .exact .inr b
theorem WU{cells:List (Str×Hd)}{x:Str}:∀{l:List (Str×Jg)}{acc:List (Str×Hd)},((∃c,acc.lookup x=O c)\/l.lookup x=O .free)->∃c,(gY cells l acc).lookup x=O c
 |[],acc,h=>by
  rcases h with h|h
  .exact h
  .simp at h
 |(n,k)::r,acc,h=>by
  refine WU (l:=r) ?_;rcases h with⟨c,h⟩|h
  .left;by_cases a:(k==NameKind.free)=Ep
   .rw[Jd a,Q5];cases x==n with
    |true=>exact⟨_,Z⟩
    |false=>exact⟨c,h⟩
   .rw[Gd a];exact⟨c,h⟩
  .rw[Q5]at h;cases e:x==n with
   |true=>rw[e]at h;have a:k=.free:=O2 h;left;subst a;rw[Jd<|by decide,Q5,e];exact⟨_,Z⟩
   |false=>rw[e]at h;exact .inr h
theorem JY{env:Env}{x:Str}:∀{a:List (Str×Jg)}, (a.map λ(n,k)=>if (k==NameKind.free&&env.scope.kind==.function&&env.kindOf n==O .cell) then (n,NameKind.cell) else (n,k)).lookup x = (a.lookup x).map λk=>if (k==NameKind.free&&env.scope.kind==.function&&env.kindOf x==O .cell) then .cell else k
 |[]=>rfl
 |(n,k)::r=>by
  have c:=@JY env x r;rw[G2];show V9 x ((if (k==NameKind.free&&env.scope.kind==.function&&env.kindOf n==O .cell)=Ep then (n,NameKind.cell) else (n,k))::_)=_;cases hx:x==n with
  |true =>
   have e:x=n:=by simpa using hx
   subst e;by_cases b:(k==NameKind.free&&env.scope.kind==.function&&env.kindOf x==O .cell)=Ep
   .rw[Jd b];simp only[Q5,hx,X6];rw[Jd b]
   .rw[Gd b];simp only[Q5,hx,X6];rw[Gd b]
  |false =>
   by_cases b:(k==NameKind.free&&env.scope.kind==.function&&env.kindOf n==O .cell)=Ep
   .rw[Jd b];simp only[Q5,hx];exact c
   .rw[Gd b];simp only[Q5,hx];exact c
theorem KY(sc:Bm)(env:Env)(x:Str):(On sc env).names.lookup x=(sc.names.lookup x).map λk=>if (k==NameKind.free&&env.scope.kind==.function&&env.kindOf x==O .cell) then .cell else k:=JY
theorem iY:∀(a:List (Str×Jg)) (n:Nat) (b:List (Str×Hd)),Je n a b=Je n a []++b
 |[],_,_=>rfl
 |(x,k)::r,n,b=>by
  unfold Je;split
  .rw[iY r (n+1) ((x,n)::b),iY r (n+1) [(x,n)],V2];rfl
  .exact iY r n b
theorem XU{x:Str}{c:Hd}:∀(a:List (Str×Jg)) (n:Nat),(x,c)∈Je n a []->(x,NameKind.cell)∈a/\n<=c
 |[],_,h=>by cases h
 |(y,k)::r,n,h=>by
  unfold Je at h;split at h
  .rename_i b;have b:k=.cell:=by simpa using b
   rw[iY,B2]at h;rcases h with h|h
   .have:=XU r (n+1) h;exact⟨q0 _ this.1,Y0 this.2⟩
   .have h:(x,c)=(y,n):=by simpa using h
    cases h;subst b;exact⟨G0,P0 _⟩
  .have:=XU r n h;exact⟨q0 _ this.1,this.2⟩
theorem aK{x:Str}:∀{l m:List (Str×α)},(l++m).lookup x=(l.lookup x).or (m.lookup x)
 |[],_=>rfl
 |(y,v)::l,m=>by
  rw[m8,Q5,Q5];cases x==y with
  |true=>rfl
  |false=>exact aK
theorem HV{Q:Env->Fd->Prop}(c:Q (newEnv scope s.heap.objs.size globals (Je (s.heap.objs.size+1) scope.names closure) qual U .none (O env) Um) {s with heap:=pushCells (s.heap.push {cls:=.type "dict",data:=.dict #[]}) scope.names}):Ed M A (Vl scope globals closure [] qual U .none<|O env) Q E s:=by
 simp only[Vl,Option.isSome_some,if_true];refine Ad<|wpAny_alloc ?_;refine Ad<|wpAny_layCells _ (λname kind a=>by cases b:kind==NameKind.cell<;>simp[b]) _ _ _ _ ?_;rw[show ({s with heap:=s.heap.push {cls:=.type "dict",data:=.dict #[]}}:Fd).heap.objs.size=s.heap.objs.size+1 from Z1 ..];refine Ad ?_;rw[fX];exact Bd<|Bd c
noncomputable def IR(N:Oo)(fr:Os):Oo:=fr.map λi=>N.getD i Str.empty
noncomputable def cR(σ:St)(fr:Os):St:=fr.map λi=>(σ[i]?).getD U
noncomputable def nZ(X:Cx)(own:Oo)(fr:Os)(sc:Bm)(C:Hd)(s:Fd)(H:Hp)(ex:List Hd):Cx where
 prog:=X.prog
 w:=X.w
 K:=X.K
 mg:=X.mg
 base:=X.base
 A:=X.A
 N:=own++IR X.N fr
 s₀:=s
 H₀:=H
 env:=compEnvC sc (Je (C+1) sc.names<|gY X.env.cells sc.names []) C X.env
 outer:=X.stack
 stack:=X.stack
 ex:=ex
 fn:=λx=>sc.names.lookup x==O .cell
 calm:=X.calm
 pn:=[]
 xe:=λ_ _=>Fo
noncomputable def DN(own:Oo)(σ:St)(fr:Os):St:=own.map (λ_=>U)++cR σ fr
structure CompSc(X:Cx)(own:Oo)(fr:Os)(sc:Bm):Prop where
 kind:sc.kind=.function
 cells:∀y∈sc.names,y.2=.cell->sc.names.lookup y.1=O .cell
 loc:∀y∈sc.names,y.2=.local->sc.names.lookup y.1=O .local
 free:∀y∈sc.names,y.2=.free->X.env.kindOf y.1=O .cell\/X.env.kindOf y.1=O .free
 fr:∀i∈fr,∃x,X.N[i]?=O x/\sc.names.lookup x=O .free
theorem tz{C D:Hd}(S:CompSc X own fr sc) (I:Inv X ae σ H s) (hf:∀b∈fp,qU X ae H b) (hfo:∀b∈fp,∃o,s.heap.get? b=O o) (w:s.heap.objs.size<=C) (hD:s.heap.objs.size<=D) (hDC:D≠C) (hn:M.Ns C λx=>([]:List (Str×Cd)).reverse.lookup x)(P:∀b o,s.heap.get? b=O o->M.get? b=O o) (cf:∀x c,(x,c)∈Je (C+1) sc.names []->M.IsCell c U) (hap:(Je (C+1) sc.names []).Pairwise λx y=>x.2≠y.2) (hoD:M.get? D=O oD) (hdD:∀v,oD.data≠.cell v):Inv (nZ X own fr sc C s H fp) [(D,oD)] (DN own σ fr) H {s with heap:=M,toks:=tk}:=by
 have vh:∀y∈sc.names,y.2=.free->∃c,X.env.cells.lookup y.1=O c:=λy hy e=>I.ok.has y.1<|S.free y hy e;have Y:∀x c,(gY X.env.cells sc.names []).lookup x=O c->X.env.cells.lookup x=O c:=λx c e=>by
  rcases IY vh e with z|z
  .simp at z
  .exact z
 have g:∀x c,(Je (C+1) sc.names<|gY X.env.cells sc.names []).lookup x=O c->(x,c)∈Je (C+1) sc.names []\/X.env.cells.lookup x=O c:=λx c e=>by
  rw[iY,aK]at e;cases q:(Je (C+1) sc.names []).lookup x with
  |none=>rw[q]at e;exact .inr<|Y x c e
  |some B=>rw[q]at e;cases e;exact .inl<|PySem.mem_of_lookup q
 have new:∀x c,(x,c)∈Je (C+1) sc.names []->C+1<=c:=λx c h=>(XU _ _ h).2;have t:∀x c,X.env.cells.lookup x=O c->c<s.heap.objs.size:=λx c e=>by obtain⟨v,q⟩:=I.cell x c e;exact q.lt
 have kin:∀x k,(On sc X.env).names.lookup x=O k->k=.cell\/k=.free->sc.names.lookup x=O .free\/sc.names.lookup x=O .cell:=λx k e P=>by
  rw[KY]at e;cases q:sc.names.lookup x with
  |none=>rw[q]at e;cases e
  |some j =>
   rw[q,X6,Option.some.injEq]at e;by_cases hj:j=.free
   .rw[hj];exact .inl Z
   .have mf:(j==NameKind.free)=false:=by simpa using hj
    rw[mf,eX,eX,Gd<|by simp]at e;subst e;rcases P with z|z
    .rw[z];exact .inr Z
    .exact absurd z hj
 have kout:∀x,sc.names.lookup x=O .free->((On sc X.env).names.lookup x=O .cell\/(On sc X.env).names.lookup x=O .free):=λx e=>by
  rw[KY,e,X6];by_cases h:(NameKind.free==NameKind.free&&X.env.scope.kind==.function&&X.env.kindOf x==O .cell)=Ep
  .rw[Jd h];exact .inl Z
  .rw[Gd h];exact .inr Z
 have okc:∀b∈fp,b<s.heap.objs.size:=λb F=>by obtain⟨o,e⟩:=hfo b F;exact Q0 e
 have fresh:∀{a:Hd},s.heap.objs.size<=a->H a=none:=λh=>I.hok.fresh h;have ok:(nZ X own fr sc C s H fp).Ok:={
   mod:=I.ok.mod
   kind:=S.kind
   glob:=I.ok.glob
   blt:=I.ok.blt
   above:=w
   inj:=λx y c M h2=>by
     have w:s.heap.objs.size<=C:=w;rcases g x c M with a|a<;>rcases g y c h2 with b|b
     . exact name_of_addr hap a b
     . have:=new x c a;have:=t y c b;exact absurd (u0 (t y c b)<|K0 w<|T6<|new x c a)<|P4 _
     . exact absurd (u0 (t x c a)<|K0 w<|T6<|new y c b)<|P4 _
     . exact I.ok.inj x y c a b
   has:=λx hx=>by
     have hx:sc.names.lookup x=O .free\/sc.names.lookup x=O .cell:=by
       rcases hx with hx|hx
       . exact kin x _ hx<|.inl Z
       . exact kin x _ hx<|.inr Z
     show ∃c,(Je (C+1) sc.names<|gY X.env.cells sc.names []).lookup x=O c;rw[iY,aK];rcases hx with hx|hx
     . obtain⟨c,e⟩:=WU (cells:=X.env.cells) (x:=x) (l:=sc.names) (acc:=[])<|.inr hx;rw[e];cases (Je (C+1) sc.names []).lookup x with
       |none=>exact⟨c,Z⟩
       |some B=>exact⟨B,Z⟩
     . obtain⟨c,e⟩:=VW (n:=C+1) hx;rw[e];exact⟨c,Z⟩
   cab:=λx c h e=>by
     have h:sc.names.lookup x=O .cell:=by simpa [nZ]using h
     have e:(Je (C+1) sc.names<|gY X.env.cells sc.names []).lookup x=O c:=e;obtain⟨B,q⟩:=VW (n:=C+1) h;rw[iY,aK,q]at e;cases e;exact K0 w (T6<|new x _<|PySem.mem_of_lookup q)
   hd:=I.ok.hd
   frames:=I.ok.frames
   stk:=.inl Z
   exf:=λb F=>⟨X0<|u0 (okc b F) w,λx c e=>by
     rcases g x c e with z|z
     . exact G4<|u0 (okc b F)<|K0 w<|T6<|new x c z
     . exact(hf b F).2.2.2.2.1 x c z⟩
   bs:=I.bs
   bsz:=K0 I.ok.bsz I.sz
   noex:=λb o e F=>by
     rcases (hf b F).2.2.2.1 with z|z
     . exact I.ok.noex b o e z
     . exact absurd (u0 (Q0 e)<|K0 I.ok.bsz z) (P4 _)
   exfs:=λb F R=>by
     rcases R0.mp (I.stkSub b R) with z|z
     . exact(hf b F).2.1 z
     . exact(hf b F).2.2.1 z
   funs:=I.stack
   frf:=I.stkFree};refine⟨ok,Z,I.bare,Un.kept P,⟨_,hn,λi x v G d e3=>?_⟩,λx c e=>?_,fresh w,λx c e=>?_,λp hp=>?_,I.hok.kept P,?_⟩
 .have G:(own++IR X.N fr)[i]?=O x:=G;have d:(own.map (λ_=>(U:Do V))++cR σ fr)[i]?=O (O v):=d;by_cases hi:i<own.length
  .rw[A4 (by simpa using hi),Z0]at d;cases q:own[i]? with
   |none=>rw[q]at d;cases d
   |some z=>rw[q]at d;cases d
  .rw[W2<|E1 hi]at G;rw[W2 (by simpa using hi),l0]at d;unfold IR at G;unfold cR at d;rw[Z0]at G d;cases q:fr[i-own.length]? with
   |none=>rw[q]at G;cases G
   |some j =>
    rw[q,X6,Option.some.injEq]at G d;obtain⟨y,hy,L⟩:=S.fr j<|A3 q;rw[G1,hy,c7]at G;subst G;have e2':σ[j]?=O (O v):=by
     cases r:σ[j]? with
     |none=>rw[r]at d;cases d
     |some z=>rw[r,c7]at d;rw[d]
    have hkf:X.env.kindOf y=O .cell\/X.env.kindOf y=O .free:=S.free (y,.free) (PySem.mem_of_lookup L) Z;obtain⟨m,R,hl⟩:=I.loc;have vis:GL X.env.scope y:=by
     rcases hkf with z|z
     .exact .inr (.inl z)
     .exact .inr (.inr z)
    obtain⟨u,r,l⟩:=hl j y v hy e2' vis;refine⟨u,r,?_⟩;rcases l with⟨k,_⟩|⟨k,c,hc,z⟩
    .rcases hkf with k'|k'<;>rw[k]at k'<;>cases k'
    .refine .inr ⟨kout y L,?_⟩;obtain⟨B,ue⟩:∃B,(gY X.env.cells sc.names []).lookup y=O B:=WU<|.inr L;have:B=c:=O2<|(Y y B ue).symm.trans hc;subst this;obtain⟨o,ho,hd⟩:=z;refine⟨B,?_,o,P _ _ ho,hd⟩;show (Je (C+1) sc.names<|gY X.env.cells sc.names []).lookup y=O B;rw[iY,aK,ue];cases q:(Je (C+1) sc.names []).lookup y with
     |none=>rfl
     |some c2=>have:=S.cells _ (XU _ _<|PySem.mem_of_lookup q).1 Z;rw[L]at this;cases this
 .rcases g x c e with z|z
  .exact⟨_,cf x c z⟩
  .obtain⟨v,o,ho,hd⟩:=I.cell x c z;exact⟨v,o,P _ _ ho,hd⟩
 .rcases g x c e with z|z
  .exact fresh (K0 w<|T6<|new x c z)
  .exact I.freeC x c z
 .have e:p=(D,oD):=by
   have:p∈([]:Op)++[(D,oD)]:=hp;simpa using this
  subst e;refine⟨hoD,fresh hD,hDC,λR=>?_,hdD⟩;have R:D∈Lj X.stack:=R;obtain⟨_,o,ho,_⟩:=I.stack.mem R;exact absurd (u0 (Q0 ho) hD)<|P4 _
 .show (own.map (λ_=>(U:Do V))++cR σ fr).length=(own++IR X.N fr).length;simp[cR,IR]
theorem wy{g:St}{C D:Hd}(I:Inv X ae σ H s) (hf:∀b∈fp,qU X ae H b) (l:s.heap.objs.size<=C) (v:s.heap.objs.size<=D) (i:D≠C)(J:Inv (nZ X own fr sc C s H fp) [(D,oD)] g H' s') (y:oD={cls:=.type "list",data:=.seq us.toArray n}) (r:Vals ys us) (B:ys.length<=sizeLine):Inv X ae σ (gJ H' D<|.lst ys) s'/\(∃m,s'.heap.Ns C m)/\qU X ae (gJ H' D<|.lst ys) C:=by
 have t:=J.pin (D,oD) (by simp[nZ]);have a:H' D=none:=t.2.1;have u:Un (Lj X.stack) fp H H' s.heap s'.heap:=J.base;have lt:∀b o,s.heap.get? b=O o->b≠D:=λb o e=>X0<|u0 (Q0 e) v;have F:Un (Lj X.stack) fp H (gJ H' D<|.lst ys) s.heap s'.heap :=
  ⟨u.keep,u.slot,λb o e n hx=>by rw[bZ<|lt b o e];exact u.free b o e n hx,u.there,λb j e=>by rw[bZ<|eZ (u.tups b j e) a];exact u.tups b j e,
    λb o x e=>by rw[bZ<|eZ (u.frzs b o x e) a];exact u.frzs b o x e,λb G e=>by obtain⟨L,q⟩:=u.tbls b G e;exact⟨L,by rw[bZ<|eZ q a];exact q⟩⟩;have k:HOk X.prog X.w (gJ H' D<|.lst ys) s'.heap:=λb o e=>by
  by_cases d:b=D
  .subst d;rw[uZ]at e;cases e;exact⟨B,us,n,r,by rw[<-y];exact t.1⟩
  .rw[bZ d]at e;exact(J.hok b o e).stay (λ_ _ _ q=>q) (λc q=>by rw[bZ<|eZ q a];exact q) λc j q=>by rw[bZ<|eZ q a];exact q
 refine⟨I.call' (ch:=fp) J.os F k J.bare λb d=>?_,?_,?_⟩
 .obtain⟨f0,M,f2,P,R,S⟩:=hf b d;exact⟨P,M,R,S⟩
 .obtain⟨m,Y,_⟩:=J.loc;exact⟨m,Y⟩
 .have vh:H' C=none:=J.free;refine⟨by rw[bZ<|L5 i];exact vh,?_⟩;exact(I.fpOk l<|I.hok.fresh l).2
theorem LY{it:Cd}(I:Nat->Fd->Prop)
  (turn:∀n s,I n s->Ed (Md prog w) A (Bf it) (λr a=>match r with
    |none=>R (.ok .next) a
    | some v=>Ed (Md prog w) A (Vh dh it v) (λ_ b=>Ed (Md prog w) A (Li dh env v) (λ_ e =>
        Ed (Md prog w) A (forIn jg Ep λc r=>if r=Ep then do let ok<-Vn c env (Cf c env);pure (ForInStep.yield ok) else pure (ForInStep.yield r)) (λok d =>
          if ok=Ep then Ed (Md prog w) A (Cf fg env) (λx g=>Ed (Md prog w) A (call (.builtin "list.append") [acc,x]) (λ_ i=>∃m,m<n/\I m i) (λ_ _=>Fo) g) (λ_ _=>Fo) d
          else ∃m,m<n/\I m d) (λ_ _=>Fo) e) (λ_ _=>Fo) b) (λ_ _=>Fo) a) (λ_ _=>Fo) s)
  (n:Nat) (h:I n s) :
  Ah (Md prog w) A (.compLoop (.ListComp fg [⟨dh,me,jg,0⟩] scope pos) 0 it acc env) R s:=by
 refine codeAny_loop Z I (λn s B=>?_) n h;show Ed _ A ((compTurn (.ListComp fg [⟨dh,me,jg,0⟩] scope pos) 0 it acc env).onRaise<|λx=>do noteFrame x env;theTreesLotGoes x) _ _ s;refine wpAny_noted ?_;rw[compTurn_list];refine Ad<|Cm<|Ad<|wpAny_mono (turn n s B) (λr a j=>?_) λ_ _ h'=>h'.elim;cases r with
 |none=>exact Bd j
 |some v =>
  refine Ad<|wpAny_mono j (λ_ b l=>?_) λ_ _ h'=>h'.elim;refine Ad<|wpAny_mono l (λ_ e q=>Ad<|wpAny_mono q (λok d k=>?_) λ_ _ h'=>h'.elim) λ_ _ h'=>h'.elim;cases ok with
  |false=>exact Bd ⟨Z,k⟩
  |true=>exact Ad<|Ad<|wpAny_mono k (λx g t=>Ad<|wpAny_mono t (λ_ i y=>Bd<|Bd ⟨Z,y⟩) λ_ _ h'=>h'.elim) λ_ _ h'=>h'.elim
def xy(X:Cx)(jg:Rs)(t:TT):Prop :=
 ∀(ae:Op) (s:Fd) (σ:St) (H:Hp) (Q:Bool->Hp->Prop),Inv X ae σ H s->t σ H Q ->
  Ed (Md X.prog X.w) X.A (forIn jg Ep λc r=>if r=Ep then do let ok<-Vn c X.env (Cf c X.env);pure (ForInStep.yield ok) else pure (ForInStep.yield r)) (TP X ae σ Q) X.xe s
def JR:TT:=λ_ H Q=>Q Ep H
theorem EN:xy X [] JR:=λ_ _ _ H _ I h=>wpAny_tests_nil ⟨H,I,h⟩
theorem FN(h:PT X c t):xy X [c] t:=λae s σ H Q I hw=>wpAny_tests_one<|h ae s σ H Q I hw
def LL(q:TI)(own:Oo)(fr:Os)(g:TG)(t:TT)(v:TE):TE:=λσ H Q=>q σ H λJ w=>∃W:Nat->Nat->List V->St->Hp->Prop,(∃m,W 0 m [] (DN own σ fr) w)/\∀i m ys e H,W i m ys e H ->
 (J.stop i H/\∀D,H D=U->Q (.ref D) (gJ H D<|.lst ys)) \/
 (J.go i H/\ys.length<sizeLine/\∃N:List V->St->Hp->Prop,(∀j c d,N j c d->∃k,k<m/\W (i+1) k j c d)/\∀x d,J.yld i H x d->g x e d λa B=>t a B λb l=>if b=Ep then v a l λy C=>N (ys++[y]) a C else N ys a l)
theorem bw{D:Hd}(I:Inv X ([(D,{cls:=.type "list",data:=.seq us.toArray k})]++g) σ H s) (t:X.s₀.heap.objs.size<=D) (y:∀x c,X.env.cells.lookup x=O c->c≠D) (B:∀p∈X.pn++g,p.1≠D) (C:us.length<sizeLine)(h:∀d s',Inv X ([(D,{cls:=.type "list",data:=.seq (us++[u]).toArray d})]++g) σ H s'->Q .none s'):Ed (Md X.prog X.w) X.A (call (.builtin "list.append") [.ref D,u]) Q E s:=by
 obtain⟨e,i,hL,l,_⟩:=I.pin (D,{cls:=.type "list",data:=.seq us.toArray k})<|B1 _<|Y3 _<|T1.mpr Z;dsimp only at e i hL l;have G:Inv X g σ H s:=I.pins_of λp j=>I.pin p<|B1 _<|B1 _ j;refine Gg F.slot_list_append ⟨_,e,Z⟩ F.entry_list_append (F.args_list_append_2 _ _) (PySem.list_append D us.toArray k u<|by rw[S0];exact Y0 C) ⟨e,?_⟩;have q:=PySem.IsL.update e λa=>a.push u;rw[show us.toArray.push u=(us++[u]).toArray by simp]at q;have m:Inv X g σ H {s with heap:=s.heap.update D (U3 λa=>a.push u),toks:=s.toks}:=G.turned (it:=D) (λb o L M=>(P7 s.heap (U3 λa=>a.push u)<|L5 L).trans M) i hL (.inr t) y B;obtain⟨d,q⟩:∃d,(s.heap.update D<|U3 λa=>a.push u).get? D=O {cls:=.type "list",data:=.seq (us++[u]).toArray d}:=⟨_,q⟩;refine h d _<|m.pins_of (pins':=[(D,{cls:=.type "list",data:=.seq (us++[u]).toArray d})]++g) λp j=>?_;rcases B2.mp j with z|z
 .have z:p=_:=T1.mp z;subst z;exact⟨q,i,hL,l,λv z=>by cases z⟩
 .exact m.pin p (B1 _ z)
theorem YU{Q:VK}{RR:Cd->Hd->Nm->Fd->Prop}(hc:X.calm=Ep) (S:CompSc X own fr sc) (I2:Inv X ae σ F a) (T:Turn X.prog X.w X.K tg J fp it tn) (qi:tn 0 a.heap) (f2:∀b∈fp,qU X ae F b)(hg:∀C ex,PG (nZ X own fr sc C a F ex) tg g) (gi:∀C ex,xy (nZ X own fr sc C a F ex) jg tc) (he:∀C ex,PE (nZ X own fr sc C a F ex) fg te)(W:Nat->Nat->List V->St->Hp->Prop) (m0:Nat) (w0:W 0 m0 [] (DN own σ fr) F)(turn:∀i m ys M H,W i m ys M H->(J.stop i H/\∀D,H D=U->Q (.ref D) (gJ H D<|.lst ys)) \/(J.go i H/\ys.length<sizeLine/\∃N:List V->St->Hp->Prop,(∀P τ' t,N P τ' t->∃m',m'<m/\W (i+1) m' P τ' t)/\∀x t,J.yld i H x t->g x M t λR F=>tc R F λb H3=>if b=Ep then te R H3 λy H4=>N (ys++[y]) R H4 else N ys R H3))(hRR:∀D C H s',Inv X ae σ H s'->Q (.ref D) H->(∃m,s'.heap.Ns C m)->qU X ae H C->RR (.ref D) C (.ok .next) s'):Ed (Md X.prog X.w) X.A (newList []) (λacc B=>Ed (Md X.prog X.w) X.A (Vl sc X.env.globals (gY X.env.cells sc.names []) [] X.env.qual U .none<|O X.env) (λcenv s₄=>Ah (Md X.prog X.w) X.A (.compStart (.ListComp fg [⟨tg,me,jg,0⟩] sc pos) 0 (.ref it) acc {cenv with scope:=On sc X.env}) (RR acc cenv.locals) s₄) E B) E a:=by
 refine Fe<|HV ?_;dsimp only;generalize hH2:a.heap.push {cls:=.type "list",dict:=U,data:=.seq ([]:Et).toArray}=G;generalize hh1:pushCells (G.push {cls:=.type "dict",data:=.dict #[]}) sc.names=j;have kp:∀b o,(G.push {cls:=.type "dict",data:=.dict #[]}).get? b=O o->j.get? b=O o:=λb o e=>hh1 ▸ pushCells_keeps _ _ b o e;have Y:j.Ns G.objs.size λx=>([]:List (Str×Cd)).reverse.lookup x:=(Heap.Ns.new G<|.type "dict").keeps kp;have cok:CellsOk j (G.objs.size+1) (Je (G.objs.size+1) sc.names []):=by have:=cellsFrom_ok sc.names (G.push {cls:=.type "dict",data:=.dict #[]}) (G.objs.size+1) [] ⟨λ_ _ hm=>(nomatch hm),List.Pairwise.nil⟩ (by rw[Z1];exact P0 _);rw[Z1,hh1]at this;exact this
 have hC:G.objs.size=a.heap.objs.size+1:=by rw[<-hH2,Z1]
 have xl:a.heap.objs.size<=G.objs.size:=by rw[hC];exact k6 _
 have hDC:a.heap.objs.size≠G.objs.size:=by rw[hC];exact X0<|S2 _
 have old:∀b o,a.heap.get? b=O o->j.get? b=O o:=λb o e=>kp b o<|j0 _<|hH2 ▸ j0 _ e;have yf:j.get? a.heap.objs.size=O {cls:=.type "list",data:=.seq ([]:Et).toArray}:=kp _ _<|j0 _<|hH2 ▸ O0 _ Z;have st0':tn 0 j:=T.keep _ _ _ qi λb l o e=>old b o e;have fo:∀b∈fp,∃o,a.heap.get? b=O o:=λb l=>let ⟨o,e,_⟩:=T.obj _ _ qi b l;⟨o,e⟩;have flt:∀b∈fp,b<a.heap.objs.size:=λb l=>by obtain⟨o,e⟩:=fo b l;exact Q0 e
 have clb:∀x c,(gY X.env.cells sc.names []).lookup x=O c->X.env.cells.lookup x=O c:=λx c e=>by
  rcases IY (λy hy e=>I2.ok.has y.1<|S.free y hy e) e with z|z
  .simp at z
  .exact z
 have clb2:∀(C':Hd) x c,(Je (C'+1) sc.names<|gY X.env.cells sc.names []).lookup x=O c->C'+1<=c\/X.env.cells.lookup x=O c:=λC' x c e=>by
  rw[iY,aK]at e;cases q:(Je (C'+1) sc.names []).lookup x with
  |none=>rw[q]at e;exact .inr<|clb x c e
  |some c'=>rw[q]at e;cases e;exact .inl (XU _ _<|PySem.mem_of_lookup q).2
 have stt:∀C':Hd,a.heap.objs.size<=C'->∀{t:Hp}{pl:Op},(∀b∈fp,t b=U)->(∀p∈pl,a.heap.objs.size<=p.1)->∀b∈fp,qU (nZ X own fr sc C' a F fp) pl t b:=λC' hC' t pl hn hp b l=>by
  have I0:=f2 b l;refine⟨hn b l,X0<|u0 (flt b l) hC',λhm=>?_,.inl l,λx c e=>by
      rcases clb2 C' x c e with z|z
      . exact G4<|u0 (flt b l)<|K0 hC'<|T6 z
      . exact I0.2.2.2.2.1 x c z,λp vm=>?_⟩
  .rcases R0.mp (I2.stkSub b hm) with z|z
   .exact I0.2.1 z
   .exact I0.2.2.1 z
  .have vm:p∈pl:=by
    have:p∈([]:Op)++pl:=vm;simpa using this
   exact G4<|u0 (flt b l)<|hp p vm
 have loop:∀B:Fd,B={a with heap:=j,toks:=a.toks} ->
   Ah (Md X.prog X.w) X.A (.compLoop (.ListComp fg [⟨tg,me,jg,0⟩] sc pos) 0 (.ref it) (.ref a.heap.objs.size)<|compEnvC sc (Je (G.objs.size+1) sc.names<|gY X.env.cells sc.names []) G.objs.size X.env)
    (RR (.ref a.heap.objs.size) G.objs.size) B:=by
  rintro B rfl;have I3:=tz (own:=own) (fr:=fr) (tk:=a.toks) S I2 f2 fo xl (P0 _) hDC Y old (λx c h=>(cok.empty x c h).1) cok.apart yf (λv z=>by cases z);refine LY (λn s'=>∃i t ys us k M,Inv (nZ X own fr sc G.objs.size a F fp) [(a.heap.objs.size,{cls:=.type "list",data:=.seq us.toArray k})] M t s'/\tn i s'.heap/\(∀b∈fp,t b=U)/\Vals ys us/\ys.length<=sizeLine/\W i n ys M t) ?_ m0
   ⟨0,F,[],[],0,_,I3,st0',λb l=>(f2 b l).1,.nil,v4 _,w0⟩;rintro n s4 ⟨i,H4,ys,us,k,M,I4,st4,fr4,rv4,hz4,w4⟩;have hp4:∀p∈[(a.heap.objs.size,({cls:=.type "list",data:=.seq us.toArray k}:Obj))],a.heap.objs.size<=p.1:=λp hp=>by
   rw[T1.mp hp];exact P0 _
  rcases turn i n ys M H4 w4 with⟨stop,qn⟩|⟨go,ge,N,hN,step⟩
  .refine uJ (T.done (nZ X own fr sc G.objs.size a F fp) Z Z Z hc i _ s4 _ H4 (λ_ _=>Fo) I4 (stt _ xl fr4 hp4) st4 stop) λr s5 ⟨hr,I5⟩=>?_;subst hr;obtain⟨a1,a2,a3⟩:=wy I2 f2 xl (P0 _) hDC I5 Z rv4 hz4;exact hRR _ _ _ s5 a1 (qn _ (I5.pin _<|B1 _<|T1.mpr Z).2.1) a2 a3
  .refine uJ (T.item (nZ X own fr sc G.objs.size a F fp) Z Z Z hc i _ s4 _ H4 (λ_ _=>Fo) I4 (stt _ xl fr4 hp4) st4 go) λr s5 ⟨u,hr,h5⟩=>?_;subst hr;refine uJ h5 λ_ s6 ⟨x,H6,I6,r6,y6,st6,fr6⟩=>?_;have I6':=I6.pinned (stt _ xl fr6 hp4)<|T.obj _ _ st6;refine uJ (hg G.objs.size fp _ s6 _ H6 x u _ I6' r6<|step x H6 y6) λ_ s7 ⟨L,H7,I7,q7⟩=>?_;refine uJ (gi G.objs.size fp _ s7 L H7 _ I7 q7) λb s8 ⟨H8,I8,q8⟩=>?_;have again:∀{s9:Fd}{H9:Hp}{P:List V}{dg:Et}{k':Nat},Inv (nZ X own fr sc G.objs.size a F fp) ([(a.heap.objs.size,{cls:=.type "list",data:=.seq dg.toArray k'})]++EV fp s6.heap) L H9 s9->Vals P dg->P.length<=sizeLine->N P L H9 ->
     ∃m,m<n/\∃i t ys us k M,Inv (nZ X own fr sc G.objs.size a F fp) [(a.heap.objs.size,{cls:=.type "list",data:=.seq us.toArray k})] M t s9/\tn i s9.heap/\(∀b∈fp,t b=U)/\Vals ys us/\ys.length<=sizeLine/\W i m ys M t:=λ{s9 H9 P dg k'} I9 rv9 hz9 n9=>by
    obtain⟨m',hm,w9⟩:=hN P L H9 n9;refine⟨m',hm,i+1,H9,P,dg,k',L,I9.unpinned,T.keep _ _ _ st6 λb l o e=>(I9.pin (b,o)<|B1 _<|B1 _<|eY l e).1,λb l=>?_,rv9,hz9,w9⟩;obtain⟨o,e,d⟩:=T.obj _ _ st6 b l;exact(I9.pin (b,o)<|B1 _<|B1 _<|eY l e).2.1
   cases b with
   |false=>rw[Gd P1]at q8 ⊢;exact again I8 rv4 hz4 q8
   |true =>
    rw[Jd Z]at q8 ⊢;refine uJ (he G.objs.size fp _ s8 L H8 _ I8 q8) λy s9 ⟨yv,H9,I9,r9,n9⟩=>?_;refine bw (X:=nZ X own fr sc G.objs.size a F fp) I9 (P0 _) (λx c e z=>?_) (λp hp z=>?_) (by rw[<-rv4.length];exact ge) λk' s10 I10=>?_
    .rcases clb2 _ x c e with y|y
     .rw[z]at y;exact absurd (u0 (N4 xl) y)<|P4 _
     .obtain⟨v,q⟩:=I2.cell x c y;exact absurd (u0 q.lt<|by rw[z];exact P0 _)<|P4 _
    .have hp:p∈([]:Op)++EV fp s6.heap:=hp;rw[MQ]at hp;have:=flt _ (sG hp).1;rw[z]at this;exact absurd this<|P4 _
    .exact again I10 (rv4.append<|.cons r9 .nil) (by rw[T0,Y5];exact ge) n9
 exact codeAny_compStart_list (loop _ Z)<|T.self _ 0 _ _ _ st0'<|loop _ Z
theorem bE{pos:Pos}{own:Oo}{i:TI}{g:TG}{j:TT}{k:TE}(t:X.calm=Ep)(S:CompSc X own fr sc)(hi:PI X tg me i)
  (B:∀C s H ex,PG (nZ X own fr sc C s H ex) tg g) (F:∀C s H ex,xy (nZ X own fr sc C s H ex) jg j) (G:∀C s H ex,PE (nZ X own fr sc C s H ex) fg k)
  (L:∀x,Yf me X.env x=pure x:=by intro _;rfl):PE X (.ListComp fg [⟨tg,me,jg,0⟩] sc pos) (LL i own fr g j k):=by
 intro ae s σ H Q I h;rw[eval_ListComp];refine Oi (use:=U) Z L (VU λy hy e=>I.ok.has y.1<|S.free y hy e) S.kind S.loc<|uJ (hi ae s σ H _ I h) λv s1 M=>uJ M λP a R=>?_;obtain⟨it,fp,tn,J,c,e,Y,T,qi,l,W,⟨m0,w0⟩,turn⟩:=R;subst e;refine YU (Q:=Q) (RR:=λd C=>compPost (Md X.prog X.w) X.A X.xe U (EP X ae σ Q) d C) t S Y T qi l (λC ex=>B C a c ex) (λC ex=>F C a c ex) (λC ex=>G C a c ex) W m0 w0 turn ?_;intro D C H' s' I' q ⟨m,hm⟩ fC;refine⟨m,hm,λh' sb=>⟨.ref D,H',?_,Z,q⟩⟩;obtain⟨f0,f1,l,f3,f4,f5⟩:=fC;exact I'.turned (t':=s'.toks) (λb o hb e=>(sb.2 b hb).trans e) f0 f1 f3 f4 f5
theorem uz{pos L j:Pos}{i:Nat}{y:Str}{own:Oo}{M:TI}{g:TG}{P:TT}{R:TE}(hN:X.N.Nodup)(hy:X.N[i]?=O y)(hl:X.env.scope.names.lookup y=O .local)(hc:X.calm=Ep)(S:CompSc X own fr sc)(hi:PI X tg me M)
  (hg:∀C s H ex,PG (nZ X own fr sc C s H ex) tg g) (gi:∀C s H ex,xy (nZ X own fr sc C s H ex) jg P) (he:∀C s H ex,PE (nZ X own fr sc C s H ex) fg R)
  (k:Xi (.ListComp fg [⟨tg,me,jg,0⟩] sc pos) (O<|.Name y j) L.line X.env=pure true:=by rfl)
  (hs:∀x,Yf me X.env x=pure x:=by intro _;rfl):PS X (.Assign [.Name y j] (.ListComp fg [⟨tg,me,jg,0⟩] sc pos) L) (DV (LL M own fr g P R)<|FY i):=by
 intro ae s σ H D I h;rw[exec_Assign_Name_used _ _ _ _ k];refine Ad<|Cm ?_;show Ed _ _ (evalThenUse (.ListComp fg [⟨tg,me,jg,0⟩] sc pos) X.env _ >>= _) _ _ s;refine Ad ?_;unfold evalThenUse;refine Ad ?_;refine Oi Z hs (VU λy hy e=>I.ok.has y.1<|S.free y hy e) S.kind S.loc<|uJ (hi ae s σ H _ I h) λv s1 h1=>uJ h1 λitv l h2=>?_;obtain⟨it,fp,tn,J,t,e,I2,T,qi,Y,W,⟨m0,w0⟩,turn⟩:=h2;subst e;refine YU (Q:=λv H1=>D.nx (σ.set i<|O v) H1) hc S I2 T qi Y (λC ex=>hg C l t ex) (λC ex=>gi C l t ex) (λC ex=>he C l t ex) W m0 w0 turn ?_;intro D' C H' s' I' q ⟨m,hm⟩ fC;obtain⟨f0,f1,Y,f3,f4,f5⟩:=fC;show Ed (Md X.prog X.w) X.A (Li (.Name y j) X.env<|.ref D') (λ_ d=>∃m,d.heap.Ns C m/\∀h',S3 C d.heap h'->_) X.xe s';refine wpAny_assign_Name<|rG I' hN hy (.inl hl) (v:=.ref D') Z (λd B c=>?_)<|.inr hl;obtain⟨a,c,ha⟩:=c;have F:C≠a:=by
  rcases ha with z|z
  .rw[z];exact f1
  .exact λe=>f4 y a z e.symm
 obtain⟨G,zn⟩:∃G,d.heap.Ns C G:=⟨m,hm.sameBut c F⟩;refine⟨G,zn,λh' sb=>Bd<|Bd ⟨_,H',?_,q⟩⟩;exact B.turned (t':=d.toks) (λb o hb e=>(sb.2 b hb).trans e) f0 f1 f3 f4 f5
inductive Kd where|l|t
def ItAt(k:Kd)(h:Ke)(it a:Hd)(i:Nat):Prop:=match k with | .l=>h.IsListIter it a i | .t=>h.IsTupleIter it a i
def SqAt(k:Kd)(h:Ke)(a:Hd)(b:Eo Cd):Prop:=match k with | .l=>h.IsList a b | .t=>h.IsTuple a b
noncomputable def QZ(k:Kd)(a:Hd):Obj:=match k with | .l=>{cls:=.type "list_iterator",data:=.fields #[.ref a,.int 0 0]} | .t=>{cls:=.type "tuple_iterator",data:=.fields #[.ref a,.int 0 0]}
theorem ItAt.at(x:ItAt k h it a i)(f:∀o,h.get? it=O o->h'.get? it=O o):ItAt k h' it a i:=by
 cases k with
 |l=>exact Heap.IsListIter.at x f
 |t=>exact Heap.IsTupleIter.at x f
theorem SqAt.at(x:SqAt k h a xs)(f:∀o,h.get? a=O o->h'.get? a=O o):SqAt k h' a xs:=by
 cases k with
 |l=>exact Heap.IsList.at x f
 |t=>obtain⟨o,e,r⟩:=x;exact⟨o,f o e,r⟩
theorem ItAt.obj(x:ItAt k h it a i):∃o,h.get? it=O o/\∀v,o.data≠.cell v:=by
 cases k with
 |l=>obtain⟨o,e,c,d⟩:=x;exact⟨o,e,λv z=>by rw[d]at z;cases z⟩
 |t=>obtain⟨o,e,c,d⟩:=x;exact⟨o,e,λv z=>by rw[d]at z;cases z⟩
theorem ItAt.new(k:Kd){h:Ke}{it a:Hd}(e:h.get? it=O (QZ k a)):ItAt k h it a 0:=by
 cases k with
 |l=>exact⟨_,e,Z,Z⟩
 |t=>exact⟨_,e,Z,Z⟩
section
variable {w:Be}
theorem YW(hl:SqAt k s.heap a xs)(h:Q (.ref s.heap.objs.size) {s with heap:=s.heap.push<|QZ k a}):Ed (Md prog w) A (Lm<|.ref a) Q E s:=by
 cases k with
 |l=>exact Pg hl h
 |t=>exact Dh hl h
theorem ZW(hit:s.heap.IsTupleIter it t i)(c:s.heap.IsTuple t items)(hx:items[i]?=O x)(d:∀h',h'.IsTupleIter it t (i+1)->S3 it s.heap h'->Q x {s with heap:=h'}):Ed (Md prog w) A (Z2<|.ref it) Q E s:=by
 obtain⟨o,a,e,hd⟩:=id hit;obtain⟨j,b,_,nl,g⟩:=c;unfold Z2;refine Ad<|Yd (name:=Str.ofString "__next__") hit.typeIs F.slot_tuple_iterator_next
   (wpAny_call_entry F.slot_tuple_iterator_next hit.typeIs F.entry_tuple_iterator_next ?_<|F.args_tuple_iterator_next_1 _);show Ed _ _ (Vm (.ref it) 0 >>= _) _ _ s;refine Ad<|Ie a hd (x:=.ref t) Z ?_;show Ed _ _ (if (T2 t==X4)=Ep then _ else _) _ _ s;rw[Gd<|show ¬((T2 t==X4)=Ep) from P1];show Ed _ _ (Vm (.ref it) 1 >>= _) _ _ s;refine Ad<|Ie a hd (x:=.int i 0) Z ?_;show Ed _ _ (En (.ref t) >>= _) _ _ s;refine Ad<|Pe b g ?_;simp only[A7,hx];refine Ad<|Kf a hd (by simp)<|Bd ⟨x,Z,Bd<|d _ ?_<|K5 ..⟩;exact⟨_,O4 _ a<|m7<|j7 hd _,(Obj.cls_mapFields ..).trans e,by
   rw[j7 hd];simp[He]⟩
theorem IV(d:A.handled=U)(hit:s.heap.IsTupleIter it l i) (hl:s.heap.IsTuple l items) (hx:items[i]?=U)(g:∀h' e,MX it s.heap h'->(∃o,h'.get? e=O o/\o.cls=.type "StopIteration")->E (.ref e) {s with heap:=h'}):Ed (Md prog w) A (Z2<|.ref it) Q E s:=by
 obtain⟨o,b,k,hd⟩:=id hit;obtain⟨q,c,_,nl,j⟩:=hl;unfold Z2;refine Ad<|Yd (name:=Str.ofString "__next__") hit.typeIs F.slot_tuple_iterator_next
   (wpAny_call_entry F.slot_tuple_iterator_next hit.typeIs F.entry_tuple_iterator_next ?_<|F.args_tuple_iterator_next_1 _);show Ed _ _ (Vm (.ref it) 0 >>= _) _ _ s;refine Ad<|Ie b hd (x:=.ref l) Z ?_;show Ed _ _ (if (T2 l==X4)=Ep then _ else _) _ _ s;rw[Gd<|show ¬((T2 l==X4)=Ep) from P1];show Ed _ _ (Vm (.ref it) 1 >>= _) _ _ s;refine Ad<|Ie b hd (x:=.int i 0) Z ?_;show Ed _ _ (En (.ref l) >>= _) _ _ s;refine Ad<|Pe c j ?_;simp only[A7,hx];refine Ad<|Ve<|Ad<|Kf b hd (by simp) ?_;show Ed _ _ (Tn (.type "StopIteration") [] >>= _) _ _ _;refine Ad ?_;simp only[Tn,Yn];refine Ad (Fe ?_<|by size_fits);refine Ad (m:=Wg _ _)<|Ml (a:=X4) (by first|rfl|(simp only[Wg];rfl)) ?_;refine Fe ?_ (by size_fits);simp only[Wn];refine Ad<|Em ?_;first|rw[show A.in1.handled=U from d]|rw[d]
 refine Ad<|Bd<|Kn ?_;exact g _ _ (((K5 ..).extBut.push _).push _) ⟨_,O0 _ Z,Z⟩
theorem GK(hit:ItAt k s.heap it a i)(hl:SqAt k s.heap a xs)(hx:xs[i]?=O x)(b:∀h',ItAt k h' it a (i+1)->S3 it s.heap h'->Q x {s with heap:=h'}):Ed (Md prog w) A (Z2<|.ref it) Q E s:=by
 cases k with
 |l=>exact wpAny_nextOf_list_item hit hl hx b
 |t=>exact ZW hit hl hx b
theorem AW(b:A.handled=U)(hit:ItAt k s.heap it a i)(hl:SqAt k s.heap a xs)(hx:xs[i]?=U)(c:∀h' e,MX it s.heap h'->(∃o,h'.get? e=O o/\o.cls=.type "StopIteration")->E (.ref e) {s with heap:=h'}):Ed (Md prog w) A (Z2<|.ref it) Q E s:=by
 cases k with
 |l=>exact wpAny_nextOf_list_end b hit hl hx c
 |t=>exact IV b hit hl hx c
end
abbrev DJ(h:Ke)(T:Hd)(a b:Cd):Prop:=h.get? T=O {cls:=.type "tuple",data:=.seq #[a,b]}
structure ZAp2(z TI TO i1 i2 l1 l2:Hd):Prop where
 TIz:TI≠z
 TOz:TO≠z
 i1z:i1≠z
 i2z:i2≠z
 TOTI:TO≠TI
 i1TI:i1≠TI
 i2TI:i2≠TI
 i1TO:i1≠TO
 i2TO:i2≠TO
 i2i1:i2≠i1
 l1z:l1≠z
 l1TO:l1≠TO
 l1i1:l1≠i1
 l1i2:l1≠i2
 l2z:l2≠z
 l2TO:l2≠TO
 l2i1:l2≠i1
 l2i2:l2≠i2
theorem LR(n l1 l2:Nat)(a:l1<n)(b:l2<n):ZAp2 (n+4) (n+2) (n+3) n (n+1) l1 l2:=by constructor<;>(show ¬(@Eq Nat _ _))<;>lia
section
variable {w:Be}
end
structure Zk where
 k:Kd
 i:Hd
 l:Hd
abbrev qJ(h:Ke)(T:Hd)(a:Et):Prop:=h.get? T=O {cls:=.type "tuple",data:=.seq a.toArray}
structure ZA(S:List Zk)(z TI TO:Hd):Prop where
 TIz:TI≠z
 TOz:TO≠z
 TOTI:TO≠TI
 nd:(S.map (·.i)).Nodup
 i:∀u∈S,u.i≠z/\u.i≠TI/\u.i≠TO
 l:∀u∈S,u.l≠z/\u.l≠TO/\∀v∈S,u.l≠v.i
def Nx(h:Ke)(k:Nat)(u:Zk)(x:Cd):Prop:=∃a,SqAt u.k h u.l a/\a[k]?=O x
def KpZ(S:List Zk)(z TO:Hd)(h h':Ke):Prop:=∀c o,c≠z->c≠TO->(∀u∈S,c≠u.i)->h.get? c=O o->h'.get? c=O o
structure ZLoop(S:List Zk)(z TI TO:Hd)(as:Et)(k:Nat)(h0:Ke)(pre rest:List Zk)(vs:Et)(h:Ke):Prop where
 e:S=pre++rest
 n:vs.length=pre.length
 hz:Rh h z TI TO .ellipsis
 to:qJ h TO (vs++as.drop pre.length)
 dn:∀u∈pre,ItAt u.k h u.i u.l (k+1)
 nt:∀u∈rest,ItAt u.k h u.i u.l k
 kp:KpZ S z TO h0 h
 sz:h.objs.size=h0.objs.size
 nx:∀p∈pre.zip vs,Nx h0 k p.1 p.2
section
variable {w:Be}
theorem KpZ.l{TI TO:Hd}{u:Zk}(K:KpZ S z TO h h')(D:ZA S z TI TO)(a:u∈S)(p:SqAt u.k h u.l xs):SqAt u.k h' u.l xs:=p.at λo e=>K _ o (D.l u a).1 (D.l u a).2.1 (D.l u a).2.2 e
theorem MR{TI TO:Hd}(D:ZA S z TI TO)(mf:S≠[])(h3:S.length<=3)(hz:Rh s.heap z TI TO .none) (bg:qJ s.heap TI (S.map λu=>.ref u.i)) (rg:qJ s.heap TO as) (hla:as.length=S.length)(hI:∀u∈S,ItAt u.k s.heap u.i u.l k) (hS:∀u∈S,∃xs,SqAt u.k s.heap u.l xs)(hQ:∀q h',q.length=S.length->(∀p∈S.zip q,Nx s.heap k p.1 p.2)->Rh h' z TI TO (He s.heap.objs.size)->qJ h' TO q->(∀u∈S,ItAt u.k h' u.i u.l<|k+1)->qJ h' s.heap.objs.size q->h'.objs.size=s.heap.objs.size+1->KpZ S z TO s.heap h'->Q (.ref s.heap.objs.size) {s with heap:=h'})(hE:(∃u∈S,∃xs,SqAt u.k s.heap u.l xs/\xs[k]?=U)->A.handled=U/\∀h' e,KpZ S z TO s.heap h'->(∃o,h'.get? e=O o/\o.cls=.type "StopIteration")->E (.ref e) {s with heap:=h'}):Ed (Md prog w) A (Builtin.«zip.__next__» ⟨[.ref z],[]⟩) (λfin s'=>∃v,fin=.done (.ret v)/\Q v s') E s:=by
 show Ed _ _ (Vm (.ref z) 2 >>= _) _ _ _;refine Ad<|Ie hz Z (x:=.bool Er) Z ?_;show Ed _ _ (Vm (.ref z) 3 >>= _) _ _ _;refine Ad<|Ie hz Z (x:=.ref TI) Z ?_;refine Ad<|Pe bg Z ?_;have qp:((S.map λu=>T2 u.i).toArray).isEmpty=false:=by
  cases S with
  |nil=>exact absurd Z mf
  |cons _ _=>rfl
 simp only[qp,J3,if_false];show Ed _ _ (M4 (.ref z) >>= _) _ _ _;refine Ad ?_;unfold M4;refine Ad<|Ie hz Z (x:=.none) rfl<|Bd ?_;simp only[if_true];refine Ad<|Ve ?_;refine Ad<|Ie hz Z (x:=.ref TO) Z ?_;refine Ad<|Oe hz (by simp) λP y g=>?_
 replace y:Rh P z TI TO .ellipsis:=y
 have z0:ZLoop S z TI TO as k s.heap [] S [] P:=⟨Z,Z,y,g.extBut _ _ D.TOz rg,(λu h=>by cases h),λu M=>(hI u M).at λo e=>g.extBut _ o (D.i u M).1 e,λc o G _ _ e=>g.extBut _ _ G e,g.1,λp h=>by cases h⟩;refine Ad<|Of _ (λr b t=>b=(U,())/\∃d rest q h,r=(rest.map λu=>T2 u.i).zipIdx d.length/\t={s with heap:=h}/\ZLoop S z TI TO as k s.heap d rest q h) _ ?turn ?fin _ _ ⟨Z,[],S,[],P,Z,Z,z0⟩
 case turn =>
  rintro x r b t ⟨rfl,d,rest,q,h,e,rfl,L⟩;cases rest with
  |nil=>cases e
  |cons u rest =>
   cases e;have M:u∈S:=by rw[L.e];simp
   obtain⟨xs,hxs⟩:=hS u M;have nd:=D.nd;rw[L.e,u4,Y9]at nd;obtain⟨_,nd2,nd1⟩:=nd;rw[G2,i6]at nd2;obtain⟨Dz,DTI,DTO⟩:=D.i u M;refine Ad<|wpAny_onRaise ?_;show Ed _ _ (Z2 (.ref u.i) >>= _) _ _ _;have hl:=L.kp.l D M hxs;cases hx:xs[k]? with
   |none =>
    obtain⟨hh,hE⟩:=hE ⟨u,M,xs,hxs,hx⟩;refine Ad<|AW hh (L.nt u<|by simp) hl hx λhq e hsq he=>?_;obtain⟨oe,hoe,hce⟩:=he;have hzq:Rh hq z TI TO .ellipsis:=hsq _ _ Dz.symm L.hz;have hez:e≠z:=λx=>by subst x;rw[hzq]at hoe;cases hoe;simp at hce
    exact Oe hzq (by simp) λh₉ _ R=>hE h₉ e (λc o G c2 c3 x=>R.extBut _ _ G<|hsq _ _ (c3 u M)<|L.kp c o G c2 c3 x) ⟨oe,R.extBut _ _ hez hoe,hce⟩
   |some x =>
    refine Ad<|GK (L.nt u<|by simp) hl hx λha hi hsa=>Bd ?_;have Y:=hsa.extBut _ _ DTO.symm L.to;have ln:=L.n;have lS:S.length=d.length+(rest.length+1):=by rw[L.e];simp
    have lz:(q++as.drop d.length).length=S.length:=by rw[T0,J5];lia
    have l3:(q++as.drop d.length).toArray.size<=3:=by rw[S0];exact le_of_eq_of_le lz h3
    refine Ad<|Pe Y Z ?_;refine Ad (Th Y Z (Ad<|Ln<|Bd ⟨Z,d++[u],rest,q++[x],_,?_,Z,?_⟩) (K0 l3<|by decide)<|by rw[eQ];exact K0 l3<|by decide)
    .rw[T0];rfl
    have hsb:S3 TO ha (ha.update TO (U3 (·.setIfInBounds d.length x))):=K5 ..;obtain⟨a,ea⟩:∃a,as.drop d.length=a::as.drop (d.length+1):=⟨_,A5<|by lia⟩;have cp:∀c,c≠u.i->c≠TO->∀o,h.get? c=O o->(ha.update TO (U3 (·.setIfInBounds d.length x))).get? c=O o:=λc G c2 o e=>hsb.extBut _ o c2<|hsa.extBut _ o G e;refine⟨by rw[L.e];simp,by simp[ln],cp _ Dz.symm D.TOz.symm _ L.hz,?_,λv hv=>?_,λv hv=>?_,λc o G c2 c3 e=>cp c (c3 u M) c2 o<|L.kp c o G c2 c3 e,by rw[hsb.1,hsa.1];exact L.sz,λp hp=>?_⟩
    .show _=_;rw[O4 _ Y Z];simp[U3,ln,ea]
    .rcases B2.mp hv with hv|hv
     .exact(L.dn v hv).at λo e=>cp _ (nd1 _ (o8 hv) _<|G0 ..) (D.i v<|by rw[L.e];simp[hv]).2.2 o e
     .rw[T1.mp hv];exact hi.at λo e=>hsb.extBut _ o DTO e
    .exact(L.nt v<|q0 _ hv).at λo e=>cp _ (λz=>nd2.1<|z ▸ o8 hv) (D.i v<|by rw[L.e];simp[hv]).2.2 o e
    .rw[PQ ln.symm]at hp;rcases B2.mp hp with hp|hp
     .exact L.nx p hp
     .rw[T1.mp hp];exact⟨xs,hxs,hx⟩
 case fin =>
  rintro b t ⟨rfl,d,rest,q,h,e,rfl,L⟩;obtain rfl:rest=[]:=by
   cases rest with
   |nil=>rfl
   |cons _ _=>cases e
  have eS:=L.e;rw[E2]at eS;subst eS;have ld:as.drop S.length=[]:=K4<|V0 hla;have hTO2:=L.to;rw[ld,E2]at hTO2;refine Ad<|Pe hTO2 rfl<|Ad<|Bi ?_ (by have:=L.n;simp;exact K0 (show q.length<=3 by exact le_of_eq_of_le this h3)<|by decide);have hzlt:z<h.objs.size:=Q0 L.hz;show Ed _ _ (r8 (.ref z) (.ref h.objs.size) >>= _) _ _ _;refine Ad ?_;unfold r8;have hz₆:Rh (h.push {cls:=.type "tuple",data:=.seq q.toArray}) z TI TO .ellipsis:=j0 _ L.hz;refine Ad<|Oe hz₆ (by simp) λh₇ B C=>?_
  replace B:Rh h₇ z TI TO (He h.objs.size):=B
  refine Oe B (by simp) λm j F=>?_
  replace j:Rh m z TI TO (He h.objs.size):=j
  have up:∀c o,c≠z->h.get? c=O o->m.get? c=O o:=λc o G e=>F.extBut _ _ G<|C.extBut _ _ G<|j0 _ e;have hT₈:qJ m h.objs.size q:=F.extBut _ _ (G4 hzlt)<|C.extBut _ _ (G4 hzlt)<|O0 _ Z;have hz8:m.objs.size=h.objs.size+1:=by rw[F.1,C.1,Z1]
  rw[L.sz]at j hT₈ hz8;refine Bd ⟨_,Z,?_⟩;show Q (.ref h.objs.size) _;rw[L.sz];exact hQ q m L.n L.nx j (up _ _ D.TOz hTO2) (λu M=>(L.dn u M).at λo e=>up _ o (D.i u M).1 e) hT₈ hz8 λc o G c2 c3 e=>up c o G<|L.kp c o G c2 c3 e
theorem lW{TI TO:Hd}{Q:Do Cd->Fd->Prop}(D:ZA S z TI TO)(q:S≠[])(t:S.length<=3)(g:Rh s.heap z TI TO .none) (v:qJ s.heap TI (S.map λu=>.ref u.i)) (x:qJ s.heap TO as) (d:as.length=S.length)(y:∀u∈S,ItAt u.k s.heap u.i u.l k) (B:∀u∈S,∃c,SqAt u.k s.heap u.l c)(C:∀a h',a.length=S.length->(∀p∈S.zip a,Nx s.heap k p.1 p.2)->Rh h' z TI TO (He s.heap.objs.size)->qJ h' TO a->(∀u∈S,ItAt u.k h' u.i u.l<|k+1)->qJ h' s.heap.objs.size a->h'.objs.size=s.heap.objs.size+1->KpZ S z TO s.heap h'->Q (O<|.ref s.heap.objs.size) {s with heap:=h'})(j:(∃u∈S,∃c,SqAt u.k s.heap u.l c/\c[k]?=U)->A.handled=U/\∀h',KpZ S z TO s.heap h'->Q U {s with heap:=h'}):Ed (Md prog w) A (Bf<|.ref z) Q E s:=by
 have m:s.TypeIs (.ref z) "zip":=⟨_,g,Z⟩;unfold Bf;refine Ad<|Gf<|Yd (name:=Str.ofString "__next__") m F.slot_zip_next
   (wpAny_call_entry F.slot_zip_next m F.entry_zip_next (MR D q t g v x d y B (λa h' G L M P R Y a7 a8=>Bd<|C a h' G L M P R Y a7 a8) λh=>⟨(j h).1,λh' e hk he=>?_⟩)<|F.args_zip_next_1 _);obtain⟨o,ho,hc⟩:=he;exact Ad<|Ye (T:="StopIteration") (b:=Ep) ⟨o,ho,hc⟩ Ih<|Bd<|(j h).2 h' hk
theorem pF{l:List α}(h:l.length=2):∃a b,l=[a,b]:=by
 cases l with
 |nil=>cases h
 |cons a l=>cases l with
  |nil=>cases h
  |cons b l=>cases l with
   |nil=>exact⟨a,b,Z⟩
   |cons _ _=>cases h
theorem SqAt.inj{ys:Eo Cd}(p:SqAt k h a xs)(q:SqAt k h a ys):xs=ys:=by cases k<;>obtain⟨o,e,_,n,d⟩:=p<;>obtain⟨g,b,_,i,c⟩:=q<;>rw[e]at b<;>cases b<;>rw[d]at c<;>cases c<;>rfl
section
variable {TI TO:Hd}{k:Nat}{k1 k2:Kd}{a1 a2 x1 x2:Cd}{Q:Do Cd->Fd->Prop}
theorem ZAp2.za(D:ZAp2 z TI TO i1 i2 l1 l2):ZA [⟨k1,i1,l1⟩,⟨k2,i2,l2⟩] z TI TO:=⟨D.TIz,D.TOz,D.TOTI,by simp[D.i2i1.symm],by simp[D.i1z,D.i2z,D.i1TI,D.i2TI,D.i1TO,D.i2TO],by simp[D.l1z,D.l2z,D.l1TO,D.l2TO,D.l1i1,D.l1i2,D.l2i1,D.l2i2]⟩
theorem KpZ.two(K:KpZ [⟨k1,i1,l1⟩,⟨k2,i2,l2⟩] z TO h h'):∀c o,c≠z->c≠TO->c≠i1->c≠i2->h.get? c=O o->h'.get? c=O o:=λc o a b d g e=>K c o a b (by simp[d,g]) e
theorem ZU(D:ZAp2 z TI TO i1 i2 l1 l2)(l:Rh s.heap z TI TO .none) (m:DJ s.heap TI (.ref i1) (.ref i2)) (q:DJ s.heap TO a1 a2)(t:ItAt k1 s.heap i1 l1 k) (v:ItAt k2 s.heap i2 l2 k) (a:SqAt k1 s.heap l1 xs1) (b:SqAt k2 s.heap l2 xs2) (d:xs1[k]?=O x1) (g:xs2[k]?=O x2)(x:∀h',Rh h' z TI TO (He s.heap.objs.size)->DJ h' TO x1 x2->ItAt k1 h' i1 l1 (k+1)->ItAt k2 h' i2 l2 (k+1)->DJ h' s.heap.objs.size x1 x2->h'.objs.size=s.heap.objs.size+1 ->(∀c o,c≠z->c≠TO->c≠i1->c≠i2->s.heap.get? c=O o->h'.get? c=O o)->Q (O<|.ref s.heap.objs.size) {s with heap:=h'}):Ed (Md prog w) A (Bf<|.ref z) Q E s:=by
 refine lW (k:=k) (as:=[a1,a2]) (D.za (k1:=k1) (k2:=k2)) (by simp) (k6 2) l m q Z (by simp[t,v]) (by simp;exact⟨⟨_,a⟩,_,b⟩) (λY h' n nx y b2 i B C F=>?_) λh=>?_
 .obtain⟨G,L,rfl⟩:=pF n
  .obtain⟨_,M,P⟩:=nx (⟨k1,i1,l1⟩,G) (by simp);obtain⟨_,R,S⟩:=nx (⟨k2,i2,l2⟩,L) (by simp);cases M.inj a;cases R.inj b;cases d.symm.trans P;cases g.symm.trans S;exact x h' y b2 (i ⟨k1,i1,l1⟩<|by simp) (i ⟨k2,i2,l2⟩<|by simp) B C F.two
 .obtain⟨u,j,_,p,e⟩:=h;simp at j;rcases j with rfl|rfl
  .cases p.inj a;cases d.symm.trans e
  .cases p.inj b;cases g.symm.trans e
theorem aG(d:A.handled=U)(D:ZAp2 z TI TO i1 i2 l1 l2)(e:Rh s.heap z TI TO .none) (g:DJ s.heap TI (.ref i1) (.ref i2)) (i:DJ s.heap TO a1 a2)(j:ItAt k1 s.heap i1 l1 k) (l:ItAt k2 s.heap i2 l2 k) (a:SqAt k1 s.heap l1 xs1) (b:SqAt k2 s.heap l2 xs2) (m:xs1[k]?=U\/xs2[k]?=U)(q:∀h',(∀c o,c≠z->c≠TO->c≠i1->c≠i2->s.heap.get? c=O o->h'.get? c=O o)->Q U {s with heap:=h'}):Ed (Md prog w) A (Bf<|.ref z) Q E s:=by
 refine lW (k:=k) (as:=[a1,a2]) (D.za (k1:=k1) (k2:=k2)) (by simp) (k6 2) e g i Z (by simp[j,l]) (by simp;exact⟨⟨_,a⟩,_,b⟩) (λF h' n nx _ _ _ _ _ _=>?_) λh=>⟨d,λh' K=>q h' K.two⟩;obtain⟨t,v,rfl⟩:=pF n
 .obtain⟨_,x,y⟩:=nx (⟨k1,i1,l1⟩,t) (by simp);obtain⟨_,B,C⟩:=nx (⟨k2,i2,l2⟩,v) (by simp);cases x.inj a;cases B.inj b;rcases m with h|h
  .cases h.symm.trans y
  .cases h.symm.trans C
end
end
noncomputable abbrev cw(h:Ke)(a:Kd)(b:Kd)(l1 l2:Hd):Ke:=((h.push<|QZ a l1).push<|QZ b l2)
noncomputable abbrev fw(h:Ke)(a:Kd)(b:Kd)(l1 l2:Hd):Ke:=(cw h a b l1 l2).push {cls:=.type "tuple",data:=.seq #[.ref h.objs.size,.ref (h.push<|QZ a l1).objs.size]}
noncomputable abbrev gw(h:Ke)(a:Kd)(b:Kd)(l1 l2:Hd):Ke:=(fw h a b l1 l2).push {cls:=.type "tuple",data:=.seq #[.none,.none]}
noncomputable abbrev AY(h:Ke)(a:Kd)(b:Kd)(l1 l2:Hd):Ke:=(gw h a b l1 l2).push {cls:=.type "zip",data:=.fields #[.none,.bool Er,.bool Er,.ref (cw h a b l1 l2).objs.size,.ref (fw h a b l1 l2).objs.size]}
theorem qD(a:Kd)(b:Kd)(l1 l2:Hd)(xs1 xs2:Eo Cd):Meets (Builtin.«zip.__new__» ⟨[.type "zip",.ref l1,.ref l2],[]⟩) (λ_ R s=>SqAt a s.heap l1 xs1/\SqAt b s.heap l2 xs2 /\ R (.ok<|.ret<|.ref (gw s.heap a b l1 l2).objs.size) {s with heap:=AY s.heap a b l1 l2}):=
 .of_wp λprog w A R s h=>by
  obtain⟨j,g,d,k,os⟩:=s;obtain⟨l,m,h⟩:=h;have q:=sub_zip;have c:SqAt a (Shared.heap ⟨j,g,d,k,os⟩) l1 xs1:=l;have i:SqAt b (Shared.heap ⟨(j.push<|QZ a l1),g,d,k,os⟩) l2 xs2:=(SqAt.at m λo e=>j0 _ e)
  wp_walk using YW c,YW i
  exact⟨_,Z,h⟩
theorem D_(b c d:Kd)(n l1 l2 a:Nat)(e:l1<n)(g:l2<n)(i:a<n):ZA [⟨b,n,l1⟩,⟨c,n+1,l2⟩,⟨d,n+2,a⟩] (n+5) (n+3) (n+4):=by
 constructor
 .show ¬(@Eq Nat _ _);exact X0<|J8 (S2 _)<|S2 _
 .show ¬(@Eq Nat _ _);exact X0<|S2 _
 .show ¬(@Eq Nat _ _);exact G4<|S2 _
 .simp
 .simp
 .simp;refine⟨⟨?_,?_,?_,?_,?_⟩,⟨?_,?_,?_,?_,?_⟩,?_,?_,?_,?_,?_⟩<;>(show ¬(@Eq Nat _ _))<;>lia
noncomputable abbrev cE(h:Ke)(a:Kd)(b:Kd)(c:Kd)(l1 l2 d:Hd):Ke:=(((h.push<|QZ a l1).push<|QZ b l2).push<|QZ c d)
noncomputable abbrev dE(h:Ke)(a:Kd)(b:Kd)(c:Kd)(l1 l2 d:Hd):Ke:=(cE h a b c l1 l2 d).push {cls:=.type "tuple",data:=.seq #[.ref h.objs.size,.ref (h.push<|QZ a l1).objs.size,.ref ((h.push<|QZ a l1).push<|QZ b l2).objs.size]}
noncomputable abbrev eE(h:Ke)(a:Kd)(b:Kd)(c:Kd)(l1 l2 d:Hd):Ke:=(dE h a b c l1 l2 d).push {cls:=.type "tuple",data:=.seq #[.none,.none,.none]}
noncomputable abbrev qF(h:Ke)(a:Kd)(b:Kd)(c:Kd)(l1 l2 d:Hd):Ke:=(eE h a b c l1 l2 d).push {cls:=.type "zip",data:=.fields #[.none,.bool Er,.bool Er,.ref (cE h a b c l1 l2 d).objs.size,.ref (dE h a b c l1 l2 d).objs.size]}
theorem yy(a:Kd)(b:Kd)(j:Kd)(l1 l2 c:Hd)(xs1 xs2 i:Eo Cd):Meets (Builtin.«zip.__new__» ⟨[.type "zip",.ref l1,.ref l2,.ref c],[]⟩) (λ_ R s=>SqAt a s.heap l1 xs1/\SqAt b s.heap l2 xs2/\SqAt j s.heap c i /\ R (.ok<|.ret<|.ref (eE s.heap a b j l1 l2 c).objs.size) {s with heap:=qF s.heap a b j l1 l2 c}):=
 .of_wp λprog w A R s h=>by
  obtain⟨k,g,d,l,os⟩:=s;obtain⟨v,x,y,h⟩:=h;have B:=sub_zip;have m:SqAt a (Shared.heap ⟨k,g,d,l,os⟩) l1 xs1:=v;have q:SqAt b (Shared.heap ⟨(k.push<|QZ a l1),g,d,l,os⟩) l2 xs2:=(SqAt.at x λo e=>j0 _ e);have t:SqAt j (Shared.heap ⟨((k.push<|QZ a l1).push<|QZ b l2),g,d,l,os⟩) c i:=(SqAt.at (SqAt.at y λo e=>j0 _ e) λo e=>j0 _ e)
  wp_walk using YW m,YW q,YW t
  exact⟨_,Z,h⟩
inductive Ki where|non|bl|int|str|lst|tup|dct
 deriving DecidableEq
noncomputable def Ki.nm:Ki->String
 | .non=>"NoneType" | .bl=>"bool" | .int=>"int" | .str=>"str" | .lst=>"list" | .tup=>"tuple" | .dct=>"dict"
noncomputable def KiOf(K:M0)(H:Hp):V->Ki->Prop
 | .non,k=>k=.non
 | .bl _,k=>k=.bl
 | .int _,k=>k=.int
 | .str _,k=>k=.str
 | .ref a,k=>(k=.lst/\∃b,SqL K H a b)\/(k=.tup/\∃b,SqT K H a b)\/(k=.dct/\((∃c,H a=O (.dK c))\/∃c,H a=O (.dT c)))
 |_,_=>Fo
noncomputable def Ki.sub:Ki->Ki->Bool
 | .bl,.int=>Ep
 |a,b=>decide<|a=b
theorem KiOf.typeIs(I:Inv X ae σ H s)(h:KiOf X.K H x k)(r:RelV x u):s.TypeIs u k.nm:=by
 cases x with
 |non=>cases h;cases r;rfl
 |bl b=>cases h;cases r;rfl
 |int i=>cases h;obtain⟨t,rfl⟩:=r;rfl
 |str i=>cases h;obtain⟨t,rfl⟩:=r;rfl
 |ref a =>
  cases r;rcases h with⟨rfl,g,d⟩|⟨rfl,g,d⟩|⟨rfl,⟨j,d⟩|⟨j,d⟩⟩
  .obtain⟨be,_,⟨o,n,e,c,_⟩,_⟩:=I.list d;exact⟨o,e,c⟩
  .obtain⟨be,_,⟨o,e,c,_⟩,_⟩:=I.tuple d;exact⟨o,e,c⟩
  .obtain⟨_,_,_,_,o,l,m,e,c,_⟩:=I.hok a _ d;exact⟨o,e,c.1⟩
  .obtain⟨_,_,_,_,o,l,m,e,c,_⟩:=I.hok a _ d;exact⟨o,e,c.1⟩
 |byt _=>cases h
 |flt _=>cases h
 |ty _=>cases h
theorem iK(T:Ki):Km (.type T.nm)=pure (.type "type"):=by
 cases T
 .exact F.isi_meta_NoneType
 .exact F.isi_meta_bool
 .exact F.isi_meta_int
 .exact F.isi_meta_str
 .exact F.isi_meta_list
 .exact F.isi_meta_tuple
 .exact F.isi_meta_dict
theorem rF(k T:Ki):Fn (.type k.nm) (.type T.nm)=pure (k.sub T):=by cases k<;>cases T<;>(show Fn (.type _) (.type _)=pure _;rw[Ci];kernel_rfl)
theorem ML(k T:Ki)(h:k.sub T=Er):(O7 k.nm==O7 T.nm)=false:=by cases k<;>cases T<;>first|(exfalso;revert h;decide)|decide +kernel
def iw(K:M0):List V->Hp->VK->Prop:=λa H Q=>∃(x:V) (k:Ki) (T:Ki),a=[x,.ty T.nm]/\KiOf K H x k/\Q (.bl<|k.sub T) H
theorem rD:VZ X (.builtin "isinstance") (iw X.K):=by
 intro ae s σ H w us Q I r h;obtain⟨x,k,T,rfl,c,q⟩:=h;obtain⟨u,m,rfl,g,v⟩:=zY r;obtain rfl:m=.type T.nm:=v;have l:=c.typeIs I g;cases j:k.sub T with
 |true=>rw[j]at q;exact Ue (isinstance_true (Tx:=k.nm) (iK T)<|by rw[rF,j]) ⟨l,.bl Ep,H,I,Z,q⟩
 |false =>
  rw[j]at q;have d:Fn (.type k.nm) (.type T.nm)=pure false:=by rw[rF,j]
  have e:=ML k T j;have fin:EP X ae σ Q (.bool Er) {s with toks:=s.toks+1}:=⟨.bl Er,H,I.tok _,Z,q⟩;cases x with
  |non=>cases c;cases g;exact Ue (isinstance_false_none e (iK T) d) fin
  |bl b=>cases c;cases g;exact Ue (isinstance_false_bool e (iK T) d) fin
  |int i=>cases c;obtain⟨t,rfl⟩:=g;exact Ue (isinstance_false_int e (iK T) d) fin
  |str i=>cases c;obtain⟨t,rfl⟩:=g;exact Ue (isinstance_false_str e (iK T) d) fin
  |ref a =>
   cases g;rcases c with⟨rfl,_⟩|⟨rfl,_⟩|⟨rfl,_⟩
   .exact Ue (isinstance_false_list e (iK T) d) ⟨l,fin⟩
   .exact Ue (isinstance_false_tuple e (iK T) d) ⟨l,fin⟩
   .exact Ue (Kl e (iK T) d) ⟨l,fin⟩
  |byt _=>cases c
  |flt _=>cases c
  |ty _=>cases c
def GN(K:M0):List V->Hp->VK->Prop:=λb H Q=>∃(a:Hd) (bs:List Bool),b=[.ref a]/\SqL K H a (bs.map V.bl)/\Q (.bl<|bs.all id) H
theorem sD{bs:List Bool}(r:Vals (bs.map V.bl) us)(i:Nat)(v:Cd)(h:us[i]?=O v):∃b,bs[i]?=O b/\v=.bool b:=by
 cases e:bs[i]? with
 |none =>
  have a:(bs.map V.bl)[i]?=none:=by rw[Z0,e];rfl
  rw[r.none_of a]at h;cases h
 |some b=>obtain⟨u,c,d⟩:=r.get (i:=i) (x:=.bl b) (by rw[Z0,e];rfl);rw[c]at h;cases h;exact⟨b,Z,d⟩
theorem tF(bs:List Bool):((S1 bs.length).all λi=>(bs[i]?).getD Ep)=bs.all id:=by
 rw[T7,Z3,Z3];constructor
 .intro h b a;obtain⟨i,hi,e⟩:=l6.mp a;have:=h i<|V4.mpr hi;rw[L0 hi,c7,e]at this;exact this
 .intro h i hi;have hi:=V4.mp hi;rw[L0 hi,c7];exact h _<|S5 hi
theorem zy(k:X.calm=Ep):VZ X (.builtin "all") (GN X.K):=by
 intro ae s σ H B us Q I r h;obtain⟨a,bs,rfl,l,q⟩:=h;obtain⟨u,rfl,m⟩:=yK r;cases m;obtain⟨be,d,p,C⟩:=I.list l;have hl:=p.isList;have ge:a<s.heap.objs.size:=by obtain⟨_,e,_⟩:=hl;exact Q0 e
 refine call_all_walk<|Pg hl ?_;refine⟨s.heap.objs.size,[s.heap.objs.size,a],[s.heap.objs.size],be.toArray.size,_,_,λi=>(bs[i]?).getD Ep,Z,Walks.list (A:=X.A.in1) (I.ok.hd k) _ a (X0 ge) be.toArray,
   ⟨⟨_,O0 _ Z,Z,Z⟩,hl.push _⟩,λi v s' F G t g=>?_,λh' w x=>?_⟩
 .obtain⟨b,e,rfl⟩:=sD d i v (by simpa using t);simp only[e,c7]at g;exact Lf g
 .have e:((S1 be.toArray.size).all λi=>(bs[i]?).getD Ep)=bs.all id:=by
   have j:=d.length;rw[l0]at j;rw[S0,<-j];exact tF bs
  rw[e];refine⟨.bl<|bs.all id,H,I.kept (h':=h') (t':=w) λb o c=>x b o (λy=>?_)<|j0 _ c,Z,q⟩;rw[T1.mp y]at c;exact P4 _<|Q0 c
def Sq(k:Kd)(K:M0)(H:Hp)(a:Hd)(b:List V):Prop:=match k with | .l=>SqL K H a b | .t=>SqT K H a b
theorem Inv.sq(I:Inv X ae σ H s)(h:Sq k X.K H a xs):∃be:Et,Vals xs be/\SqAt k s.heap a be.toArray/\xs.length<=sizeLine:=by
 cases k with
 |l=>obtain⟨be,r,p,z⟩:=I.list h;exact⟨be,r,p.isList,z⟩
 |t=>obtain⟨be,r,p,z⟩:=I.tuple h;exact⟨be,r,p,z⟩
theorem Inv.sq_inj(I:Inv X ae σ H s)(h:Sq k X.K H a xs)(h':Sq k X.K H a ys):xs=ys:=by
 cases k with
 |l=>exact I.list_inj h h'
 |t=>exact I.tuple_inj h h'
noncomputable def HN(K:M0)(e:Kd)(g:Kd)(l1 l2:Hd):It :=
 ⟨λi H=>∃a c b d,Sq e K H l1 a/\Sq g K H l2 b/\a[i]?=O c/\b[i]?=O d,
  λi H x j=>∃T c d,H T=U/\x=.ref T/\j=gJ H T (.tup [c,d])/\(∀ys,Sq e K H l1 ys->ys[i]?=O c)/\(∀ys,Sq g K H l2 ys->ys[i]?=O d),
  λi H=>∃a b,Sq e K H l1 a/\Sq g K H l2 b/\(a.length<=i\/b.length<=i)⟩
noncomputable def Ay(K:M0)(S:List Zk):It :=
 ⟨λi H=>∀u∈S,∃ys x,Sq u.k K H u.l ys/\ys[i]?=O x,
  λi H x b=>∃T a,H T=U/\x=.ref T/\b=gJ H T (.tup a)/\a.length=S.length/\∀p∈S.zip a,∀ys,Sq p.1.k K H p.1.l ys->ys[i]?=O p.2,
  λi H=>(∀u∈S,∃ys,Sq u.k K H u.l ys)/\∃u∈S,∃ys,Sq u.k K H u.l ys/\ys.length<=i⟩
theorem NR(I:Inv X ae σ H s){S:List Zk}:∀{a:Et},a.length=S.length->(∀u∈S,∃ys x,Sq u.k X.K H u.l ys/\ys[i]?=O x)->(∀p∈S.zip a,Nx s.heap i p.1 p.2)->∃b:List V,Vals b a/\b.length=S.length/\∀p∈S.zip b,∀ys,Sq p.1.k X.K H p.1.l ys->ys[i]?=O p.2:=by
 induction S with
 |nil=>intro a n _ _;cases a with|nil=>exact⟨[],.nil,rfl,λp h=>by cases h⟩|cons _ _=>cases n
 |cons u S j =>
  intro a n d nx;cases a with
  |nil=>cases n
  |cons v a =>
  obtain⟨ys,x,q,e⟩:=d u G0;obtain⟨be,m,p,_⟩:=I.sq q;obtain⟨F,hw,t⟩:=m.get e;obtain⟨w,y,B⟩:=nx (u,v) G0;cases y.inj p;have:be[i]?=O v:=by simpa using B
  cases hw.symm.trans this;obtain⟨b,r,l,h⟩:=j (k8 n) (λu h=>d u<|q0 _ h) λp h=>nx p<|q0 _ h;refine⟨x::b,.cons t r,by rw[J2,l];rfl,λp c C g=>?_⟩;rcases R0.mp c with rfl|c
  .rw[I.sq_inj g q];exact e
  .exact h p c C g
theorem EG{K:M0}(S:List Zk)(z TI TO:Hd)(D:ZA S z TI TO)(mf:S≠[])(h3:S.length<=3):Turn P w K (.Tuple es kk pos) (Ay K S) (z::TI::TO::S.map (·.i)) z (λi h=>Rh h z TI TO .none/\qJ h TI (S.map λu=>.ref u.i)/\(∃as:Et,as.length=S.length/\qJ h TO as)/\∀u∈S,ItAt u.k h u.i u.l i) where
 mem:=by simp
 obj:=λi h st b a=>by
  obtain⟨F,C,⟨as,R,G⟩,t⟩:=st;simp only[R0,v0]at a;rcases a with rfl|rfl|rfl|⟨u,d,rfl⟩
  .exact⟨_,F,λv e=>by cases e⟩
  .exact⟨_,C,λv e=>by cases e⟩
  .exact⟨_,G,λv e=>by cases e⟩
  .exact(t u d).obj
 keep:=λi h h' st k=>by obtain⟨F,C,⟨as,R,G⟩,t⟩:=st;exact⟨k _ (by simp) _ F,k _ (by simp) _ C,⟨as,R,k _ (by simp) _ G⟩,λu d=>(t u d).at λo e=>k _ (by simp;exact .inr<|.inr<|.inr ⟨u,d,Z⟩) _ e⟩
 item:=by
  intro X hP hw hK hc i ae s σ H E I hf st L;subst hP hw hK;obtain⟨F,C,⟨as,R,G⟩,t⟩:=st;have hS:∀u∈S,∃y,SqAt u.k s.heap u.l y:=λu d=>by obtain⟨ys,x,q,e⟩:=L u d;obtain⟨be,M,p,_⟩:=I.sq q;exact⟨_,p⟩
  refine lW D mf h3 F C G R t hS (λY h' n nx b1 b2 b3 b5 b6 b7=>?_) λ⟨u,d,y,p,e⟩=>?_
  rotate_left
  .obtain⟨ys,x,q,e'⟩:=L u d;obtain⟨be,M,p',_⟩:=I.sq q;obtain⟨w',hw,_⟩:=M.get e';cases p.inj p';have:be[i]?=none:=by simpa using e
   cases this.symm.trans hw
  obtain⟨y,M,lx,hx⟩:=NR I n L nx;have hTn:s.heap.objs.size≠z:=G4<|Q0 F;refine⟨_,Z,wpAny_letOwnedTupleGo_zip (s:={s with heap:=h'}) b1 λh2 hz2 ui=>?_⟩;have kp:∀b o,b∉z::TI::TO::S.map (·.i)->s.heap.get? b=O o->h2.get? b=O o:=λb o a e=>by simp only[R0,v0,not_or,not_exists,not_and]at a;obtain⟨g1,g2,g3,f⟩:=a;exact ui.extBut _ _ g1<|b7 b o g1 g3 (λu d z=>f u d z.symm) e
  have hTI2:qJ h2 TI (S.map λu=>.ref u.i):=ui.extBut _ _ D.TIz<|b7 TI _ D.TIz (L5 D.TOTI) (λu d=>(D.i u d).2.1.symm) C;have uo:qJ h2 s.heap.objs.size Y:=ui.extBut _ _ hTn b5;have ag:H s.heap.objs.size=none:=I.hok.fresh<|P0 _;have zm:∀b u,H b=O u->b∉z::TI::TO::S.map (·.i):=λb u e a=>by have:=(hf b a).1;rw[e]at this;cases this
  have I2:Inv X ae σ (gJ H s.heap.objs.size<|.tup y) {s with heap:=h2}:=by
   refine I.step (g':=s.gens) (d':=s.drawn) (ch:=z::TI::TO::S.map (·.i)) (λb a=>?_) (λb o _ _ g e _=>kp b o g e) (λb o _ _ g e _=>⟨o.slots,kp b o g e⟩) (λb o _ e n=>?_)
    (λb o g e=>⟨o,kp b o g e⟩) (λb y e=>?_) (λb o y e=>?_) (λb ps e=>⟨#[],?_⟩) (λm hm=>?_) (λb o e=>?_) I.bare
   .obtain⟨f0,f1,f2,f3,f4,f5⟩:=hf b a;exact⟨f3,f1,f4,f5⟩
   .rw[bZ<|X0<|Q0 e];exact n
   .rw[bZ<|eZ e ag];exact e
   .rw[bZ<|eZ e ag];exact e
   .rw[bZ<|eZ e ag,e];simp
   .obtain⟨o,mn,ep,ho,r⟩:=hm;exact⟨o,mn,ep,kp _ o (λa=>(hf _ a).2.1 Z) ho,r⟩
   .by_cases a:b=s.heap.objs.size
    .subst a;rw[uZ]at e;cases e;exact⟨K0 (by rw[lx];exact h3)<|by decide,Y,M,_,uo,Z,_,Z,Z⟩
    .rw[bZ a]at e;refine(I.hok b o e).stay (λc v g q=>kp c v ?_ q) (λc q=>by rw[bZ<|eZ q ag];exact q) λc y q=>by rw[bZ<|eZ q ag];exact q
     rcases g with rfl|g
     .exact zm _ _ e
     .exact zm _ _ g
  refine⟨.ref s.heap.objs.size,_,I2,Z,⟨_,y,ag,Z,Z,lx,hx⟩,⟨hz2,hTI2,⟨Y,n,ui.extBut _ _ D.TOz b2⟩,λu d=>(b3 u d).at λo e=>ui.extBut _ _ (D.i u d).1 e⟩,λb a=>?_⟩;rw[bZ ?_]
  .exact(hf b a).1
  .rintro rfl;simp only[R0,v0]at a;rcases a with e|e|e|⟨u,d,e⟩
   .exact hTn e
   .exact G4 (Q0 C) e
   .exact G4 (Q0 G) e
   .obtain⟨o,eo,_⟩:=(t u d).obj;exact G4 (Q0 eo) e.symm
 done:=by
  intro X hP hw hK hc i ae s σ H E I hf st L;subst hP hw hK;obtain⟨F,C,⟨as,R,G⟩,t⟩:=st;obtain⟨L,u,d,ys,q,je⟩:=L;have hS:∀u∈S,∃y,SqAt u.k s.heap u.l y:=λu d=>by obtain⟨ys,q⟩:=L u d;obtain⟨be,M,p,_⟩:=I.sq q;exact⟨_,p⟩
  refine lW D mf h3 F C G R t hS (λY h' n nx _ _ _ _ _ _=>?_) λ_=>⟨I.ok.hd hc,λh' kp=>⟨Z,?_⟩⟩
  .obtain⟨j,hj,ej⟩:=V5 d;obtain⟨y,p,e⟩:=nx (u,Y[j]'(u0 hj<|V0 n.symm)) (by rw[<-ej];exact l6.mpr ⟨j,by simp;exact u0 hj<|T5 (V0 Z)<|V0 n.symm,by simp⟩);obtain⟨be,M,p',_⟩:=I.sq q;cases p.inj p';have l:=M.length;have:be[i]?=none:=S4.mpr (by lia);have e:be[i]?=O (Y[j]'(u0 hj<|V0 n.symm)):=by simpa using e
   cases this.symm.trans e
  .have zm:∀b u,H b=O u->b∉z::TI::TO::S.map (·.i):=λb u e a=>by have:=(hf b a).1;rw[e]at this;cases this
   have B:∀b o,b∉z::TI::TO::S.map (·.i)->s.heap.get? b=O o->h'.get? b=O o:=λb o a e=>by simp only[R0,v0,not_or,not_exists,not_and]at a;obtain⟨g1,g2,g3,f⟩:=a;exact kp b o g1 g3 (λu d z=>f u d z.symm) e
   refine I.step (g':=s.gens) (d':=s.drawn) (ch:=z::TI::TO::S.map (·.i)) (λb a=>?_) (λb o _ _ g e _=>B b o g e) (λb o _ _ g e _=>⟨o.slots,B b o g e⟩) (λb o _ e n=>n)
    (λb o g e=>⟨o,B b o g e⟩) (λb y e=>e) (λb o y e=>e) (λb ps e=>⟨#[],by rw[e];simp⟩) (λm hm=>?_) (λb o e=>?_) I.bare
   .obtain⟨f0,f1,f2,f3,f4,f5⟩:=hf b a;exact⟨f3,f1,f4,f5⟩
   .obtain⟨o,mn,ep,ho,r⟩:=hm;exact⟨o,mn,ep,B _ o (λa=>(hf _ a).2.1 Z) ho,r⟩
   .refine(I.hok b o e).stay (λc v g q=>B c v ?_ q) (λ_ q=>q) λ_ _ q=>q;rcases g with rfl|g
    .exact zm _ _ e
    .exact zm _ _ g
 self:=λ_ _ _ _ _ st h=>Qh st.1 h
theorem Turn.mono{K:M0}(t:Turn P w K tg J fp it tn)(g:∀i H,J'.go i H->J.go i H)(y:∀i H x j,J.yld i H x j->J'.yld i H x j)(d:∀i H,J'.stop i H->J.stop i H):Turn P w K tg J' fp it tn where
 mem:=t.mem
 obj:=t.obj
 keep:=t.keep
 item:=λX a b c e i ae s σ H E I f q h=>wpAny_mono (t.item X a b c e i ae s σ H E I f q<|g i H h) (λr C ⟨u,k,p⟩=>⟨u,k,wpAny_mono p (λ_ F ⟨x,j,l,m,v,B⟩=>⟨x,j,l,m,y _ _ _ _ v,B⟩) λ_ _ z=>z⟩) λ_ _ z=>z
 done:=λX a b c e i ae s σ H E I f q h=>t.done X a b c e i ae s σ H E I f q (d i H h)
 self:=t.self
theorem jw{K:M0}(d:Kd)(e:Kd)(z TI TO i1 i2 l1 l2:Hd)(D:ZAp2 z TI TO i1 i2 l1 l2):Turn P w K (.Tuple es kk pos) (HN K d e l1 l2) [z,TI,TO,i1,i2] z (λi h=>Rh h z TI TO .none/\qJ h TI [.ref i1,.ref i2]/\(∃as:Et,as.length=2/\qJ h TO as)/\∀u∈[Zk.mk d i1 l1,⟨e,i2,l2⟩],ItAt u.k h u.i u.l i):=
 (EG [⟨d,i1,l1⟩,⟨e,i2,l2⟩] z TI TO D.za (by simp)<|k6 2).mono (λi H h=>by obtain⟨t,m,v,q,g,j,y,B⟩:=h;simp[Ay];exact⟨⟨_,g,_,y⟩,_,j,_,B⟩)
  (λi H x C h=>by obtain⟨T,F,a,b,c,n,h⟩:=h;obtain⟨m,q,rfl⟩:=pF n;exact⟨T,m,q,a,b,c,h (⟨d,i1,l1⟩,m)<|by simp,h (⟨e,i2,l2⟩,q)<|by simp⟩)
  λi H h=>by obtain⟨t,v,g,j,h⟩:=h;simp[Ay];exact⟨⟨⟨_,g⟩,_,j⟩,h.elim (λh=>.inl ⟨_,g,h⟩) λh=>.inr ⟨_,j,h⟩⟩
noncomputable def IN(K:M0)(j:Kd)(k:Kd)(l:Kd)(l1 l2 m:Hd):It :=
 ⟨λi H=>∃a d b e c g,Sq j K H l1 a/\Sq k K H l2 b/\Sq l K H m c/\a[i]?=O d/\b[i]?=O e/\c[i]?=O g,
  λi H x q=>∃T d e g,H T=U/\x=.ref T/\q=gJ H T (.tup [d,e,g])/\(∀ys,Sq j K H l1 ys->ys[i]?=O d)/\(∀ys,Sq k K H l2 ys->ys[i]?=O e)/\(∀ys,Sq l K H m ys->ys[i]?=O g),
  λi H=>∃a b c,Sq j K H l1 a/\Sq k K H l2 b/\Sq l K H m c/\(a.length<=i\/b.length<=i\/c.length<=i)⟩
theorem lw{K:M0}(e g j:Kd)(z TI TO i1 i2 d l1 l2 m:Hd)(D:ZA [⟨e,i1,l1⟩,⟨g,i2,l2⟩,⟨j,d,m⟩] z TI TO):Turn P w K (.Tuple es kk pos) (IN K e g j l1 l2 m) [z,TI,TO,i1,i2,d] z (λi h=>Rh h z TI TO .none/\qJ h TI [.ref i1,.ref i2,.ref d]/\(∃as:Et,as.length=3/\qJ h TO as)/\∀u∈[Zk.mk e i1 l1,⟨g,i2,l2⟩,⟨j,d,m⟩],ItAt u.k h u.i u.l i):=
 (EG [⟨e,i1,l1⟩,⟨g,i2,l2⟩,⟨j,d,m⟩] z TI TO D (by simp)<|P0 3).mono (λi H h=>by obtain⟨G,y,L,B,M,C,q,t,v,R,S,Y⟩:=h;simp[Ay];exact⟨⟨_,q,_,R⟩,⟨_,t,_,S⟩,_,v,_,Y⟩)
  (λi H x H' h=>by
    obtain⟨T,F,a,b,c,n,h⟩:=h;cases F with
    |nil=>cases n
    |cons y F=>obtain⟨B,C,rfl⟩:=pF<|k8 n;exact⟨T,y,B,C,a,b,c,h (⟨e,i1,l1⟩,y)<|by simp,h (⟨g,i2,l2⟩,B)<|by simp,h (⟨j,d,m⟩,C)<|by simp⟩)
  λi H h=>by obtain⟨G,L,M,q,t,v,h⟩:=h;simp[Ay];exact⟨⟨⟨_,q⟩,⟨_,t⟩,_,v⟩,h.elim (λh=>.inl ⟨_,q,h⟩) λh=>.inr<|h.elim (λh=>.inl ⟨_,t,h⟩) λh=>.inr ⟨_,v,h⟩⟩
def Uj(K:M0)(d:TA):TI:=λσ H R=>d σ H λe a=>∃(b:Kd) (l1:Hd) (g:List V) (c:Kd) (l2:Hd) (i:List V),e=[.ref l1,.ref l2]/\Sq b K a l1 g/\Sq c K a l2 i/\R (HN K b c l1 l2) a
theorem fE{es:Rs}{kk:Nat}{cg:Pos}{a b:Ge}{x:TA}{p pos:Pos}(hg:Gl X "zip")(hm:X.mg "zip"=U)(ha:PA X [a,b] x)(hs:Xd [a,b] X.env=(Er,Cf a X.env)::Xd [b] X.env:=by rfl)(ye:(Rf pos<|Xd [b] X.env).any (·.1)=false:=by rfl) :
  PI X (.Tuple es kk cg) (.Call (.Name "zip" p) [a,b] [] pos) (Uj X.K x):=by
 intro ae s σ H R I h;refine Call_<|EY I hg hm boot_zip<|O5 (uJ (ha pos ae s σ H _ I h) λus c ⟨vs,H1,j,r1,v⟩=>?_) hs ye;obtain⟨d,l1,qg,g,l2,kg,e,v,q2,q⟩:=v;subst e;obtain rfl:us=[.ref l1,.ref l2]:=by cases r1 with|cons r w=>cases r;cases w with|cons r w=>cases r;cases w;rfl
 obtain⟨il,rv1,y,z1⟩:=j.sq v;obtain⟨gf,rv2,B,z2⟩:=j.sq q2;have lt:∀{k:Kd}{l:Hd}{C:Eo Cd},SqAt k c.heap l C->l<c.heap.objs.size:=λ{k l C} p=>by
  cases k with
  |l=>obtain⟨o,e,_⟩:=p;exact Q0 e
  |t=>obtain⟨o,e,_⟩:=p;exact Q0 e
 refine Dn F.called_zip (by decide) (F.typeCall_zip_2 _ _) (F.newCall_zip_2 _ _) (λobj=>F.args_object_init_3 obj _ _) F.entry_zip_new (qD d g l1 l2 il.toArray gf.toArray) ⟨y,B,?_⟩;have G:(cw c.heap d g l1 l2).objs.size=c.heap.objs.size+2:=by simp[Z1]
 have L:(fw c.heap d g l1 l2).objs.size=c.heap.objs.size+3:=by simp[Z1]
 have M:(gw c.heap d g l1 l2).objs.size=c.heap.objs.size+4:=by simp[Z1]
 have m:(AY c.heap d g l1 l2).get? (gw c.heap d g l1 l2).objs.size=O _:=O0 _ Z;have P:(AY c.heap d g l1 l2).get? (fw c.heap d g l1 l2).objs.size=O _:=j0 _<|O0 _ Z;have S:(AY c.heap d g l1 l2).get? (cw c.heap d g l1 l2).objs.size=O _:=j0 _<|j0 _<|O0 _ Z;have g1:(AY c.heap d g l1 l2).get? c.heap.objs.size=O (QZ d l1):=j0 _ (j0 _<|j0 _<|j0 _<|O0 _<|by cases d<;>rfl);have g2:(AY c.heap d g l1 l2).get? (c.heap.push<|QZ d l1).objs.size=O (QZ g l2):=j0 _ (j0 _<|j0 _<|O0 _<|by cases g<;>rfl);have Y:(c.heap.push<|QZ d l1).objs.size=c.heap.objs.size+1:=by simp[Z1]
 rw[M,L,G]at m;rw[G,Y]at S;rw[L]at P;rw[Y]at g2;show _/\_;rw[M];have kp:∀b o,c.heap.get? b=O o->(AY c.heap d g l1 l2).get? b=O o:=λb o e=>j0 _<|j0 _<|j0 _<|j0 _<|j0 _<|e;refine⟨⟨_,m,Z⟩,Qh (s:={c with heap:=AY c.heap d g l1 l2}) m ?_⟩;refine⟨_,[c.heap.objs.size+4,c.heap.objs.size+2,c.heap.objs.size+3,c.heap.objs.size,c.heap.objs.size+1],_,_,H1,Z,j.kept (t':=c.toks) kp,jw d g _ _ _ _ _ l1 l2<|LR _ l1 l2 (lt y)<|lt B,⟨m,S,⟨[.none,.none],Z,P⟩,by simp;exact⟨ItAt.new d g1,ItAt.new g g2⟩⟩,λb i=>?_,q⟩;have i:c.heap.objs.size<=b:=by
  have i:b=c.heap.objs.size+4\/b=c.heap.objs.size+2\/b=c.heap.objs.size+3\/b=c.heap.objs.size\/b=c.heap.objs.size+1:=by simpa using i
  rcases i with rfl|rfl|rfl|rfl|rfl;all_goals first|exact W1 _ _|exact P0 _
 exact j.fpOk i<|j.hok.fresh i
def Vj(K:M0)(g:TA):TI:=λσ H R=>g σ H λi a=>∃(c:Kd) (l1:Hd) (j:List V) (d:Kd) (l2:Hd) (k:List V) (e:Kd) (b:Hd) (l:List V),i=[.ref l1,.ref l2,.ref b]/\Sq c K a l1 j/\Sq d K a l2 k/\Sq e K a b l/\R (IN K c d e l1 l2 b) a
theorem aH(a b c:Cd):checkTypeCall "zip" ⟨[a,b,c],[]⟩=pure ():=by kernel_rfl
theorem bG(a b c:Cd):checkBuiltinCall "zip.__new__" ⟨[.type "zip",a,b,c],[]⟩=pure ():=by kernel_rfl
theorem BW(a b c d:Cd):Mm "object.__init__" ⟨[a,b,c,d],[]⟩:=by unfold Mm;rw[signature?_of (id:="object.__init__") (n:=['_','_','t','i','n','i','_','_']) (o:=['t','c','e','j','b','o']) (by kernel_rfl) F.owner_object];kernel_rfl
theorem iE{es:Rs}{kk:Nat}{cg:Pos}{a b c:Ge}{L:TA}{p pos:Pos}(hg:Gl X "zip")(hm:X.mg "zip"=U)(ha:PA X [a,b,c] L)(hs:Xd [a,b,c] X.env=(Er,Cf a X.env)::Xd [b,c] X.env:=by rfl)(ye:(Rf pos<|Xd [b,c] X.env).any (·.1)=false:=by rfl) :
  PI X (.Tuple es kk cg) (.Call (.Name "zip" p) [a,b,c] [] pos) (Vj X.K L):=by
 intro ae s σ H R I h;refine Call_<|EY I hg hm boot_zip<|O5 (uJ (ha pos ae s σ H _ I h) λus d ⟨vs,H1,v,r1,G⟩=>?_) hs ye;obtain⟨g,l1,qg,i,l2,kg,j,m,xo,e,G,q2,q3,q⟩:=G;subst e;obtain rfl:us=[.ref l1,.ref l2,.ref m]:=by cases r1 with|cons r x=>cases r;cases x with|cons r x=>cases r;cases x with|cons r x=>cases r;cases x;rfl
 obtain⟨il,rv1,M,z1⟩:=v.sq G;obtain⟨gf,rv2,P,z2⟩:=v.sq q2;obtain⟨y,rv3,S,z3⟩:=v.sq q3;have lt:∀{k:Kd}{l:Hd}{Y:Eo Cd},SqAt k d.heap l Y->l<d.heap.objs.size:=λ{k l Y} p=>by
  cases k with
  |l=>obtain⟨o,e,_⟩:=p;exact Q0 e
  |t=>obtain⟨o,e,_⟩:=p;exact Q0 e
 refine Dn F.called_zip (by decide) (aH _ _ _) (bG _ _ _) (λobj=>BW obj _ _ _) F.entry_zip_new (yy g i j l1 l2 m il.toArray gf.toArray y.toArray) ⟨M,P,S,?_⟩;have zI:(cE d.heap g i j l1 l2 m).objs.size=d.heap.objs.size+3:=by simp[Z1]
 have zT:(dE d.heap g i j l1 l2 m).objs.size=d.heap.objs.size+4:=by simp[Z1]
 have zO:(eE d.heap g i j l1 l2 m).objs.size=d.heap.objs.size+5:=by simp[Z1]
 have C:(qF d.heap g i j l1 l2 m).get? (eE d.heap g i j l1 l2 m).objs.size=O _:=O0 _ Z;have gO:(qF d.heap g i j l1 l2 m).get? (dE d.heap g i j l1 l2 m).objs.size=O _:=j0 _<|O0 _ Z;have gT:(qF d.heap g i j l1 l2 m).get? (cE d.heap g i j l1 l2 m).objs.size=O _:=j0 _<|j0 _<|O0 _ Z;have g1:(qF d.heap g i j l1 l2 m).get? d.heap.objs.size=O (QZ g l1):=j0 _ (j0 _<|j0 _<|j0 _<|j0 _<|O0 _<|by cases g<;>rfl);have g2:(qF d.heap g i j l1 l2 m).get? (d.heap.push<|QZ g l1).objs.size=O (QZ i l2):=j0 _ (j0 _<|j0 _<|j0 _<|O0 _<|by cases i<;>rfl);have yp:(d.heap.push<|QZ g l1).objs.size=d.heap.objs.size+1:=by simp[Z1]
 have g3:(qF d.heap g i j l1 l2 m).get? ((d.heap.push<|QZ g l1).push<|QZ i l2).objs.size=O (QZ j m):=j0 _ (j0 _<|j0 _<|O0 _<|by cases j<;>rfl);have B:((d.heap.push<|QZ g l1).push<|QZ i l2).objs.size=d.heap.objs.size+2:=by simp[Z1]
 rw[zO,zT,zI]at C;rw[zI,yp,B]at gT;rw[zT]at gO;rw[yp]at g2;rw[B]at g3;show _/\_;rw[zO];have kp:∀b o,d.heap.get? b=O o->(qF d.heap g i j l1 l2 m).get? b=O o:=λb o e=>j0 _<|j0 _<|j0 _<|j0 _<|j0 _<|j0 _<|e;refine⟨⟨_,C,Z⟩,Qh (s:={d with heap:=qF d.heap g i j l1 l2 m}) C ?_⟩;refine⟨_,[d.heap.objs.size+5,d.heap.objs.size+3,d.heap.objs.size+4,d.heap.objs.size,d.heap.objs.size+1,d.heap.objs.size+2],_,_,H1,Z,v.kept (t':=d.toks) kp,lw g i j _ _ _ _ _ _ l1 l2 m<|D_ g i j _ l1 l2 m (lt M) (lt P)<|lt S,⟨C,gT,⟨[.none,.none,.none],Z,gO⟩,by simp;exact⟨ItAt.new g g1,ItAt.new i g2,ItAt.new j g3⟩⟩,λb w=>?_,q⟩;have w:d.heap.objs.size<=b:=by
  have w:b=d.heap.objs.size+5\/b=d.heap.objs.size+3\/b=d.heap.objs.size+4\/b=d.heap.objs.size\/b=d.heap.objs.size+1\/b=d.heap.objs.size+2:=by simpa using w
  rcases w with rfl|rfl|rfl|rfl|rfl|rfl;all_goals first|exact W1 _ _|exact P0 _
 exact v.fpOk w<|v.hok.fresh w
mutual
inductive Is (K:M0) (H:Hp):V->Od->Prop
 |non:Is K H .non .none
 |bl (b):Is K H (.bl b) (.bool b)
 |int (i):Is K H (.int i) (.int i)
 |str (x):Is K H (.str x) (.str x)
 |lst {a xs ds}:SqL K H a xs->IsAll K H xs ds->Is K H (.ref a) (.list ds)
 |tup {a xs ds}:SqT K H a xs->IsAll K H xs ds->Is K H (.ref a) (.tuple ds)
inductive IsAll (K:M0) (H:Hp):List V->Rt->Prop
 |nil:IsAll K H [] []
 |cons {x xs d ds}:Is K H x d->IsAll K H xs ds->IsAll K H (x::xs) (d::ds)
end
theorem Is.reads(I:Inv X ae σ H s){x:V}{d:Od}{u:Cd}(h:Is X.K H x d)(r:RelV x u):∃as,Reads s.heap u d as:=by
 refine Is.rec (motive_1:=λx d _=>∀u,RelV x u->∃as,Reads s.heap u d as) (motive_2:=λm v _=>∀us,Vals m us->∃as,ReadsAll s.heap us v as) (λu r=>?_) (λb u r=>?_) (λi u r=>?_) (λx u r=>?_) (λj _ g u r=>?_) (λj _ g u r=>?_) (λus r=>?_) (λ_ _ g w us r=>?_) h u r
 .cases r;exact⟨_,.none⟩
 .cases r;exact⟨_,.bool b⟩
 .obtain⟨t,rfl⟩:=r;exact⟨_,.int i t⟩
 .obtain⟨t,rfl⟩:=r;exact⟨_,.str x t⟩
 .cases r;obtain⟨be,k,⟨o,n,e,c,d,q⟩,z⟩:=I.list j;obtain⟨as,l⟩:=g _ k;exact⟨_,.list e c q<|by simpa using l⟩
 .cases r;obtain⟨be,k,⟨o,e,c,n,q⟩,z⟩:=I.tuple j;obtain⟨as,l⟩:=g _ k;exact⟨_,.tuple e c q<|by simpa using l⟩
 .cases r;exact⟨_,.nil⟩
 .cases r with
  |cons r y=>obtain⟨as,a⟩:=g _ r;obtain⟨bs,b⟩:=w _ y;exact⟨_,.cons a b⟩
open PySem.SeqAt in
def cG(K:M0)(a:Bool):R2:=λx y H Q=>∃d e:Od,Is K H x d/\Is K H y e/\shaped d=Ep/\shaped e=Ep/\noMix d e=Ep/\Q (.bl<|if a then !same d e else Ng d e) H
theorem JN(c:X.A.units+64<Ze):OpR X (Le .Eq) (cG X.K Er):=by intro ae s σ H x y v u Q I g i h;obtain⟨d,e,i1,i2,j,k,nm,q⟩:=h;obtain⟨as,a⟩:=i1.reads I g;obtain⟨bs,b⟩:=i2.reads I i;exact eq_dataH_same a b j k c nm ⟨.bl _,H,I,Z,q⟩
theorem KN(c:X.A.units+64<Ze):OpR X (Le .NotEq) (cG X.K Ep):=by intro ae s σ H x y v u Q I g i h;obtain⟨d,e,i1,i2,j,k,nm,q⟩:=h;obtain⟨as,a⟩:=i1.reads I g;obtain⟨bs,b⟩:=i2.reads I i;exact ne_dataH_same a b j k c nm ⟨.bl _,H,I,Z,q⟩
structure Cal(P:De)(w:Be)(K:M0)(mg:Str->Do Cd)(base:Ke)(k:Nat)(x:Str)(ps:Oo)(sp:Sp):Prop where
 ex:∃(f:Hd) (fd:Tg),FnOk P w K mg base mJ k f fd ps sp/\mg x=O (.ref f)/\i7 K (.ref f)=Ep/\Binds K fd ps []
theorem OL{k:Nat}{x:Str}{c:Oo}{b:Sp}{p pos:Pos}{e:Ge}{a:Rs}{t:TA}(C:Cal X.prog X.w X.K X.mg X.base k x c b)(d:Room k X.A)(g:PA X (e::a) t)(i:Gl X x:=by rfl)
  (j:(x==("__debug__":Str))=false:=by decide) (l:Xd (e::a) X.env=(Er,Cf e X.env)::Xd a X.env:=by rfl) (m:(Rf pos<|Xd a X.env).any (·.1)=false:=by rfl) :
  PE X (.Call (.Name x p) (e::a) [] pos) (vG b [] E0 t):=by
 obtain⟨f,fd,F,q,v,y⟩:=C.ex;exact TC F d i q v y .nil HR g j l m
noncomputable def MY(a:Bm)(N:Oo)(fr:Os)(sc:Bm):Bool :=
 Es (sc.kind=.function)&&(sc.names.all λy=>!Es (y.2=.cell)||decide (sc.names.lookup y.1=O .cell))&&(sc.names.all λy=>!Es (y.2=.local)||decide (sc.names.lookup y.1=O .local)) &&
 (sc.names.all λy=>!Es (y.2=.free)||(Es (a.names.lookup y.1=O .cell)||decide (a.names.lookup y.1=O .free))) &&
 (fr.all λi=>match N[i]? with|some x=>Es (sc.names.lookup x=O .free)|none=>Er)
theorem FG(h:MY X.env.scope X.N fr sc=Ep):CompSc X own fr sc:=by
 unfold MY at h;simp only[J1,decide_eq_true_eq,Z3,Bool.or_eq_true,Bool.not_eq_true',decide_eq_false_iff_not]at h;obtain⟨⟨⟨⟨a,b⟩,c⟩,d⟩,g⟩:=h;refine⟨a,λy hy e=>?_,λy hy e=>?_,λy hy e=>?_,λi hi=>?_⟩
 .rcases b y hy with z|z
  .exact absurd e z
  .exact z
 .rcases c y hy with z|z
  .exact absurd e z
  .exact z
 .rcases d y hy with z|z
  .exact absurd e z
  .exact z
 .have:=g i hi;cases q:X.N[i]? with
  |none=>rw[q]at this;cases this
  |some x=>rw[q]at this;exact⟨x,Z,Ld this⟩
def OR(J:It)(own:Oo)(fr:Os)(g:TG)(q:TT)(t:TE)(σ:St)(H:Hp)(Q:VK):Prop :=
 ∃W:Nat->Nat->List V->St->Hp->Prop,(∃m,W 0 m [] (DN own σ fr) H)/\∀i m ys e H,W i m ys e H ->
   (J.stop i H/\∀D,H D=U->Q (.ref D) (gJ H D<|.lst ys)) \/
   (J.go i H/\ys.length<sizeLine/\∃N:List V->St->Hp->Prop,(∀j c d,N j c d->∃k,k<m/\W (i+1) k j c d)/\∀x d,J.yld i H x d->g x e d λa v=>q a v λb l=>if b=Ep then t a l λy w=>N (ys++[y]) a w else N ys a l)
def bH(a:TI)(own:Oo)(fr:Os)(g:TG)(b:TT)(c:TE):TE:=λσ H Q=>a σ H λJ d=>OR J own fr g b c σ d Q
theorem By{pos:Pos}{own:Oo}{a:TI}{g:TG}{b:TT}{c:TE}(d:X.calm=Ep)(S:CompSc X own fr sc)(hi:PI X tg me a)
  (e:∀C s H ex,PG (nZ X own fr sc C s H ex) tg g) (i:∀C s H ex,xy (nZ X own fr sc C s H ex) jg b) (j:∀C s H ex,PE (nZ X own fr sc C s H ex) fg c)
  (k:∀x,Yf me X.env x=pure x:=by intro _;rfl):PE X (.ListComp fg [⟨tg,me,jg,0⟩] sc pos) (bH a own fr g b c):=bE d S hi e i j k
theorem tD{pos b c:Pos}{i:Nat}{y:Str}{own:Oo}{d:TI}{g:TG}{e:TT}{j:TE}(hN:X.N.Nodup)(hy:X.N[i]?=O y)(hl:X.env.scope.names.lookup y=O .local)(k:X.calm=Ep)(S:CompSc X own fr sc)(hi:PI X tg me d)
  (l:∀C s H ex,PG (nZ X own fr sc C s H ex) tg g) (m:∀C s H ex,xy (nZ X own fr sc C s H ex) jg e) (q:∀C s H ex,PE (nZ X own fr sc C s H ex) fg j)
  (a:Xi (.ListComp fg [⟨tg,me,jg,0⟩] sc pos) (O<|.Name y c) b.line X.env=pure true:=by rfl)
  (t:∀x,Yf me X.env x=pure x:=by intro _;rfl):PS X (.Assign [.Name y c] (.ListComp fg [⟨tg,me,jg,0⟩] sc pos) b) (DV (bH d own fr g e j)<|FY i):=uz hN hy hl k S hi l m q a t
section
variable {K:M0}
theorem Cy(h:X.K=K):IxR X (WC K):=by subst h;exact YC
theorem jE(h:X.K=K):IxR X (XC K):=by subst h;exact sN
def PR(K:M0):List V->Hp->VK->Prop:=λa H Q=>∃(p:Hd) (ys:List V),a=[.ref p]/\(SqL K H p ys\/SqT K H p ys)/\Q (.int ys.length) H
theorem mw(h:X.K=K):VZ X (.builtin "len") (PR K):=by subst h;exact nF
def Wj(K:M0):List V->Hp->VK->Prop:=λa H Q=>∃(p:Hd) (ys:List V),a=[.ref p]/\(SqL K H p ys\/SqT K H p ys)/\∀l,H l=U->Q (.ref l) (gJ H l<|.lst ys)
theorem cH(h:X.K=K):VZ X (.type "list") (Wj K):=by subst h;exact oF
def uD(K:M0):List V->Hp->VK->Prop:=λa H Q=>∃(p:Hd) (ys:List V),a=[.ref p]/\((SqL K H p ys/\∀l,H l=U->Q (.ref l) (gJ H l<|.tup ys))\/(SqT K H p ys/\Q (.ref p) H))
theorem vD(h:X.K=K):VZ X (.type "tuple") (uD K):=by subst h;exact ZH
theorem qw(h:X.K=K):VZ X (.builtin "isinstance") (iw K):=by subst h;exact rD
theorem zJ(h:X.K=K)(a:X.calm=Ep):VZ X (.builtin "all") (GN K):=by subst h;exact zy a
theorem kE(h:X.K=K)(a:X.A.units+64<Ze):OpR X (Le .Eq) (cG K Er):=by subst h;exact JN a
theorem lE(h:X.K=K)(a:X.A.units+64<Ze):OpR X (Le .NotEq) (cG K Ep):=by subst h;exact KN a
theorem Dy{d:Rs}{kk:Nat}{e:Pos}{a b:Ge}{c:TA}{p pos:Pos}(h:X.K=K)(g:Gl X "zip")(i:X.mg "zip"=U)(j:PA X [a,b] c)(k:Xd [a,b] X.env=(Er,Cf a X.env)::Xd [b] X.env:=by rfl)(l:(Rf pos<|Xd [b] X.env).any (·.1)=false:=by rfl) :
  PI X (.Tuple d kk e) (.Call (.Name "zip" p) [a,b] [] pos) (Uj K c):=by subst h;exact fE g i j k l
theorem Ey{e:Rs}{kk:Nat}{g:Pos}{a b c:Ge}{d:TA}{p pos:Pos}(h:X.K=K)(i:Gl X "zip")(j:X.mg "zip"=U)(k:PA X [a,b,c] d)(l:Xd [a,b,c] X.env=(Er,Cf a X.env)::Xd [b,c] X.env:=by rfl)(m:(Rf pos<|Xd [b,c] X.env).any (·.1)=false:=by rfl) :
  PI X (.Tuple e kk g) (.Call (.Name "zip" p) [a,b,c] [] pos) (Vj K d):=by subst h;exact iE i j k l m
theorem mE{a:Rs}{k:Nat}{t:AC}{pos:Pos}(h:X.K=K)(b:X.calm=Ep)(c:HL X a t)(d:(We a X.env).length=n:=by rfl)(e:(We a X.env).findIdx? (·.1)=none:=by rfl):PG X (.Tuple a k pos) (PC K n t):=by subst h;exact aN b c d e
end
theorem Fy{a:Et}(k:Wm s.heap t ([]:Et).toArray)(l:Wm s.heap b a.toArray)(h:Q (.ref b) s):Ed (Md prog w) A (Qf .Add (.ref t)<|.ref b) Q E s:=by obtain⟨⟨m,q,c,v⟩,d,e,n,hd⟩:=id k;obtain⟨⟨g,x,data2,y⟩,i,j,B,pi⟩:=id l;simp only at e hd j pi;subst e hd j pi;exact Cn ⟨_,d,Z⟩ ⟨_,i,Z⟩ Al Im PySem.F.slot_tuple_add PySem.F.entry_tuple_add (PySem.F.args_tuple_add_2 _ _) (tuple_addW0 t b _ a.toArray n B q x v y Z) ⟨d,i,h⟩
noncomputable abbrev QR(a:Hd):HO:=.ext λh=>∃o b c,h.get? a=O o/\o.ExactDict/\o.data=.dict b c
noncomputable def hL(k:Qo):Int:=Rm<|B6<|k.map hashInt
noncomputable def hB(k:Qo×Qo):Int:=Rm<|B6 [hL k.1,hL k.2]
noncomputable abbrev qK{b:Type}(g:b->Int)(a:Hd)(i:Nat)(c:List (b×Hd×V)):HO:=.ext λh=>(∃d:List (b×Hd×Cd),Paired (λx v=>x.1=v.1/\x.2.1=v.2.1/\RelV x.2.2 v.2.2) c d /\
  ∃o e,h.get? a=O o/\o.ExactDict/\o.data=.dict e i/\e.toList=d.map λx=>⟨g x.1,.ref x.2.1,x.2.2⟩)/\(c.map (·.1)).Nodup/\c.length<=sizeLine/\(a==Nf)=Er
noncomputable abbrev E_(a C:Hd):HO:=.ext λh=>∃o b,h.get? a=O o/\o.cls=.ref C/\o.data=.fields b
end L2
namespace L3
open L2
noncomputable abbrev D:=Od
noncomputable abbrev Fg:=M0
def Sub(F H:Hp):Prop:=∀a o,F a=O o->H a=O o
theorem Sub.refl(H:Hp):Sub H H:=λ_ _ h=>h
theorem Sub.trans{A:Hp}(h:Sub A B)(k:Sub B C):Sub A C:=λa o e=>k a o<|h a o e
theorem Sub.new{o:HO}(h:F a=U):Sub F (gJ F a o):=λb u e=>by rw[bZ<|eZ e h];exact e
theorem Sub.rd{F:Hp}{a:Hd}{u:HO}(s:Sub F H):Rd F a u->Rd H a u
 | .inl h=>.inl<|s _ _ h
 | .inr ⟨o,h⟩=>.inr ⟨o,s _ _ h⟩
theorem Sub.sql{K:Fg}{F:Hp}{a:Hd}{b:List V}(s:Sub F H):SqL K F a b->SqL K H a b
 | .inl h=>.inl<|s.rd h
 | .inr h=>.inr h
noncomputable def Gy:dY->D
 | .inl i=>.int i
 | .inr x=>.str x
noncomputable abbrev jY(ns:Qo):D:=.dict [(.none,.list<|ns.map n0)]
noncomputable abbrev F_(C:Hd):D:=.dict [(.bool Ep,.int (C:Nat))]
noncomputable abbrev G_:D:=.dict [(.bool Er,.none)]
noncomputable abbrev uU(a:List (Qo×D)):D:=.dict [(.bool Er,.list<|a.map λp=>.tuple [.tuple<|p.1.map n0,p.2])]
noncomputable abbrev uF(a:List ((Qo×Qo)×D)):D:=.dict [(.bool Er,.tuple<|a.map λp=>.tuple [.tuple [.tuple<|p.1.1.map n0,.tuple<|p.1.2.map n0],p.2])]
mutual
inductive Da (K:Fg) (F:Hp):V->D->Prop
 |non:Da K F .non .none
 |bl (b):Da K F (.bl b) (.bool b)
 |int (i):Da K F (.int i) (.int i)
 |str (x):Da K F (.str x) (.str x)
 |lst {a xs ds}:F a=O (.lst xs)->DaAll K F xs ds->Da K F (.ref a) (.list ds)
 |tup {a xs ds}:F a=O (.tup xs)->DaAll K F xs ds->Da K F (.ref a) (.tuple ds)
 |dk {a se es}:Rd F a (.dK se)->DaKV K F se es->Da K F (.ref a) (.dict es)
 |dt {a se es}:Rd F a (.dT se)->DaKT K F se es->Da K F (.ref a) (.dict es)
 |scr {a ns}:SqL K F a (ns.map V.int)->Da K F (.ref a) (jY ns)
 |exc {a C}:F a=O (E_ a C)->Da K F (.ref a) (F_ C)
 |opq {a}:F a=O (QR a)->Da K F (.ref a) G_
 |pd {a a' ep xs ps}:F a=O (qK hL a' ep xs)->DaPd K F xs ps->Da K F (.ref a) (uU ps)
 |bd {a ep xs ps}:F a=O (qK hB a ep xs)->DaBd K F xs ps->Da K F (.ref a) (uF ps)
inductive DaAll (K:Fg) (F:Hp):List V->List D->Prop
 |nil:DaAll K F [] []
 |cons {x xs d ds}:Da K F x d->DaAll K F xs ds->DaAll K F (x::xs) (d::ds)
inductive DaKV (K:Fg) (F:Hp):List (dY×V)->List (D×D)->Prop
 |nil:DaKV K F [] []
 |cons {k v d se es}:Da K F v d->DaKV K F se es->DaKV K F ((k,v)::se) ((Gy k,d)::es)
inductive DaKT (K:Fg) (F:Hp):List (List dY×V)->List (D×D)->Prop
 |nil:DaKT K F [] []
 |cons {ks v d se es}:Da K F v d->DaKT K F se es->DaKT K F ((ks,v)::se) ((.tuple<|ks.map Gy,d)::es)
inductive DaPd (K:Fg) (F:Hp):List (Qo×Hd×V)->List (Qo×D)->Prop
 |nil:DaPd K F [] []
 |cons {k b v d xs ps}:F b=O (.tup<|k.map V.int)->Da K F v d->DaPd K F xs ps->DaPd K F ((k,b,v)::xs) ((k,d)::ps)
inductive DaBd (K:Fg) (F:Hp):List ((Qo×Qo)×Hd×V)->List ((Qo×Qo)×D)->Prop
 |nil:DaBd K F [] []
 |cons {k b c e v d xs ps}:F b=O (.tup [.ref c,.ref e])->F c=O (.tup<|k.1.map V.int)->F e=O (.tup<|k.2.map V.int)->Da K F v d->DaBd K F xs ps->DaBd K F ((k,b,v)::xs) ((k,d)::ps)
end
section
variable {K:Fg}{F F':Hp}
theorem Da.mono(s:Sub F F'){v:V}{d:D}(h:Da K F v d):Da K F' v d:=by refine Da.rec (motive_1:=λv d _=>Da K F' v d) (motive_2:=λv d _=>DaAll K F' v d) (motive_3:=λv d _=>DaKV K F' v d) (motive_4:=λv d _=>DaKT K F' v d) (motive_5:=λv d _=>DaPd K F' v d) (motive_6:=λv d _=>DaBd K F' v d) .non .bl .int .str (λh _=>.lst<|s _ _ h) (λh _=>.tup<|s _ _ h) (λh _=>.dk<|s.rd h) (λh _=>.dt<|s.rd h) (λh=>.scr<|s.sql h) (λh=>.exc<|s _ _ h) (λh=>.opq<|s _ _ h) (λh _=>.pd<|s _ _ h) (λh _=>.bd<|s _ _ h) .nil (λ_ _=>.cons) .nil (λ_ _=>.cons) .nil (λ_ _=>.cons) .nil (λh _ _=>.cons<|s _ _ h) .nil (λh a b _ _=>.cons (s _ _ h) (s _ _ a)<|s _ _ b) h
theorem DaAll.mono(s:Sub F F'){a:List V}{b:List D}(h:DaAll K F a b):DaAll K F' a b:=by refine DaAll.rec (motive_1:=λ_ _ _=>True) (motive_2:=λv d _=>DaAll K F' v d) (motive_3:=λ_ _ _=>True) (motive_4:=λ_ _ _=>True) (motive_5:=λ_ _ _=>True) (motive_6:=λ_ _ _=>True) ?_ ?_ ?_ ?_ ?_ ?_ ?_ ?_ ?_ ?_ ?_ ?_ ?_ .nil (λh _ _=>.cons<|h.mono s) ?_ ?_ ?_ ?_ ?_ ?_ ?_ ?_ h<;>intros<;>trivial
theorem DaKV.mono(s:Sub F F'){a:List (dY×V)}{b:List (D×D)}(h:DaKV K F a b):DaKV K F' a b:=by refine DaKV.rec (motive_1:=λ_ _ _=>True) (motive_2:=λ_ _ _=>True) (motive_3:=λv d _=>DaKV K F' v d) (motive_4:=λ_ _ _=>True) (motive_5:=λ_ _ _=>True) (motive_6:=λ_ _ _=>True) ?_ ?_ ?_ ?_ ?_ ?_ ?_ ?_ ?_ ?_ ?_ ?_ ?_ ?_ ?_ .nil (λh _ _=>.cons<|h.mono s) ?_ ?_ ?_ ?_ ?_ ?_ h<;>intros<;>trivial
theorem DaKT.mono(s:Sub F F'){a:List (List dY×V)}{b:List (D×D)}(h:DaKT K F a b):DaKT K F' a b:=by refine DaKT.rec (motive_1:=λ_ _ _=>True) (motive_2:=λ_ _ _=>True) (motive_3:=λ_ _ _=>True) (motive_4:=λv d _=>DaKT K F' v d) (motive_5:=λ_ _ _=>True) (motive_6:=λ_ _ _=>True) ?_ ?_ ?_ ?_ ?_ ?_ ?_ ?_ ?_ ?_ ?_ ?_ ?_ ?_ ?_ ?_ ?_ .nil (λh _ _=>.cons<|h.mono s) ?_ ?_ ?_ ?_ h<;>intros<;>trivial
theorem DaPd.mono(s:Sub F F'){a:List (Qo×Hd×V)}{b:List (Qo×D)}(h:DaPd K F a b):DaPd K F' a b:=by refine DaPd.rec (motive_1:=λ_ _ _=>True) (motive_2:=λ_ _ _=>True) (motive_3:=λ_ _ _=>True) (motive_4:=λ_ _ _=>True) (motive_5:=λv d _=>DaPd K F' v d) (motive_6:=λ_ _ _=>True) ?_ ?_ ?_ ?_ ?_ ?_ ?_ ?_ ?_ ?_ ?_ ?_ ?_ ?_ ?_ ?_ ?_ ?_ ?_ .nil (λh v _ _=>.cons (s _ _ h)<|v.mono s) ?_ ?_ h<;>intros<;>trivial
theorem DaBd.mono(s:Sub F F'){a:List ((Qo×Qo)×Hd×V)}{b:List ((Qo×Qo)×D)}(h:DaBd K F a b):DaBd K F' a b:=by refine DaBd.rec (motive_1:=λ_ _ _=>True) (motive_2:=λ_ _ _=>True) (motive_3:=λ_ _ _=>True) (motive_4:=λ_ _ _=>True) (motive_5:=λ_ _ _=>True) (motive_6:=λv d _=>DaBd K F' v d) ?_ ?_ ?_ ?_ ?_ ?_ ?_ ?_ ?_ ?_ ?_ ?_ ?_ ?_ ?_ ?_ ?_ ?_ ?_ ?_ ?_ .nil (λh c e v _ _=>.cons (s _ _ h) (s _ _ c) (s _ _ e)<|v.mono s) h<;>intros<;>trivial
@[elab_as_elim] theorem DaAll.ind {M:∀xs ds,DaAll K F xs ds->Prop} (h0:M [] [] .nil) (h1:∀{v d xs ds} (h:Da K F v d) (r:DaAll K F xs ds),M xs ds r->M (v::xs) (d::ds) (.cons h r)) {xs:List V}{ds:List D} (h:DaAll K F xs ds):M xs ds h:=by refine DaAll.rec (motive_1:=λ_ _ _=>True) (motive_2:=λv d h=>M v d h) (motive_3:=λ_ _ _=>True) (motive_4:=λ_ _ _=>True) (motive_5:=λ_ _ _=>True) (motive_6:=λ_ _ _=>True) ?_ ?_ ?_ ?_ ?_ ?_ ?_ ?_ ?_ ?_ ?_ ?_ ?_ h0 (λh r _ i=>h1 h r i) ?_ ?_ ?_ ?_ ?_ ?_ ?_ ?_ h<;>intros<;>trivial
theorem DaAll.length(h:DaAll K F xs ds):xs.length=ds.length:=by
 induction h using DaAll.ind with
 |h0=>rfl
 |h1 _ _ i=>rw[J2,J2,i]
theorem DaAll.get{i:Nat}(h:DaAll K F xs ds):ds[i]?=O d->∃v,xs[i]?=O v/\Da K F v d:=by
 induction h using DaAll.ind generalizing i with
 |h0=>intro e;cases e
 |h1 h _ a =>
  cases i with
  |zero=>intro e;cases e;exact⟨_,Z,h⟩
  |succ i=>exact a
theorem DaAll.append(h:DaAll K F xs ds)(s:DaAll K F ys es):DaAll K F (xs++ys) (ds++es):=h.ind s λh _ i=>.cons h i
theorem DaAll.set(h:Da K F v d){a:List V}{b:List D}(i:Nat)(t:DaAll K F a b):DaAll K F (a.set i v) (b.set i d):=by
 induction t using DaAll.ind generalizing i with
 |h0=>exact .nil
 |h1 q t c=>cases i with|zero=>exact .cons h t|succ i=>exact .cons q<|c i
theorem DaAll.take(n:Nat)(t:DaAll K F xs ds):DaAll K F (xs.take n) (ds.take n):=by
 induction t using DaAll.ind generalizing n with
 |h0=>cases n<;>exact .nil
 |h1 q _ a=>cases n with|zero=>exact .nil|succ n=>exact .cons q<|a n
theorem DaAll.drop(n:Nat)(t:DaAll K F xs ds):DaAll K F (xs.drop n) (ds.drop n):=by
 induction t using DaAll.ind generalizing n with
 |h0=>cases n<;>exact .nil
 |h1 q t a=>cases n with|zero=>exact .cons q t|succ n=>exact a n
theorem DaAll.dropLast(t:DaAll K F xs ds):DaAll K F xs.dropLast ds.dropLast:=by rw[XQ,XQ,t.length];exact t.take _
theorem DaAll.rep{a:List V}{b:List D}(h:DaAll K F a b):∀k:Nat,DaAll K F (u3 k a).flatten (u3 k b).flatten
 |0=>.nil
 |k+1=>by rw[U5,U5,y7,y7];exact h.append<|DaAll.rep h k
theorem DaAll.ints:∀ns:Qo,DaAll K F (ns.map V.int) (ns.map n0)
 |[]=>.nil
 |n::ns=>.cons (.int n)<|DaAll.ints ns
end
inductive Sl where
 |fz (d:D)|ow (d:D)|io (d:D)
noncomputable def Sl.d:Sl->D
 | .fz d=>d
 | .ow d=>d
 | .io d=>d
noncomputable def cJ:Sl->Bool
 | .fz _=>Er
 | .ow _=>Ep
 | .io _=>Ep
noncomputable abbrev Ev:=List<|Do Sl
noncomputable def Own1(K:Fg)(F:Hp):HO->D->Prop
 | .lst a,.list e=>DaAll K F a e
 | .dK b,.dict c=>DaKV K F b c
 | .dT b,.dict c=>DaKT K F b c
 | .ext g,.dict [(.bool Er,.list L)]=>∃(i:Hd) (j:Nat) (a:List (Qo×Hd×V)) (d:List (Qo×D)),HO.ext g=qK hL i j a/\L=d.map (λp=>.tuple [.tuple<|p.1.map n0,p.2])/\DaPd K F a d
 |_,_=>Fo
section
variable {K:Fg}{F F':Hp}{o:HO}{d:D}{a:Hd}
theorem Own1.ext(h:Own1 K F (.ext φ) d):∃(g:Hd) (i:Nat) (b:List (Qo×Hd×V)) (c:List (Qo×D)),HO.ext φ=qK hL g i b/\d=uU c/\DaPd K F b c:=by
 unfold Own1 at h;split at h
 .rename_i z;cases z
 .rename_i z;cases z
 .rename_i z;cases z
 .rename_i z;obtain⟨g,i,b,c,e,rfl,t⟩:=h;exact⟨g,i,b,c,z.trans e,Z,t⟩
 .exact h.elim
theorem Own1.mono(s:Sub F F')(h:Own1 K F o d):Own1 K F' o d:=by
 cases o with
 |ext j=>obtain⟨b,c,g,i,e,rfl,t⟩:=h.ext;exact⟨b,c,g,i,e,Z,t.mono s⟩
 |_=>cases d<;>first|exact DaAll.mono s h|exact DaKV.mono s h|exact DaKT.mono s h|exact h.elim
theorem Own1.da(h:Own1 K F o d)(e:F a=O o):Da K F (.ref a) d:=by
 cases o with
 |ext b=>obtain⟨c,g,xs,i,z,rfl,t⟩:=h.ext;rw[z]at e;exact .pd e t
 |_=>cases d<;>first|exact .lst e h|exact .dk (.inl e) h|exact .dt (.inl e) h|exact h.elim
end
structure Gh where
 H0:Hp
 F0:Hp
 io:Nat->Do Hd
structure Rel(K:Fg)(G:Gh)(F:Hp)(σ:L2.St)(H:Hp)(ρ:Ev):Prop where
 len:σ.length=ρ.length
 sub:Sub F H
 sub0:Sub G.F0 F
 fn:∀a o,F a=O o->G.F0 a=O o\/G.H0 a=U
 keep:∀a o,G.H0 a=O o->(∀i,G.io i≠O a)->H a=O o
 fz:∀(i:Nat) (d:D),ρ[i]?=O (O<|Sl.fz d)->∃v,σ[i]?=O (O v)/\Da K F v d
 ow:∀(i:Nat) (s:Sl),ρ[i]?=O (O s)->cJ s=Ep->∃a o,σ[i]?=O (O<|V.ref a)/\F a=U/\H a=O o/\Own1 K F o s.d
 new:∀(i:Nat) (d:D) (a:Hd),ρ[i]?=O (O<|Sl.ow d)->σ[i]?=O (O<|V.ref a)->G.H0 a=U
 io:∀(i:Nat) (a:Hd),G.io i=O a->∃d,ρ[i]?=O (O<|Sl.io d)/\σ[i]?=O (O<|V.ref a)
 ioi:∀(i:Nat) (d:D),ρ[i]?=O (O<|Sl.io d)->∃a,G.io i=O a
 ap:∀(i j:Nat) (s t:Sl) (a:Hd),ρ[i]?=O (O s)->cJ s=Ep->ρ[j]?=O (O t)->cJ t=Ep->σ[i]?=O (O<|V.ref a)->σ[j]?=O (O<|V.ref a)->i=j
noncomputable def Res(K:Fg)(G:Gh)(F H:Hp)(σ:L2.St)(b:Ev)(v:V):Sl->Prop
 | .fz d=>Da K F v d
 | .ow d=>∃a o,v=.ref a/\F a=U/\H a=O o/\Own1 K F o d/\G.H0 a=U/\∀(i:Nat) (s:Sl),b[i]?=O (O s)->cJ s=Ep->σ[i]?≠O (O<|V.ref a)
 | .io _=>Fo
section
variable {K:Fg}{G:Gh}{F F':Hp}{σ:L2.St}{ρ:Ev}{a:Hd}{o:HO}{d:D}{v:V}{s:Sl}
theorem Rel.bound(R:Rel K G F σ H ρ){i:Nat}(h:ρ[i]?=O (O s)):∃v,σ[i]?=O (O v):=by
 cases s with
 |fz d=>obtain⟨v,e,_⟩:=R.fz i d h;exact⟨v,e⟩
 |ow d=>obtain⟨a,o,e,_⟩:=R.ow i _ h Z;exact⟨_,e⟩
 |io d=>obtain⟨a,o,e,_⟩:=R.ow i _ h Z;exact⟨_,e⟩
theorem Rel.h0(R:Rel K G F σ H ρ)(h:H a=U):G.H0 a=none:=by
 cases e:G.H0 a with
 |none=>rfl
 |some o =>
  by_cases q:∃i,G.io i=O a
  .obtain⟨i,q⟩:=q;obtain⟨d,g,j⟩:=R.io i a q;obtain⟨k,l,b,_,c,_⟩:=R.ow i _ g Z;rw[j]at b;cases b;rw[h]at c;cases c
  .have:=R.keep a o e λi z=>q ⟨i,z⟩;rw[h]at this;cases this
theorem Rel.f0(R:Rel K G F σ H ρ)(h:H a=U):F a=none:=by
 cases e:F a with
 |none=>rfl
 |some o=>rw[R.sub a o e]at h;cases h
theorem Rel.laid(R:Rel K G F σ H ρ)(h:H a=U):Rel K G F σ (gJ H a o) ρ where
 len:=R.len
 sub:=λb u e=>by rw[bZ<|eZ (R.sub b u e) h];exact R.sub b u e
 sub0:=R.sub0
 fn:=R.fn
 keep:=λb u e n=>by rw[bZ<|eZ (R.keep b u e n) h];exact R.keep b u e n
 fz:=R.fz
 ow:=λi s e w=>by obtain⟨g,j,k,l,c,m⟩:=R.ow i s e w;exact⟨g,j,k,l,by rw[bZ<|eZ c h];exact c,m⟩
 new:=R.new
 io:=R.io
 ioi:=R.ioi
 ap:=R.ap
theorem Rel.grow(R:Rel K G F σ H ρ)(h0:G.H0 a=U)(h:H a=O o)(l:∀(i:Nat) (s:Sl),ρ[i]?=O (O s)->cJ s=Ep->σ[i]?≠O (O<|V.ref a)):Sub F (gJ F a o)/\Rel K G (gJ F a o) σ H ρ:=by
 have c:Sub F (gJ F a o):=λb u e=>by
  by_cases z:b=a
  .subst z;rw[uZ,<-h];exact R.sub _ _ e
  .rw[bZ z];exact e
 refine⟨c,R.len,λb u e=>?_,R.sub0.trans c,λb u e=>?_,R.keep,λi d e=>?_,λi s e w=>?_,R.new,R.io,R.ioi,R.ap⟩
 .by_cases z:b=a
  .subst z;rw[uZ]at e;rw[h];exact e
  .rw[bZ z]at e;exact R.sub _ _ e
 .by_cases z:b=a
  .subst z;exact .inr h0
  .rw[bZ z]at e;exact R.fn _ _ e
 .obtain⟨v,g,j⟩:=R.fz i d e;exact⟨v,g,j.mono c⟩
 .obtain⟨k,m,g,j,q,t⟩:=R.ow i s e w;have z:k≠a:=λz=>l i s e w (by rw[g,z]);exact⟨k,m,g,by rw[bZ z];exact j,q,t.mono c⟩
theorem Res.frz(R:Rel K G F σ H ρ)(r:Res K G F H σ ρ v s):∃F',Sub F F'/\Rel K G F' σ H ρ/\Da K F' v s.d:=by
 cases s with
 |fz d=>exact⟨F,Sub.refl _,R,r⟩
 |ow d=>obtain⟨a,o,rfl,k,c,e,g,i⟩:=r;obtain⟨b,j⟩:=R.grow g c i;exact⟨_,b,j,(e.mono b).da uZ⟩
 |io d=>exact r.elim
theorem Rel.newOw(R:Rel K G F σ H ρ)(h:H a=U)(w:Own1 K F o d):Rel K G F σ (gJ H a o) ρ/\Res K G F (gJ H a o) σ ρ (.ref a) (.ow d):=by refine⟨R.laid h,a,o,Z,R.f0 h,uZ,w,R.h0 h,λi s e w z=>?_⟩;obtain⟨g,j,b,k,c,l⟩:=R.ow i s e w;rw[z]at b;cases b;rw[h]at c;cases c
theorem Rel.newTup(R:Rel K G F σ H ρ){b:List V}{c:List D}(h:H a=U)(w:DaAll K F b c):Sub F (gJ F a<|.tup b)/\Rel K G (gJ F a<|.tup b) σ (gJ H a<|.tup b) ρ/\Da K (gJ F a<|.tup b) (.ref a) (.tuple c):=by
 have j:Rel K G F σ (gJ H a<|.tup b) ρ:=R.laid h;obtain⟨g,R2⟩:=j.grow (a:=a) (o:=.tup b) (R.h0 h) uZ λi s e w z=>by obtain⟨a',o',h1,h2,h3,h4⟩:=R.ow i s e w;rw[z]at h1;cases h1;rw[h]at h3;cases h3
 exact⟨g,R2,.tup uZ<|w.mono g⟩
noncomputable def Sl.put:Sl->D->Sl
 | .fz _,d=>.fz d
 | .ow _,d=>.ow d
 | .io _,d=>.io d
theorem fZ{l:List α}{x y:α}(h:(l.set i x)[j]?=O y):(j=i/\y=x)\/(j≠i/\l[j]?=O y):=by
 by_cases z:i=j
 .subst z;rw[List.getElem?_set]at h;simp at h;exact .inl ⟨Z,h.2.symm⟩
 .rw[V1 z]at h;exact .inr ⟨λq=>z q.symm,h⟩
theorem kY{l:List α}{x:α}(h:i<l.length):(l.set i x)[i]?=O x:=by simp[h]
theorem AJ{l:List α}{x:α}(h:l[i]?=O x):i<l.length:=(O1.mp h).1
theorem Rel.change(R:Rel K G F σ H ρ){i:Nat}{o':HO}{d':D}(h:ρ[i]?=O (O s))(w:cJ s=Ep)(g:σ[i]?=O (O<|V.ref a))(q:Own1 K F o' d'):Rel K G F σ (gJ H a o') (ρ.set i<|O<|s.put d'):=by
 obtain⟨a0,o0,P,S,h3,h4⟩:=R.ow i s h w;rw[g]at P;cases P;have sw:cJ (s.put d')=true:=by cases s<;>first|rfl|cases w
 have hl:=AJ h;refine⟨by rw[o4];exact R.len,λb u e=>?_,R.sub0,R.fn,λb u e n=>?_,λj d e=>?_,λj t e m=>?_,λj d b e Y=>?_,λj b e=>?_,λj d e=>?_,λj k t u b l w1 c w2 e3 e4=>?_⟩
 .have z:b≠a:=λz=>by subst z;rw[S]at e;cases e
  rw[bZ z];exact R.sub _ _ e
 .by_cases z:b=a
  .subst z;cases s with
   |fz d=>cases w
   |ow d=>rw[R.new i d b h g]at e;cases e
   |io d=>obtain⟨a',e'⟩:=R.ioi i d h;obtain⟨d',_,c⟩:=R.io i a' e';rw[g]at c;cases c;exact absurd e'<|n i
  .rw[bZ z];exact R.keep _ _ e n
 .rcases fZ e with⟨rfl,z⟩|⟨n,z⟩
  .cases s<;>simp[Sl.put,cJ]at z w
  .exact R.fz j d z
 .rcases fZ e with⟨rfl,z⟩|⟨n,z⟩
  .cases z;exact⟨a,o',g,S,uZ,by cases s<;>first|exact q|cases w⟩
  .obtain⟨b,u,g1,g2,g3,g4⟩:=R.ow j t z m;have nb:b≠a:=λx=>n<|R.ap j i t s a z m h w (by rw[g1,x]) g;exact⟨b,u,g1,g2,by rw[bZ nb];exact g3,g4⟩
 .rcases fZ e with⟨rfl,z⟩|⟨n,z⟩
  .cases s with
   |fz d=>cases w
   |ow y=>exact R.new j y b h Y
   |io d=>cases z
  .exact R.new j d b z Y
 .obtain⟨d,l,c⟩:=R.io j b e;by_cases z:j=i
  .subst z;rw[h]at l;cases l;exact⟨d',by rw[kY hl];rfl,c⟩
  .exact⟨d,by rw[V1<|L5 z];exact l,c⟩
 .rcases fZ e with⟨rfl,z⟩|⟨n,z⟩
  .cases s with
   |fz d=>cases w
   |ow y=>cases z
   |io y=>exact R.ioi j y h
  .exact R.ioi j d z
 .have f:∀(j:Nat) (t:Sl),(ρ.set i<|O<|s.put d')[j]?=O (O t)->cJ t=Ep->∃t',ρ[j]?=O (O t')/\cJ t'=true:=λj t e m=>by
   rcases fZ e with⟨rfl,z⟩|⟨n,z⟩
   .exact⟨s,h,w⟩
   .exact⟨t,z,m⟩
  obtain⟨t',B,C⟩:=f j t l w1;obtain⟨u',L,M⟩:=f k u c w2;exact R.ap j k t' u' b B C L M e3 e4
theorem Rel.forget(R:Rel K G F σ H ρ){i:Nat}(h:ρ[i]?=O (O<|Sl.ow d)):Rel K G F σ H (ρ.set i U):=by
 refine⟨by rw[o4];exact R.len,R.sub,R.sub0,R.fn,R.keep,λj d e=>?_,λj t e m=>?_,λj d b e q=>?_,λj b e=>?_,λj d e=>?_,λj k t u b c w g x y B=>?_⟩
 .rcases fZ e with⟨rfl,z⟩|⟨n,z⟩
  .cases z
  .exact R.fz j d z
 .rcases fZ e with⟨rfl,z⟩|⟨n,z⟩
  .cases z
  .exact R.ow j t z m
 .rcases fZ e with⟨rfl,z⟩|⟨n,z⟩
  .cases z
  .exact R.new j d b z q
 .obtain⟨C,c,g⟩:=R.io j b e;have n:i≠j:=λz=>by subst z;rw[h]at c;cases c
  exact⟨C,by rw[V1 n];exact c,g⟩
 .rcases fZ e with⟨rfl,z⟩|⟨n,z⟩
  .cases z
  .exact R.ioi j d z
 .rcases fZ c with⟨rfl,z⟩|⟨n,z⟩
  .cases z
  .rcases fZ g with⟨rfl,l⟩|⟨L,l⟩
   .cases l
   .exact R.ap j k t u b z w l x y B
theorem Rel.freeze(R:Rel K G F σ H ρ){i:Nat}(h:ρ[i]?=O (O<|Sl.ow d)):∃F' v,Sub F F'/\Rel K G F' σ H (ρ.set i<|O<|Sl.fz d)/\σ[i]?=O (O v)/\Da K F' v d:=by
 obtain⟨a,o,g,h2,P,S⟩:=R.ow i _ h Z;have hl:=AJ h;have Y:=R.forget h;have hn:∀(j:Nat) (s:Sl),(ρ.set i U)[j]?=O (O s)->cJ s=Ep->σ[j]?≠O (O<|V.ref a):=λj s e w z=>by
  rcases fZ e with⟨rfl,q⟩|⟨n,q⟩
  .cases q
  .exact n (R.ap j i s _ a q w h Z z g)
 obtain⟨y,R2⟩:=Y.grow (R.new i d a h g) P hn;have B:Da K (gJ F a o) (.ref a) d:=(S.mono y).da uZ;refine⟨_,_,y,?_,g,B⟩;refine⟨by rw[o4];exact R.len,R2.sub,R2.sub0,R2.fn,R2.keep,λj l e=>?_,λj t e C=>?_,λj d b e eb=>?_,λj b e=>?_,λj d e=>?_,λj k t u b c L m M e3 e4=>?_⟩
 .rcases fZ e with⟨rfl,z⟩|⟨n,z⟩
  .cases z;exact⟨_,g,B⟩
  .exact R2.fz j l (by rw[V1<|L5 n];exact z)
 .rcases fZ e with⟨rfl,z⟩|⟨n,z⟩
  .cases z;cases C
  .exact R2.ow j t (by rw[V1<|L5 n];exact z) C
 .rcases fZ e with⟨rfl,z⟩|⟨n,z⟩
  .cases z
  .exact R.new j d b z eb
 .obtain⟨l,c,m⟩:=R.io j b e;have n:i≠j:=λz=>by subst z;rw[h]at c;cases c
  exact⟨l,by rw[V1 n];exact c,m⟩
 .rcases fZ e with⟨rfl,z⟩|⟨n,z⟩
  .cases z
  .exact R.ioi j d z
 .rcases fZ c with⟨rfl,z⟩|⟨n,z⟩
  .cases z;cases L
  .rcases fZ m with⟨rfl,x⟩|⟨n',x⟩
   .cases x;cases M
   .exact R.ap j k t u b z L x M e3 e4
theorem Rel.forgetRes(R:Rel K G F σ H ρ){i:Nat}(h:ρ[i]?=O (O<|Sl.ow d)):∃v,σ[i]?=O (O v)/\Res K G F H σ (ρ.set i U) v (.ow d):=by
 obtain⟨a,o,b,c,g,k⟩:=R.ow i _ h Z;refine⟨_,b,a,o,Z,c,g,k,R.new i d a h b,λj s e w z=>?_⟩;rcases fZ e with⟨rfl,q⟩|⟨n,q⟩
 .cases q
 .exact n (R.ap j i s _ a q w h Z z b)
def Iy(ρ:Ev)(i:Nat):Prop:=match ρ[i]? with
 |some (O<|Sl.io _)=>Fo
 |some _=>True
 |none=>Fo
theorem Rel.asg(R:Rel K G F σ H ρ){i:Nat}(hi:Iy ρ i)(r:Res K G F H σ ρ v s):Rel K G F (σ.set i<|O v) H (ρ.set i<|O s):=by
 have hl:i<ρ.length:=by
  cases e:ρ[i]? with
  |none=>unfold Iy at hi;rw[e]at hi;exact hi.elim
  |some x=>exact AJ e
 have l:i<σ.length:=by rw[R.len];exact hl
 have ni:∀d,ρ[i]?≠O (O<|Sl.io d):=λd e=>by unfold Iy at hi;rw[e]at hi;exact hi
 refine⟨by rw[o4,o4];exact R.len,R.sub,R.sub0,R.fn,R.keep,λj d e=>?_,λj t e wt=>?_,λj d b e c=>?_,λj b e=>?_,λj d e=>?_,λj k t u b y C B L m q=>?_⟩
 .rcases fZ e with⟨rfl,z⟩|⟨n,z⟩
  .cases z;exact⟨v,kY l,r⟩
  .rw[V1<|L5 n];exact R.fz j d z
 .rcases fZ e with⟨rfl,z⟩|⟨n,z⟩
  .cases z;cases s with
   |fz d=>cases wt
   |ow d=>obtain⟨a,o,rfl,M,P,S,_⟩:=r;exact⟨a,o,kY l,M,P,S⟩
   |io d=>exact r.elim
  .rw[V1<|L5 n];exact R.ow j t z wt
 .rcases fZ e with⟨rfl,z⟩|⟨n,z⟩
  .cases z;obtain⟨a,o,rfl,M,P,S,h4,_⟩:=r;rw[kY l]at c;cases c;exact h4
  .rw[V1<|L5 n]at c;exact R.new j d b z c
 .obtain⟨d,y,B⟩:=R.io j b e;have n:i≠j:=λz=>by subst z;exact ni d y
  exact⟨d,by rw[V1 n];exact y,by rw[V1 n];exact B⟩
 .rcases fZ e with⟨rfl,z⟩|⟨n,z⟩
  .cases z;exact r.elim
  .exact R.ioi j d z
 .have own:∀(j:Nat) (t:Sl),j≠i->ρ[j]?=O (O t)->cJ t=Ep->(σ.set i<|O v)[j]?=O (O<|V.ref b)->s.d=s.d->cJ s=Ep->v=.ref b->Fo:=λj t n e w c _ ws ev=>by
   subst ev;cases s with
   |fz d=>cases ws
   |io d=>exact r
   |ow d=>obtain⟨a,o,z,M,P,S,h4,h5⟩:=r;cases z;rw[V1<|L5 n]at c;exact h5 j t e w c
  rcases fZ y with⟨rfl,z⟩|⟨n,z⟩
  .rcases fZ B with⟨rfl,g⟩|⟨Y,g⟩
   .rfl
   .rw[kY l]at m;cases m;cases z;exact(own k u Y g L q Z C Z).elim
  .rcases fZ B with⟨rfl,g⟩|⟨Y,g⟩
   .rw[kY l]at q;cases q;cases g;exact(own j t n z C m Z L Z).elim
   .rw[V1<|L5 n]at m;rw[V1<|L5 Y]at q;exact R.ap j k t u b z C g L m q
end
noncomputable abbrev TD:=Ev->(Sl->Ev->Prop)->Prop
noncomputable abbrev JV:=Ev->(Bool->Ev->Prop)->Prop
noncomputable abbrev vF:=Sum Nat D
noncomputable abbrev AD:=Sum Nat TD
def lift(K:Fg)(g:TD):TE:=λσ H Q=>∃(G:Gh) (F:Hp) (d:Ev) (e:Sl->Ev->Prop),Rel K G F σ H d/\g d e /\
 ∀v b c r a,Sub F c->Rel K G c σ b a->Res K G c b σ a v r->e r a->Q v b
def rZ(K:Fg)(i:JV):TT:=λσ H Q=>∃(G:Gh) (F:Hp) (c:Ev) (d:Bool->Ev->Prop),Rel K G F σ H c/\i c d /\
 ∀b e g a,Sub F g->Rel K G g σ e a->d b a->Q b e
noncomputable def XX(K:Fg):AD->TE
 | .inl i=>pU i
 | .inr a=>lift K a
noncomputable def pZ:List TE->TA
 |[]=>dy
 |t::ts=>uG t<|pZ ts
theorem LV{K:Fg}{Q:VK}(m:∀v H,Q v H->Q' v H)(h:XX K a σ H Q):XX K a σ H Q':=by
 cases a with
 |inl i=>obtain⟨v,e,q⟩:=h;exact⟨v,e,m _ _ q⟩
 |inr x=>obtain⟨G,F,c,d,R,w,k⟩:=h;exact⟨G,F,c,d,R,w,λv g j r b s l t q=>m _ _<|k v g j r b s l t q⟩
theorem vz{K:Fg}(h:pZ ([a].map (XX K)) σ H λb c=>∃x,b=[x]/\P x c):XX K a σ H P:=LV (λv H q=>by obtain⟨x,e,q⟩:=q;cases e;exact q) h
theorem wD{K:Fg}{P:V->V->Hp->Prop}(h:pZ ([a,b].map (XX K)) σ H λd c=>∃x y,d=[x,y]/\P x y c):XX K a σ H λx g=>XX K b σ g λy c=>P x y c:=LV (λv H q=>LV (λu H q=>by obtain⟨x,y,e,q⟩:=q;cases e;exact q) q) h
def nE(i:Nat):TD:=λa Q=>match a[i]? with
 |some (O<|.fz d)=>Q (.fz d) a
 |some (O<|.ow d)=>Q (.fz d)<|a.set i<|O<|.fz d
 |_=>Fo
def dC(d:D):TD:=λa Q=>Q (.fz d) a
section
variable {K:Fg}{σ:L2.St}{Q:VK}
theorem SR(h:lift K (nE i) σ H Q):pU i σ H Q:=by
 obtain⟨G,F,c,m,R,w,k⟩:=h;unfold nE at w;split at w
 .rename_i d e;obtain⟨v,a,b⟩:=R.fz i d e;exact⟨v,a,k v H F (.fz d) c (Sub.refl _) R b w⟩
 .rename_i d e;obtain⟨g,v,j,l,a,b⟩:=R.freeze e;exact⟨v,a,k v H g (.fz d) _ j l b w⟩
 .exact w.elim
theorem Sc(a:∀F,Da K F v d)(h:lift K (dC d) σ H Q):tC v σ H Q:=by obtain⟨G,F,b,c,R,w,k⟩:=h;exact k v H F (.fz d) b (Sub.refl _) R (a F) w
end
noncomputable def OpdAt(K:Fg)(F:Hp)(σ:L2.St)(v:V):vF->Prop
 | .inl i=>σ[i]?=O (O v)
 | .inr d=>Da K F v d
inductive OpdsAt (K:Fg) (F:Hp) (σ:L2.St):List V->List vF->Prop
 |nil:OpdsAt K F σ [] []
 |cons {v x vs xs}:OpdAt K F σ v x->OpdsAt K F σ vs xs->OpdsAt K F σ (v::vs) (x::xs)
theorem OpdAt.mono{K:Fg}(s:Sub F F')(h:OpdAt K F σ v x):OpdAt K F' σ v x:=by
 cases x with
 |inl i=>exact h
 |inr d=>exact Da.mono s h
noncomputable def MJ:List AD->Ev->(List vF->Ev->Prop)->Prop
 |[],a,Q=>Q [] a
 | .inl i::as,a,Q=>match a[i]? with
  |some (O _)=>MJ as a λb c=>Q (.inl i::b) c
  |_=>Fo
 | .inr j::as,a,Q=>j a λr e=>MJ as e λb g=>Q (.inr r.d::b) g
theorem NY{K:Fg}{G:Gh}{σ:L2.St}:∀{as:List AD}{F H:Hp}{b:Ev}{m:List vF->Ev->Prop}{t:List V->Hp->Prop},Rel K G F σ H b->MJ as b m -> (∀c j g l a,Sub F g->Rel K G g σ j a->OpdsAt K g σ c l->c.length=as.length->m l a->t c j)->pZ (as.map<|XX K) σ H t
 |[],F,H,b,m,t,R,w,k=>k [] H F [] b (Sub.refl _) R .nil Z w
 | .inl i::as,F,H,b,m,t,R,w,k=>by
  unfold MJ at w;split at w
  .rename_i s e;obtain⟨v,B⟩:=R.bound e;refine⟨v,B,NY (as:=as) R w λc j g l a x y o hl q=>?_⟩;exact k (v::c) j g (.inl i::l) a x y (.cons B o) (by simp[hl]) q
  .exact w.elim
 | .inr td::as,F,H,b,m,t,R,w,k=>by refine⟨G,F,b,_,R,w,λv H1 F1 r C L M P S=>?_⟩;obtain⟨F2,Y,R2,d2⟩:=P.frz M;refine NY (as:=as) R2 S λc j g l a x y o hl q=>?_;exact k (v::c) j g (.inr r.d::l) a (L.trans<|Y.trans x) y (.cons (d2.mono x) o) (by simp[hl]) q
theorem BJ{K:Fg}(R:Rel K G F σ H ρ)(w:MJ as ρ Qd)(k:∀c d b xs a,Sub F b->Rel K G b σ d a->OpdsAt K b σ c xs->Qd xs a->Qv c d):pZ (as.map<|XX K) σ H Qv:=NY R w λc d b xs a s e o _ q=>k c d b xs a s e o q
def At(K:Fg)(F H:Hp)(v:V)(d:D):Prop:=Da K F v d\/∃a o,v=.ref a/\F a=U/\H a=O o/\Own1 K F o d
inductive AtAll (K:Fg) (F H:Hp):List V->List D->Prop
 |nil:AtAll K F H [] []
 |cons {v d vs ds}:At K F H v d->AtAll K F H vs ds->AtAll K F H (v::vs) (d::ds)
noncomputable def look(a:Ev):vF->Do D
 | .inl i=>match a[i]? with
  |some (O s)=>O s.d
  |_=>U
 | .inr d=>O d
noncomputable def XZ(a:Ev):List vF->(List D->Prop)->Prop
 |[],k=>k []
 | .inr d::b,k=>XZ a b λc=>k (d::c)
 | .inl i::b,k=>match a[i]? with
  |some (O s)=>XZ a b λc=>k (s.d::c)
  |_=>Fo
section
variable {K:Fg}{G:Gh}{F:Hp}{σ:L2.St}{ρ:Ev}
theorem Rel.at(R:Rel K G F σ H ρ){i:Nat}{s:Sl}{v:V}(e:ρ[i]?=O (O s))(c:σ[i]?=O (O v)):At K F H v s.d:=by
 cases s with
 |fz d=>obtain⟨m,l,b⟩:=R.fz i d e;rw[c]at l;cases l;exact .inl b
 |ow d=>obtain⟨a,o,b,g,j,k⟩:=R.ow i _ e Z;rw[c]at b;cases b;exact .inr ⟨a,o,Z,g,j,k⟩
 |io d=>obtain⟨a,o,b,g,j,k⟩:=R.ow i _ e Z;rw[c]at b;cases b;exact .inr ⟨a,o,Z,g,j,k⟩
theorem zK(R:Rel K G F σ H ρ){c:List vF}{g:List V}{k:List D->Prop}(o:OpdsAt K F σ g c)(h:XZ ρ c k):∃b,AtAll K F H g b/\k b:=by
 induction o generalizing k with
 |nil=>exact⟨[],.nil,h⟩
 |@cons v x g c o t j =>
  cases x with
  |inr d=>obtain⟨b,a,q⟩:=j (k:=λb=>k (d::b)) h;exact⟨d::b,.cons (.inl o) a,q⟩
  |inl i =>
   unfold XZ at h;split at h
   .rename_i s e;obtain⟨b,a,q⟩:=j (k:=λb=>k (s.d::b)) h;exact⟨s.d::b,.cons (R.at e o) a,q⟩
   .exact h.elim
end
def CY(as:List AD)(f:List D->(Sl->Prop)->Prop):TD:=λb Q=>MJ as b λc a=>XZ a c λd=>f d λr=>Q r a
def JZ(K:Fg)(r:List V->Hp->VK->Prop)(f:List D->(Sl->Prop)->Prop):Prop :=
 ∀(G:Gh) (F:Hp) (σ:L2.St) (H:Hp) (a:Ev) (d:List V) (e:List D) (Q:VK) (g:Sl->Prop),Rel K G F σ H a->AtAll K F H d e->f e g ->
  (∀v b c s,Sub F c->Rel K G c σ b a->Res K G c b σ a v s->g s->Q v b)->r d H Q
theorem aV{K:Fg}{r:List V->Hp->VK->Prop}{f:List D->(Sl->Prop)->Prop}(ok:JZ K r f){σ:L2.St}{H:Hp}{Q:VK}(h:lift K (CY as f) σ H Q):pZ (as.map<|XX K) σ H λb d=>r b d Q:=by obtain⟨G,F,C,L,R,w,k⟩:=h;refine BJ R w λb e g M a i c o q=>?_;obtain⟨j,l,q⟩:=zK c o q;exact ok G g σ e a b j Q _ c l q λv m t s x R2 y B=>k v m t s a (i.trans x) R2 y B
noncomputable def o1(f:D->(Sl->Prop)->Prop):List D->(Sl->Prop)->Prop
 |[x],Q=>f x Q
 |_,_=>Fo
noncomputable def o2(f:D->D->(Sl->Prop)->Prop):List D->(Sl->Prop)->Prop
 |[x,y],Q=>f x y Q
 |_,_=>Fo
noncomputable def o3(f:D->D->D->(Sl->Prop)->Prop):List D->(Sl->Prop)->Prop
 |[x,y,z],Q=>f x y z Q
 |_,_=>Fo
noncomputable def wz(c:TD):JV:=λd Q=>c d λr a=>match r with
 | .fz (.bool b)=>Q b a
 |_=>Fo
noncomputable def LN(c:JV):JV:=λd Q=>c d λb a=>Q (!b) a
noncomputable def MN(c e:JV):JV:=λd Q=>c d λb a=>if b=Ep then e a Q else Q Er a
noncomputable def H_(c e:JV):JV:=λd Q=>c d λb a=>if b=Ep then Q Ep a else e a Q
noncomputable def xD:JV:=λa Q=>Q Ep a
section
variable {K:Fg}{σ:L2.St}
theorem PL(c:∀{σ H Q},lift K td σ H Q->t σ H Q){Q:Bool->Hp->Prop}(h:rZ K (wz td) σ H Q):ay t σ H Q:=by
 obtain⟨G,F,d,m,R,w,k⟩:=h;refine c ⟨G,F,d,_,R,w,λv e g r a i j l q=>?_⟩;split at q
 .rename_i b;cases l;exact⟨b,Z,k b e g a i j q⟩
 .exact q.elim
theorem TR{Q:Bool->Hp->Prop}(h:rZ K (LN c) σ H Q):QM (rZ K c) σ H Q:=by obtain⟨G,F,d,l,R,w,k⟩:=h;exact⟨G,F,d,_,R,w,λb e g a i j q=>k (!b) e g a i j q⟩
theorem UR{Q:Bool->Hp->Prop}(h:rZ K (MN c e) σ H Q):PM (rZ K c) (rZ K e) σ H Q:=by
 obtain⟨G,F,l,m,R,w,k⟩:=h;refine⟨G,F,l,_,R,w,λb t g a i j q=>?_⟩;cases b with
 |true=>exact⟨G,g,a,m,j,q,λb v x d y R2 B=>k b v x d (i.trans y) R2 B⟩
 |false=>exact k Er t g a i j q
theorem I_{Q:Bool->Hp->Prop}(h:rZ K (H_ c e) σ H Q):t_ (rZ K c) (rZ K e) σ H Q:=by
 obtain⟨G,F,l,m,R,w,k⟩:=h;refine⟨G,F,l,_,R,w,λb t g a i j q=>?_⟩;cases b with
 |true=>exact k Ep t g a i j q
 |false=>exact⟨G,g,a,m,j,q,λb v x d y R2 B=>k b v x d (i.trans y) R2 B⟩
theorem VR{Q:Bool->Hp->Prop}(h:rZ K xD σ H Q):JR σ H Q:=by obtain⟨G,F,a,b,R,w,k⟩:=h;exact k Ep H F a (Sub.refl _) R w
end
def Jy(a b:TD):TD:=λe Q=>a e λr d=>match r with
 | .fz (.bool c)=>if c=Ep then b d Q else Q (.fz<|.bool Er) d
 |_=>Fo
def Ky(a:TD):TD:=λd Q=>a d λr b=>match r with
 | .fz (.bool c)=>Q (.fz<|.bool<|!c) b
 |_=>Fo
section
variable {K:Fg}{σ:L2.St}{Q:VK}{a b:TD}{c:JV}
theorem NN(h:lift K (Jy a b) σ H Q):Gv (lift K a) (lift K b) σ H Q:=by
 obtain⟨G,F,l,m,R,w,k⟩:=h;refine⟨G,F,l,_,R,w,λv t g r d i j x q=>?_⟩;split at q
 .rename_i c;cases x;refine⟨c,Z,?_⟩;cases c with
  |true=>exact⟨G,g,d,m,j,q,λv y B r e C R2 L M=>k v y B r e (i.trans C) R2 L M⟩
  |false=>exact k _ t g (.fz<|.bool Er) d i j (Da.bl Er) q
 .exact q.elim
theorem ON(h:lift K (Ky a) σ H Q):Hv (lift K a) σ H Q:=by
 obtain⟨G,F,e,t,R,w,k⟩:=h;refine⟨G,F,e,_,R,w,λv g i r d j l m q=>?_⟩;split at q
 .rename_i c;cases m;exact⟨c,Z,k _ g i (.fz<|.bool<|!c) d j l (Da.bl<|!c) q⟩
 .exact q.elim
end
theorem BU{a:Ev}{i:Nat}(h:match a[i]? with|some (O<|.io _)=>Fo|some _=>P|none=>Fo):Iy a i/\P:=by
 unfold Iy;cases e:a[i]? with
 |none=>rw[e]at h;exact h.elim
 |some x =>
  rw[e]at h;cases x with
  |none=>exact⟨trivial,h⟩
  |some s=>cases s with
   |fz d=>exact⟨trivial,h⟩
   |ow d=>exact⟨trivial,h⟩
   |io d=>exact h.elim
structure DE where
 nx:Ev->Prop
 rt:Sl->Ev->Prop
 bk:Ev->Prop
 ct:Ev->Prop
noncomputable abbrev sW:=DE->Ev->Prop
def cZ(K:Fg)(ts:sW):TS:=λD σ H=>∃(G:Gh) (F:Hp) (e:Ev) (E:DE),Rel K G F σ H e/\ts E e /\
 (∀b c d a,Sub F d->Rel K G d b c a->E.nx a->D.nx b c) /\
 (∀v b c d r a,Sub F d->Rel K G d b c a->Res K G d c b a v r->E.rt r a->D.rt v c) /\
 (∀b c d a,Sub F d->Rel K G d b c a->E.bk a->D.bk b c) /\
 (∀b c d a,Sub F d->Rel K G d b c a->E.ct a->D.ct b c)
noncomputable def Ly:sW:=λE a=>E.nx a
noncomputable def oE(t u:sW):sW:=λE b=>t {nx:=λa=>u E a,rt:=E.rt,bk:=E.bk,ct:=E.ct} b
noncomputable def pE(a:TD):sW:=λE b=>a b E.rt
noncomputable def My(a:TD):sW:=λE c=>a c λ_ b=>E.nx b
noncomputable def PN(c:JV)(t u:sW):sW:=λE d=>c d λb a=>if b=Ep then t E a else u E a
noncomputable def tw(i:Nat)(a:TD):sW:=λE c=>a c λr b=>match b[i]? with
 |some (O<|.io _)=>Fo
 |some _=>E.nx<|b.set i<|O r
 |none=>Fo
section
variable {K:Fg}{σ:L2.St}{E:Ends}{t u:sW}{a:TD}{c:JV}
theorem QN(h:cZ K Ly E σ H):Iv E σ H:=by obtain⟨G,F,d,D,R,w,n,r,b,c⟩:=h;exact n σ H F d (Sub.refl _) R w
theorem later{D:DE}{ts:sW}(s:Sub F F1)(R:Rel K G F1 σ1 H1 ρ1)(w:ts D ρ1)(n:∀e g i d,Sub F i->Rel K G i e g d->D.nx d->E.nx e g)(r:∀v e g i r d,Sub F i->Rel K G i e g d->Res K G i g e d v r->D.rt r d->E.rt v g)(b:∀e g i d,Sub F i->Rel K G i e g d->D.bk d->E.bk e g)(c:∀e g i d,Sub F i->Rel K G i e g d->D.ct d->E.ct e g):cZ K ts E σ1 H1:=
 ⟨G,F1,ρ1,D,R,w,λ_ _ _ _ s' j q=>n _ _ _ _ (s.trans s') j q,λ_ _ _ _ _ _ s' j k q=>r _ _ _ _ _ _ (s.trans s') j k q,
   λ_ _ _ _ s' j q=>b _ _ _ _ (s.trans s') j q,λ_ _ _ _ s' j q=>c _ _ _ _ (s.trans s') j q⟩
theorem WR(h:cZ K (oE t u) E σ H):XM (cZ K t) (cZ K u) E σ H:=by obtain⟨G,F,d,D,R,w,n,r,b,c⟩:=h;exact⟨G,F,d,_,R,w,λe j k g s i q=>later s i q n r b c,r,b,c⟩
theorem XR(h:cZ K (pE a) E σ H):Lv (lift K a) E σ H:=by obtain⟨G,F,e,D,R,w,n,r,b,c⟩:=h;exact⟨G,F,e,_,R,w,λv g i x d s j k q=>r v σ g i x d s j k q⟩
theorem RN(h:cZ K (My a) E σ H):Kv (lift K a) E σ H:=by obtain⟨G,F,e,D,R,w,n,r,b,c⟩:=h;exact⟨G,F,e,_,R,w,λv g i x d s j k q=>n σ g i d s j q⟩
theorem YR(h:cZ K (PN c t u) E σ H):YM (rZ K c) (cZ K t) (cZ K u) E σ H:=by
 obtain⟨G,F,e,D,R,w,n,r,b,c⟩:=h;refine⟨G,F,e,_,R,w,λx i j g s d q=>?_⟩;cases x with
 |true=>exact later s d q n r b c
 |false=>exact later s d q n r b c
theorem QL(h:cZ K (tw i a) E σ H):DV (lift K a) (FY i) E σ H:=by obtain⟨G,F,e,D,R,w,n,r,b,c⟩:=h;refine⟨G,F,e,_,R,w,λv g j x k s l m q=>?_⟩;have d:=BU q;exact n _ g j _ s (l.asg d.1 m) d.2
end
noncomputable def yD(i:Nat):sW:=λE a=>match a[i]? with
 |some (O<|.fz d)=>E.rt (.fz d) a
 |some (O<|.ow d)=>E.rt (.ow d)<|a.set i U
 |_=>Fo
noncomputable def Xj(i j:Nat):sW:=λE a=>match a[j]? with
 | some (O<|.fz d)=>(match a[i]? with
   |some (O<|.io _)=>Fo
   |some _=>E.nx<|a.set i<|O<|.fz d
   |none=>Fo)
 | some (O<|.ow d)=>(match (a.set j U)[i]? with
   |some (O<|.io _)=>Fo
   |some _=>E.nx<|(a.set j U).set i<|O<|.ow d
   |none=>Fo)
 |_=>Fo
section
variable {K:Fg}{σ:L2.St}{E:Ends}
theorem SN(h:cZ K (yD i) E σ H):Lv (pU i) E σ H:=by
 obtain⟨G,F,j,D,R,w,n,r,b,c⟩:=h;unfold yD at w;split at w
 .rename_i d e;obtain⟨v,a,g⟩:=R.fz i d e;exact⟨v,a,r v σ H F (.fz d) j (Sub.refl _) R g w⟩
 .rename_i d e;obtain⟨v,a,g⟩:=R.forgetRes e;exact⟨v,a,r v σ H F (.ow d) _ (Sub.refl _) (R.forget e) g w⟩
 .exact w.elim
theorem TN(h:cZ K (Xj i j) E σ H):DV (pU j) (FY i) E σ H:=by
 obtain⟨G,F,l,D,R,w,n,r,b,c⟩:=h;unfold Xj at w;split at w
 .rename_i d e;obtain⟨v,a,g⟩:=R.fz j d e;obtain⟨k,w⟩:=BU w;exact⟨v,a,n _ H F _ (Sub.refl _) (R.asg (s:=.fz d) k g) w⟩
 .rename_i d e;obtain⟨v,a,g⟩:=R.forgetRes e;obtain⟨k,w⟩:=BU w;exact⟨v,a,n _ H F _ (Sub.refl _) ((R.forget e).asg (s:=.ow d) k g) w⟩
 .exact w.elim
end
noncomputable abbrev OY:=D->Ev->(Ev->Prop)->Prop
def MZ(K:Fg)(g:OY):TG:=λv σ H Q=>∃(G:Gh) (F:Hp) (c:Ev) (d:D) (e:Ev->Prop),Rel K G F σ H c/\Da K F v d/\g d c e/\∀a b,Rel K G F a H b->e b->Q a H
noncomputable def BC(i:Nat):OY:=λd a Q=>match a[i]? with
 |some (O<|.io _)=>Fo
 |some _=>Q<|a.set i<|O<|.fz d
 |none=>Fo
noncomputable def J_:List OY->List D->Ev->(Ev->Prop)->Prop
 |[],[],a,Q=>Q a
 |g::c,d::e,a,Q=>g d a λb=>J_ c e b Q
 |_,_,_,_=>Fo
noncomputable def O'(a:List OY):OY:=λd c Q=>match d with
 | .tuple b=>b.length=a.length/\J_ a b c Q
 |_=>Fo
noncomputable def dG:List TG->AC
 |[]=>qR
 |g::a=>IL g<|dG a
section
variable {K:Fg}{σ:L2.St}{v:V}{Q:L2.St->Hp->Prop}
theorem K_(h:MZ K (BC i) v σ H Q):FY i v σ H Q:=by obtain⟨G,F,b,d,c,R,hd,w,k⟩:=h;obtain⟨a,w⟩:=BU w;exact k _ _ (R.asg (s:=.fz d) a hd) w
theorem ZR{G:Gh}{F:Hp}:∀{gs:List OY}{i:List D}{j:List V}{σ:L2.St}{a:Ev}{e:Ev->Prop},Rel K G F σ H a->DaAll K F j i->J_ gs i a e->(∀b c,Rel K G F b H c->e c->Q b H)->dG (gs.map<|MZ K) j σ H Q
 |[],[],_,σ,a,e,R,.nil,w,k=>⟨Z,k σ a R w⟩
 |g::gs,d::i,_,σ,a,e,R,.cons h t,w,k=>⟨_,_,Z,G,F,a,d,_,R,h,w,λb c l m=>ZR (gs:=gs) l t m k⟩
 |[],_::_,_,σ,a,e,R,_,w,k=>by exact w.elim
 |_::_,[],_,σ,a,e,R,_,w,k=>by exact w.elim
theorem L_(a:gs.length=n)(h:MZ K (O' gs) v σ H Q):PC K n (dG<|gs.map<|MZ K) v σ H Q:=by
 obtain⟨G,F,b,d,c,R,hd,w,k⟩:=h;unfold O' at w;split at w
 .cases hd with
  |tup e t=>exact⟨_,_,Z,SqT.of<|R.sub _ _ e,by rw[t.length,w.1,a],ZR R t w.2 k⟩
 .exact w.elim
end
def Walks(K:Fg)(J:It)(F:Hp)(g:List D):Prop:=∀(i:Nat) (H a:Hp),Sub F a->Sub a H ->
 (∀d,g[i]?=O d->J.go i H/\∀x e,J.yld i H x e->∃c,Sub a c/\(∀b o,c b=O o->a b=O o\/H b=U)/\Sub c e/\Sub H e/\Da K c x d)/\(g.length=i->J.stop i H)
noncomputable abbrev Xq:=Ev->(List D->Ev->Prop)->Prop
def kJ(K:Fg)(i:Xq):TI:=λσ H R=>∃(G:Gh) (F:Hp) (c:Ev) (d:List D->Ev->Prop),Rel K G F σ H c/\i c d /\
 ∀J e b g a,Sub F b->Rel K G b σ e a->Walks K J b g->d g a->R J e
theorem Rel.turn{K:Fg}(R:Rel K G F σ H ρ)(s:Sub F F2)(n:∀b o,F2 b=O o->F b=O o\/H b=U)(l:Sub F2 H')(j:Sub H H'):Rel K G F2 σ H' ρ where
 len:=R.len
 sub:=l
 sub0:=R.sub0.trans s
 fn:=λb o e=>by
  rcases n b o e with q|q
  .exact R.fn b o q
  .exact .inr (R.h0 q)
 keep:=λa o e m=>j _ _ (R.keep a o e m)
 fz:=λi d e=>by obtain⟨v,c,g⟩:=R.fz i d e;exact⟨v,c,g.mono s⟩
 ow:=λi t e w=>by
  obtain⟨a,o,c,g,k,x⟩:=R.ow i t e w;refine⟨a,o,c,?_,j _ _ k,x.mono s⟩;cases q:F2 a with
  |none=>rfl
  |some u =>
   rcases n a u q with z|z
   .rw[g]at z;cases z
   .rw[k]at z;cases z
 new:=R.new
 io:=R.io
 ioi:=R.ioi
 ap:=R.ap
theorem zD{l:List α}{x:α}(h:l[i]?=O x):l.drop i=x::l.drop (i+1):=by obtain⟨hl,rfl⟩:=O1.mp h;exact A5 hl
noncomputable def xz(c:JV)(i:sW):sW:=λE e=>∃W:Nat->Ev->Prop,(∃m,W m e)/\∀m e,W m e->c e λb a=>if b=Ep then
 ∃N:Ev->Prop,(∀d,N d->∃g,g<m/\W g d)/\i {nx:=N,rt:=E.rt,bk:=E.nx,ct:=N} a else E.nx a
theorem qE{K:Fg}{E:Ends}(h:cZ K (xz c tb) E σ H):bz (rZ K c) (cZ K tb) E σ H:=by
 obtain⟨G,F,S,D,R,⟨W,⟨Y,w0⟩,st⟩,n,r,b,c⟩:=h;refine⟨λm σ H=>∃B d,Sub F B/\Rel K G B σ H d/\W m d,⟨Y,F,S,Sub.refl _,R,w0⟩,?_⟩;rintro m σ H ⟨B,d,s',R',w'⟩;refine⟨G,B,d,_,R',st m d w',λx H1 L l t M q=>?_⟩;cases x with
 |false=>exact n σ H1 L l (s'.trans t) M q
 |true =>
  obtain⟨N,hN,q⟩:=q;refine⟨λw P=>∃C e,Sub F C/\Rel K G C w P e/\N e,λw P ⟨C,e,z1,z2,z3⟩=>?_,?_⟩
  .obtain⟨m',hm,hw⟩:=hN e z3;exact⟨m',hm,C,e,z1,z2,hw⟩
  .refine⟨G,L,l,_,M,q,λg y i a j k q=>?_,λv g y i x4 a j k r4 q=>?_,λg y i a j k q=>?_,λg y i a j k q=>?_⟩
   .exact⟨i,a,s'.trans<|t.trans j,k,q⟩
   .exact r v g y i x4 a (s'.trans<|t.trans j) k r4 q
   .exact n g y i a (s'.trans<|t.trans j) k q
   .exact⟨i,a,s'.trans<|t.trans j,k,q⟩
noncomputable def rE:Do Sl->Do Sl
 |some (.ow d)=>O<|.io d
 |x=>x
noncomputable def dH(own:Oo)(fr:Os)(a:Ev):Ev:=own.map (λ_=>U)++fr.map λi=>rE<|(a[i]?).getD U
noncomputable def sE:Do Sl->Do (Do Sl)->Do Sl
 |some (.ow d),O (O<|.io a)=>O<|.ow a
 |some (.io d),O (O<|.io a)=>O<|.io a
 |x,_=>x
noncomputable def MV(fr:Os)(a:Ev):Nat->Ev->Ev
 |_,[]=>[]
 |j,x::b=>sE x ((fr.zip a).lookup j)::MV fr a (j+1) b
theorem fH(fr:Os)(b:Ev):∀(a:Ev) (j i:Nat),(MV fr b j a)[i]?=(a[i]?).map λx=>sE x<|(fr.zip b).lookup<|j+i
 |[],j,i=>by simp[MV]
 |x::a,j,0=>by simp[MV]
 |x::a,j,i+1=>by have:=fH fr b a (j+1) i;simp only[MV,B3];rw[this,show j+1+i=j+(i+1) by exact fQ _ _]
theorem BD(fr:Os)(b:Ev):∀(a:Ev) (j:Nat),(MV fr b j a).length=a.length
 |[],_=>rfl
 |x::a,j=>by simp[MV,BD fr b a<|j+1]
theorem gH:∀{fr:Os}{τ:Ev}{k i:Nat}{x:Do Sl},fr.Nodup->fr[k]?=O i->τ[k]?=O x->(fr.zip τ).lookup i=O x
 |[],_,_,_,_,_,e,_=>by simp at e
 |j::fr,[],_,_,_,_,_,e=>by simp at e
 |j::fr,y::τ,0,i,x,_,e,a=>by simp at e a;subst e a;simp[V9]
 |j::fr,y::τ,k+1,i,x,c,e,a=>by
  have b:=i6.mp c;simp at e a;have d:i∈fr:=A3 e;have ne:(i==j)=false:=by simp;intro z;subst z;exact b.1 d
  simp[V9,ne];exact gH b.2 e a
theorem PY:∀{fr:Os}{a:Ev}{i:Nat}{x:Do Sl},(fr.zip a).lookup i=O x->∃k:Nat,fr[k]?=O i/\a[k]?=O x
 |[],_,_,_,e=>by simp at e
 |j::fr,[],_,_,e=>by simp at e
 |j::fr,y::a,i,x,e=>by
  by_cases z:i=j
  .subst z;simp[V9]at e;subst e;exact⟨0,by simp,by simp⟩
  .have ne:(i==j)=false:=by simp[z]
   simp[V9,ne]at e;obtain⟨k,b,c⟩:=PY e;exact⟨k+1,by simpa using b,by simpa using c⟩
noncomputable def Ny(σ:L2.St)(b:Ev)(i:Nat):Do Hd:=match b[i]?,σ[i]? with
 |some (O s),O (O<|.ref a)=>if cJ s=Ep then O a else U
 |_,_=>U
theorem uw(h:Ny σ ρ i=O a):∃s,ρ[i]?=O (O s)/\cJ s=Ep/\σ[i]?=O (O<|V.ref a):=by
 unfold Ny at h;split at h
 .rename_i s b c d;split at h
  .rename_i w;cases h;exact⟨s,c,w,d⟩
  .cases h
 .cases h
theorem tE{s:Sl}(b:ρ[i]?=O (O s))(c:cJ s=Ep)(d:σ[i]?=O (O<|V.ref a)):Ny σ ρ i=O a:=by unfold Ny;rw[b,d];simp[c]
noncomputable def CC(own:Oo)(fr:Os)(F H:Hp)(σ:L2.St)(a:Ev):Gh:=⟨H,F,λj=>if own.length<=j then (match fr[j-own.length]? with|some i=>Ny σ a i|none=>U) else U⟩
theorem yz(h:(CC own fr F H σ ρ).io j=O a):∃k i s,j=own.length+k/\fr[k]?=O i/\ρ[i]?=O (O s)/\cJ s=Ep/\σ[i]?=O (O<|V.ref a):=by
 unfold CC at h;simp only at h;split at h
 .rename_i hl;split at h
  .rename_i i e;obtain⟨s,b,c,d⟩:=uw h;exact⟨j-own.length,i,s,j4 (Z6.1<|V0 Z)<|V0<|P3 hl,e,b,c,d⟩
  .cases h
 .cases h
theorem zz{s:Sl}(h0:fr[k]?=O i)(b:ρ[i]?=O (O s))(c:cJ s=Ep)(d:σ[i]?=O (O<|V.ref a)):(CC own fr F H σ ρ).io (own.length+k)=O a:=by unfold CC;simp only;rw[Jd<|W1 _ _,i4,h0];exact tE b c d
theorem vw{own:Oo}{f:Nat->Do α}(h:(own.map (λ_=>(U:Do α))++fr.map f)[j]?=O (O x)):∃k i,j=own.length+k/\fr[k]?=O i/\f i=O x:=by
 by_cases hl:j<own.length
 .rw[A4<|by simpa using hl]at h;simp at h
 .rw[W2<|by simpa using E1 hl]at h;simp at h;obtain⟨i,a,b⟩:=h;exact⟨j-own.length,i,Eq.symm<|P3<|E1 hl,a,b⟩
theorem CD{own:Oo}{f:Nat->Do α}(h:fr[k]?=O i):(own.map (λ_=>(U:Do α))++fr.map f)[own.length+k]?=O (f i):=by rw[W2<|by simp];simp[h]
theorem Oy{s:Sl}(h:rE x=O s):∃a,x=O a/\((∃d,a=.fz d/\s=.fz d)\/(cJ a=Ep/\s=.io a.d)):=by
 cases x with
 |none=>cases h
 |some a =>
  cases a with
  |fz d=>cases h;exact⟨_,Z,.inl ⟨d,Z,Z⟩⟩
  |ow d=>cases h;exact⟨_,Z,.inr ⟨Z,Z⟩⟩
  |io d=>cases h;exact⟨_,Z,.inr ⟨Z,Z⟩⟩
theorem getD_some{o:Do (Do α)}{x:α}(h:o.getD U=O x):o=O (O x):=by
 cases o with
 |none=>cases h
 |some y=>simp at h;rw[h]
section
variable {K:Fg}{G:Gh}{F F' H':Hp}{σ τ:L2.St}{ρ μ:Ev}{own:Oo}
theorem bK{s:Sl}(h:(dH own fr ρ)[j]?=O (O s)):∃k i a,j=own.length+k/\fr[k]?=O i/\ρ[i]?=O (O a)/\((∃d,a=.fz d/\s=.fz d)\/(cJ a=Ep/\s=.io a.d)):=by obtain⟨k,i,b,c,e⟩:=vw h;obtain⟨a,g,l⟩:=Oy e;exact⟨k,i,a,b,c,getD_some g,l⟩
theorem iH(h:fr[k]?=O i):(DN own σ fr)[own.length+k]?=O ((σ[i]?).getD U):=CD (f:=λi=>(σ[i]?).getD U) h
theorem ww(h:fr[k]?=O i):(dH own fr ρ)[own.length+k]?=O (rE<|(ρ[i]?).getD U):=CD (f:=λi=>rE<|(ρ[i]?).getD U) h
theorem Py(c:fr.Nodup){k l i:Nat}(a:fr[k]?=O i)(b:fr[l]?=O i):k=l:=by obtain⟨g,d⟩:=O1.mp a;obtain⟨j,e⟩:=O1.mp b;exact(List.getElem_inj c).mp<|d.trans e.symm
theorem Rel.inner(R:Rel K G F σ H ρ)(nd:fr.Nodup):Rel K (CC own fr F H σ ρ) F (DN own σ fr) H (dH own fr ρ) where
 len:=by simp[DN,cR,dH]
 sub:=R.sub
 sub0:=Sub.refl _
 fn:=λ_ _ e=>.inl e
 keep:=λ_ _ e _=>e
 fz:=λj d e=>by
  obtain⟨k,i,x,rfl,b,c,g⟩:=bK e;rcases g with⟨B,rfl,z⟩|⟨_,z⟩
  .cases z;obtain⟨v,y,C⟩:=R.fz i d c;exact⟨v,by rw[iH b,y];rfl,C⟩
  .cases z
 ow:=λj s e w=>by
  obtain⟨k,i,x,rfl,b,c,g⟩:=bK e;rcases g with⟨B,rfl,z⟩|⟨m,z⟩
  .cases z;cases w
  .cases z;obtain⟨a,o,y,C,P,S⟩:=R.ow i x c m;exact⟨a,o,by rw[iH b,y];rfl,C,P,S⟩
 new:=λj d a e _=>by obtain⟨k,i,x,rfl,b,c,g⟩:=bK e;rcases g with⟨B,rfl,z⟩|⟨m,z⟩<;>cases z
 io:=λj a e=>by obtain⟨k,i,s,rfl,h1,b,c,g⟩:=yz e;refine⟨s.d,?_,by rw[iH h1,g];rfl⟩;rw[ww h1,b];cases s<;>first|rfl|cases c
 ioi:=λj d e=>by
  obtain⟨k,i,x,rfl,b,c,g⟩:=bK e;rcases g with⟨B,rfl,z⟩|⟨m,z⟩
  .cases z
  .obtain⟨a,o,y,_⟩:=R.ow i x c m;exact⟨a,zz b c m y⟩
 ap:=λj l s t a y w1 C w2 P S=>by
  obtain⟨k,i,x,rfl,b,c,g⟩:=bK y;obtain⟨k',i',L,rfl,M,Y,h4'⟩:=bK C;have p1:cJ x=true:=by
   rcases g with⟨B,rfl,z⟩|⟨m,z⟩
   .subst z;cases w1
   .exact m
  have p2:cJ L=true:=by
   rcases h4' with⟨B,rfl,z⟩|⟨m,z⟩
   .subst z;cases w2
   .exact m
  rw[iH b]at P;rw[iH M]at S;have q:=R.ap i i' x L a c p1 Y p2 (getD_some<|O2 P)<|getD_some<|O2 S;subst q;rw[Py nd b M]
theorem QY(R:Rel K G F σ H ρ)(t:Rel K (CC own fr F H σ ρ) F' τ H' μ)(v:fr.Nodup){i:Nat}{s:Sl}(h:(MV fr (μ.drop own.length) 0 ρ)[i]?=O (O s)):∃b,ρ[i]?=O (O b)/\((s=b/\(cJ b=Ep->i∉fr))\/(cJ b=Ep/\∃k g,fr[k]?=O i/\μ[own.length+k]?=O (O<|Sl.io g)/\s=b.put g)):=by
 rw[fH]at h;cases e:ρ[i]? with
 |none=>rw[e]at h;cases h
 |some x =>
  rw[e]at h;simp only[X6,BQ]at h;have h:=O2 h;cases x with
  |none=>simp[sE]at h
  |some b =>
   refine⟨b,Z,?_⟩;by_cases c:cJ b=Ep
   .by_cases j:i∈fr
    .obtain⟨k,l⟩:=X8.mp j;obtain⟨a,o,w,_⟩:=R.ow i b e c;obtain⟨g,m,g2⟩:=t.io _ _<|zz (own:=own) (F:=F) (H:=H) l e c w;have z:=gH (τ:=μ.drop own.length) v l (by rw[yX];exact m);rw[z]at h;refine .inr ⟨c,k,g,l,m,?_⟩;cases b with
     |fz d=>cases c
     |ow d=>simp[sE]at h;exact h.symm
     |io d=>simp[sE]at h;exact h.symm
    .refine .inl ⟨?_,λ_=>j⟩;have z:(fr.zip<|μ.drop own.length).lookup i=none:=by
      cases q:(fr.zip<|μ.drop own.length).lookup i with
      |none=>rfl
      |some y=>obtain⟨k,B,_⟩:=PY q;exact(j<|A3 B).elim
     rw[z]at h;cases b with
     |fz d=>cases c
     |ow d=>simp[sE]at h;exact h.symm
     |io d=>simp[sE]at h;exact h.symm
   .refine .inl ⟨?_,λz=>(c z).elim⟩;cases b with
    |fz d=>simp[sE]at h;exact h.symm
    |ow d=>exact(c Z).elim
    |io d=>exact(c Z).elim
theorem UN(x:Do (Do Sl)):∃a,sE (O<|.io d) x=O (.io a):=by
 rcases x with _|_|(a|a|a)
 .exact⟨d,Z⟩
 .exact⟨d,Z⟩
 .exact⟨d,Z⟩
 .exact⟨d,Z⟩
 .exact⟨a,Z⟩
theorem Rel.outer(R:Rel K G F σ H ρ)(m:Rel K (CC own fr F H σ ρ) F' τ H' μ)(C:fr.Nodup):Rel K G F' σ H' (MV fr (μ.drop own.length) 0 ρ):=by
 have Y:Sub F F':=m.sub0;have B:∀{i:Nat}{s:Sl},(MV fr (μ.drop own.length) 0 ρ)[i]?=O (O s)->cJ s=Ep->∃c,ρ[i]?=O (O c)/\cJ c=true:=λ{i s} e w=>by
  obtain⟨c,b,l⟩:=QY R m C e;rcases l with⟨rfl,_⟩|⟨x,_⟩
  .exact⟨s,b,w⟩
  .exact⟨c,b,x⟩
 refine⟨by rw[BD];exact R.len,m.sub,R.sub0.trans Y,λa o e=>?_,λa o e n=>?_,λi d e=>?_,λi s e w=>?_,λi d a e ea=>?_,λi a e=>?_,λi d e=>?_,λi j s t a e1 w1 e2 w2 e3 e4=>?_⟩
 .rcases m.fn a o e with q|q
  .exact R.fn a o q
  .exact .inr (R.h0 q)
 .refine m.keep a o (R.keep a o e n) λj z=>?_;obtain⟨k,i,s,rfl,b,l,h3,h4⟩:=yz z;cases s with
  |fz d=>cases h3
  |ow d=>rw[R.new i d a l h4]at e;cases e
  |io d=>obtain⟨a',g⟩:=R.ioi i d l;obtain⟨_,_,g2⟩:=R.io i a' g;rw[h4]at g2;cases g2;exact n i g
 .obtain⟨c,b,l⟩:=QY R m C e;rcases l with⟨rfl,_⟩|⟨x,k,L,_,_,z⟩
  .obtain⟨v,y,g2⟩:=R.fz i d b;exact⟨v,y,g2.mono Y⟩
  .cases c<;>simp[Sl.put,cJ]at z x
 .obtain⟨c,b,l⟩:=QY R m C e;rcases l with⟨rfl,hm⟩|⟨x,k,L,hk,hd,rfl⟩
  .obtain⟨a,o,y,g2,M,S⟩:=R.ow i s b w;have nio:∀j,(CC own fr F H σ ρ).io j≠O a:=λj z=>by
    obtain⟨k,i',s',rfl,q1,q2,q3,q4⟩:=yz z;have:=R.ap i i' s s' a b w q2 q3 y q4;subst this;exact hm w<|A3 q1
   refine⟨a,o,y,?_,m.keep a o M nio,S.mono Y⟩;cases q:F' a with
   |none=>rfl
   |some u =>
    rcases m.fn a u q with z|z
    .have z:F a=O u:=z;rw[g2]at z;cases z
    .have z:H a=none:=z;rw[M]at z;cases z
  .obtain⟨a,o,y,g2,M,S⟩:=R.ow i c b x;obtain⟨d2,q1,q2⟩:=m.io _ _<|zz (own:=own) (F:=F) (H:=H) hk b x y;obtain⟨a',o',p1,p2,p3,p4⟩:=m.ow _ _ hd Z;rw[q2]at p1;cases p1;exact⟨a,o',y,p2,p3,by cases c<;>first|exact p4|cases x⟩
 .obtain⟨c,b,l⟩:=QY R m C e;rcases l with⟨rfl,_⟩|⟨x,k,L,_,_,z⟩
  .exact R.new i d a b ea
  .cases c with
   |fz d=>cases x
   |ow P=>exact R.new i P a b ea
   |io P=>cases z
 .obtain⟨d,b,l⟩:=R.io i a e;obtain⟨L,hd⟩:=UN (d:=d)<|(fr.zip<|μ.drop own.length).lookup i;exact⟨L,by rw[fH,b];simp only[X6,BQ];rw[hd],l⟩
 .obtain⟨c,b,l⟩:=QY R m C e;rcases l with⟨rfl,_⟩|⟨x,k,L,_,_,z⟩
  .exact R.ioi i d b
  .cases c with
   |fz d=>cases x
   |ow P=>cases z
   |io P=>exact R.ioi i P b
 .obtain⟨c,y,g2⟩:=B e1 w1;obtain⟨t0,M,S⟩:=B e2 w2;exact R.ap i j c t0 a y g2 M S e3 e4
end
noncomputable abbrev Con:=List Sl->(Sl->Ev->Prop)->Prop
noncomputable def QX(K:Fg)(i:Con):Sp:=λc H Q _=>∃(G:Gh) (F:Hp) (a:List Sl) (g:Sl->Ev->Prop),Rel K G F (c.map O) H (a.map O)/\i a g /\
 ∀v d e r b,Sub F e->Rel K G e (c.map O) d b->Res K G e d (c.map O) b v r->g r b->Q v d
mutual
noncomputable def noMut:D->Bool
 | .none=>Ep
 | .bool _=>Ep
 | .int _=>Ep
 | .str _=>Ep
 | .tuple xs=>noMutAll xs
 | .list _=>Er
 | .dict _=>Er
noncomputable def noMutAll:List D->Bool
 |[]=>Ep
 |x::a=>noMut x&&noMutAll a
end
section
variable {K:Fg}{F F':Hp}
theorem Da.noMut(h:∀b xs,F b=O (.tup xs)->F' b=O (.tup xs)){v:V}{d:D}(q:Da K F v d):L3.noMut d=Ep->Da K F' v d:=by refine Da.rec (motive_1:=λv d _=>L3.noMut d=Ep->Da K F' v d) (motive_2:=λv d _=>noMutAll d=Ep->DaAll K F' v d) (motive_3:=λ_ _ _=>True) (motive_4:=λ_ _ _=>True) (motive_5:=λ_ _ _=>True) (motive_6:=λ_ _ _=>True) (λ_=>.non) (λb _=>.bl b) (λi _=>.int i) (λx _=>.str x) (λ_ _ _ z=>nomatch z) (λe _ t z=>.tup (h _ _ e)<|t z) (λ_ _ _ z=>nomatch z) (λ_ _ _ z=>nomatch z) (λ_ z=>nomatch z) (λ_ z=>nomatch z) (λ_ z=>nomatch z) (λ_ _ _ z=>nomatch z) (λ_ _ _ z=>nomatch z) (λ_=>.nil) (λ_ _ a t z=>.cons (a (P6.mp z).1)<|t (P6.mp z).2) ?_ ?_ ?_ ?_ ?_ ?_ ?_ ?_ q<;>intros<;>trivial
end
noncomputable def iJ(a:Ev):List vF->Bool
 |[]=>Er
 | .inr _::xs=>iJ a xs
 | .inl i::xs=>(match a[i]? with|some (O s)=>cJ s|_=>Er)||iJ a xs
def Qy(c:Con)(as:List AD):TD:=λe Q=>MJ as e λb a=>XZ a b λg=>c (g.map Sl.fz) λr _=>match iJ a b with
 |false=>Q r a
 |true=>noMut r.d=Ep/\Q r a
def Ry(c:Con)(i:Nat)(b:List vF)(a:Ev)(Q:Sl->Ev->Prop):Prop:=match a[i]? with
 |some (O s)=>match cJ s,iJ a b with
  |true,Er=>XZ a b λe=>c (.io s.d::e.map Sl.fz) λr outs=>match outs with
   |some (.io g)::_=>Q r<|a.set i<|O<|s.put g
   |_=>Fo
  |_,_=>Fo
 |_=>Fo
def wF(b:Con)(i:Nat)(as:List AD):TD:=λc Q=>MJ (.inl i::as) c λd a=>Ry b i d.tail a Q
def LentA(σ:L2.St)(b:Ev)(c:List vF)(a:Hd):Prop:=∃(i:Nat) (s:Sl),Sum.inl i∈c/\b[i]?=O (O s)/\cJ s=Ep/\σ[i]?=O (O<|V.ref a)
theorem CW{σ:L2.St}{g:Ev}:∀{xs:List vF}{a:Hd},LentA σ g xs a->iJ g xs=Ep
 |[],a,⟨i,s,h,_⟩=>by cases h
 | .inr d::xs,a,⟨i,s,h,b,c,e⟩=>by
  rcases R0.mp h with h|h
  .cases h
  .exact CW (xs:=xs) ⟨i,s,h,b,c,e⟩
 | .inl j::xs,a,⟨i,s,h,b,c,e⟩=>by
  unfold iJ;rcases R0.mp h with h|h
  .cases h;rw[b];simp[c]
  .rw[CW (xs:=xs) ⟨i,s,h,b,c,e⟩];simp
open Classical in
noncomputable def bV(σ:L2.St)(a:Ev)(c:List vF)(F H:Hp):Hp:=λb=>if LentA σ a c b then H b else F b
open Classical in
noncomputable def mK(σ:L2.St)(a:Ev)(c:List vF)(F:Hp):Hp:=λb=>if LentA σ a c b then U else F b
section
variable {K:Fg}{G:Gh}{F F' H':Hp}{σ:L2.St}{ρ:Ev}{xs:List vF}
theorem cV(h:¬LentA σ ρ xs b):bV σ ρ xs F H b=F b:=by unfold bV;rw[Gd h]
theorem xF(h:LentA σ ρ xs b):bV σ ρ xs F H b=H b:=by unfold bV;rw[Jd h]
theorem lY(h:¬LentA σ ρ xs b):mK σ ρ xs F b=F b:=by unfold mK;rw[Gd h]
theorem zw(h:LentA σ ρ xs b):mK σ ρ xs F b=none:=by unfold mK;rw[Jd h]
theorem LentA.own(R:Rel K G F σ H ρ){b:Hd}(h:LentA σ ρ xs b):∃(i:Nat) (s:Sl) (o:HO),ρ[i]?=O (O s)/\cJ s=Ep/\σ[i]?=O (O<|V.ref b)/\F b=U/\H b=O o/\Own1 K F o s.d:=by obtain⟨i,s,_,c,e,g⟩:=h;obtain⟨a,o,j,g2,k,l⟩:=R.ow i s c e;rw[g]at j;cases j;exact⟨i,s,o,c,e,g,g2,k,l⟩
theorem eV(R:Rel K G F σ H ρ):Sub F (bV σ ρ xs F H):=λb o e=>by
 have n:¬LentA σ ρ xs b:=λz=>by obtain⟨_,_,_,_,_,_,h,_⟩:=z.own R;rw[h]at e;cases e
 rw[cV n];exact e
theorem uE(R:Rel K G F σ H ρ):Sub (bV σ ρ xs F H) H:=λb o e=>by
 by_cases z:LentA σ ρ xs b
 .rw[xF z]at e;exact e
 .rw[cV z]at e;exact R.sub _ _ e
theorem Az(R:Rel K G F σ H ρ){ys:List vF}{g:List V}{k:List D->Prop}(m:∀y∈ys,y∈xs)(o:OpdsAt K F σ g ys)(h:XZ ρ ys k):∃c,DaAll K (bV σ ρ xs F H) g c/\k c:=by
 induction o generalizing k with
 |nil=>exact⟨[],.nil,h⟩
 |@cons v x g ys o t j =>
  cases x with
  |inr d=>obtain⟨c,a,q⟩:=j (k:=λc=>k (d::c)) (λy hy=>m y<|q0 _ hy) h;exact⟨d::c,.cons (Da.mono (eV R) o) a,q⟩
  |inl i =>
   unfold XZ at h;split at h
   .rename_i s e;obtain⟨c,a,q⟩:=j (k:=λc=>k (s.d::c)) (λy hy=>m y<|q0 _ hy) h;refine⟨s.d::c,.cons ?_ a,q⟩;have o:σ[i]?=O (O v):=o;have own:cJ s=Ep->Da K (bV σ ρ xs F H) v s.d:=λw=>by
     obtain⟨b,u,B,S,L,M⟩:=R.ow i s e w;rw[o]at B;cases B;have l:LentA σ ρ xs b:=⟨i,s,m _ G0,e,w,o⟩;exact(M.mono<|eV R).da (by rw[xF l];exact L)
    cases s with
    |fz d=>obtain⟨v,C,P⟩:=R.fz i d e;rw[o]at C;cases C;exact P.mono<|eV R
    |ow d=>exact own Z
    |io d=>exact own Z
   .exact h.elim
theorem Aw{o:HO}(h:Own1 K F o d):noMut d=false:=by
 cases o with
 |ext a=>obtain⟨b,c,xs,e,z,rfl,t⟩:=h.ext;rfl
 |_=>cases d<;>first|rfl|exact h.elim
theorem LK{a:List D}{i:Nat}{s:Sl}(h:((a.map Sl.fz).map O)[i]?=O (O s)):∃d,a[i]?=O d/\s=.fz d:=by
 rw[A0,Z0]at h;cases e:a[i]? with
 |none=>rw[e]at h;cases h
 |some d=>rw[e]at h;cases h;exact⟨d,Z,Z⟩
theorem VN{a:List V}{i:Nat}(h:a[i]?=O v):(a.map O)[i]?=O (O v):=by rw[Z0,h];rfl
theorem Uy(s:Sub F H)(da:DaAll K F vs ds):Rel K ⟨H,F,λ_=>U⟩ F (vs.map O) H ((ds.map Sl.fz).map O) where
 len:=by simp[da.length]
 sub:=s
 sub0:=Sub.refl _
 fn:=λ_ _ e=>.inl e
 keep:=λ_ _ e _=>e
 fz:=λi d e=>by obtain⟨g,b,c⟩:=LK e;cases c;obtain⟨v,k,l⟩:=da.get b;exact⟨v,VN k,l⟩
 ow:=λi s e w=>by obtain⟨g,b,rfl⟩:=LK e;cases w
 new:=λi d a e _=>by obtain⟨g,b,c⟩:=LK e;cases c
 io:=λi a e=>by cases e
 ioi:=λi d e=>by obtain⟨g,b,c⟩:=LK e;cases c
 ap:=λi j s t a e w _ _ _ _=>by obtain⟨g,b,rfl⟩:=LK e;cases w
theorem Rel.called(R:Rel K G F σ H ρ){j:L2.St}{k:Ev}(c:Rel K ⟨H,bV σ ρ xs F H,λ_=>U⟩ F' j H' k):Sub F (mK σ ρ xs F')/\Rel K G (mK σ ρ xs F') σ H' ρ:=by
 have nl:∀{b:Hd}{o:HO},F b=O o->¬LentA σ ρ xs b:=λ{b o} e z=>by obtain⟨_,_,_,_,_,_,h,_⟩:=z.own R;rw[h]at e;cases e
 have g:Sub F (mK σ ρ xs F'):=λb o e=>by rw[lY<|nl e];exact c.sub0 _ _<|eV R _ _ e
 have l:∀{b:Hd}{o:HO},mK σ ρ xs F' b=O o->¬LentA σ ρ xs b/\F' b=O o:=λ{b o} e=>by
  by_cases z:LentA σ ρ xs b
  .rw[zw z]at e;cases e
  .rw[lY z]at e;exact⟨z,e⟩
 have kp:∀{b:Hd}{o:HO},H b=O o->H' b=O o:=λ{b o} e=>c.keep b o e λi z=>by cases z
 refine⟨g,R.len,λb o e=>c.sub _ _ (l e).2,R.sub0.trans g,λb o e=>?_,λa o e n=>kp<|R.keep a o e n,λi d e=>?_,λi s e w=>?_,R.new,R.io,R.ioi,R.ap⟩
 .obtain⟨n,e⟩:=l e;rcases c.fn b o e with q|q
  .have q:bV σ ρ xs F H b=O o:=q;rw[cV n]at q;exact R.fn b o q
  .exact .inr (R.h0 q)
 .obtain⟨v,m,t⟩:=R.fz i d e;exact⟨v,m,t.mono g⟩
 .obtain⟨a,o,m,t,x,y⟩:=R.ow i s e w;refine⟨a,o,m,?_,kp x,y.mono g⟩;cases q:mK σ ρ xs F' a with
  |none=>rfl
  |some u =>
   obtain⟨n,q⟩:=l q;rcases c.fn a u q with z|z
   .have z:bV σ ρ xs F H a=O u:=z;rw[cV n,t]at z;cases z
   .have z:H a=none:=z;rw[x]at z;cases z
theorem Res.called(R:Rel K G F σ H ρ){c:L2.St}{g:Ev}{v:V}{r:Sl}(x:Rel K ⟨H,bV σ ρ xs F H,λ_=>U⟩ F' c H' g)(q:Res K ⟨H,bV σ ρ xs F H,λ_=>U⟩ F' H' c g v r)(hl:iJ ρ xs=Ep->noMut r.d=Ep):Res K G (mK σ ρ xs F') H' σ ρ v r:=by
 have y:∀b ys,F' b=O (.tup ys)->mK σ ρ xs F' b=O (.tup ys):=λb ys e=>by
  have n:¬LentA σ ρ xs b:=λz=>by obtain⟨_,_,o,_,_,_,_,h,w⟩:=z.own R;have k:=x.sub0 b o (by show bV σ ρ xs F H b=O o;rw[xF z];exact h);rw[e]at k;cases k;exact w
  rw[lY n];exact e
 by_cases l:iJ ρ xs=Ep
 .cases r with
  |fz d=>exact Da.noMut y q<|hl l
  |ow d=>obtain⟨a,o,_,_,_,w,_⟩:=q;have:=hl l;rw[show (Sl.ow d).d=d from Z,Aw w]at this;cases this
  |io d=>exact q.elim
 .have e:mK σ ρ xs F'=F':=funext λb=>lY λz=>l<|CW z;rw[e];cases r with
  |fz d=>exact q
  |io d=>exact q.elim
  |ow d=>obtain⟨a,o,B,C,L,M,j,_⟩:=q;refine⟨a,o,B,C,L,M,R.h0 j,λi s P w z=>?_⟩;obtain⟨S,Y,m,_,t,_⟩:=R.ow i s P w;rw[z]at m;cases m;have j:H a=none:=j;rw[j]at t;cases t
theorem WN{E:XK}{Q:VK}(h:lift K (Qy zf as) σ H Q):vG (QX K zf) [] E (pZ<|as.map<|XX K) σ H Q:=by
 obtain⟨G,F,ρ,j,R,w,k⟩:=h;refine BJ R w λC L M xs a l b o c=>?_;obtain⟨m,da,c⟩:=Az (xs:=xs) b (λy hy=>hy) o c;rw[E2];refine⟨_,_,m.map Sl.fz,_,Uy (uE b) da,c,λv H' F' r t s' g x q=>?_⟩;obtain⟨B,R2⟩:=b.called g;have i:(iJ a xs=Ep->noMut r.d=Ep)/\j r a:=by
  split at q
  .rename_i e;exact⟨λz=>(by rw[e]at z;cases z),q⟩
  .exact⟨λ_=>q.1,q.2⟩
 exact k v H' _ r a (l.trans B) R2 (Res.called b g x i.1) i.2
end
section
variable {K:Fg}{G:Gh}{F F' H':Hp}{σ:L2.St}{ρ:Ev}{xs:List vF}
noncomputable def P'(a:Hd):Nat->Do Hd:=λj=>if j=0 then O a else U
theorem ED(h:P' a j=O b):j=0/\b=a:=by
 unfold P' at h;split at h
 .rename_i z;cases h;exact⟨z,Z⟩
 .cases h
theorem Bw{o:HO}(s:Sub F H)(m:F a=U)(q:H a=O o)(x:Own1 K F o d)(da:DaAll K F vs ds):Rel K ⟨H,F,P' a⟩ F ((V.ref a::vs).map O) H ((Sl.io d::ds.map Sl.fz).map O) where
 len:=by simp[da.length]
 sub:=s
 sub0:=Sub.refl _
 fn:=λ_ _ e=>.inl e
 keep:=λ_ _ e _=>e
 fz:=λi k e=>by
  cases i with
  |zero=>simp at e
  |succ i =>
   have e:((ds.map Sl.fz).map O)[i]?=O (O<|Sl.fz k):=by simpa using e
   obtain⟨l,c,g⟩:=LK e;cases g;obtain⟨v,y,g2⟩:=da.get c;exact⟨v,by simpa using y,g2⟩
 ow:=λi s e w=>by
  cases i with
  |zero=>simp at e;subst e;exact⟨a,o,by simp,m,q,x⟩
  |succ i =>
   have e:((ds.map Sl.fz).map O)[i]?=O (O s):=by simpa using e
   obtain⟨l,c,rfl⟩:=LK e;cases w
 new:=λi k b e _=>by
  cases i with
  |zero=>simp at e
  |succ i =>
   have e:((ds.map Sl.fz).map O)[i]?=O (O<|Sl.ow k):=by simpa using e
   obtain⟨l,c,g⟩:=LK e;cases g
 io:=λi b e=>by obtain⟨rfl,rfl⟩:=ED e;exact⟨d,by simp,by simp⟩
 ioi:=λi k e=>by
  cases i with
  |zero=>exact⟨a,Z⟩
  |succ i =>
   have e:((ds.map Sl.fz).map O)[i]?=O (O<|Sl.io k):=by simpa using e
   obtain⟨l,c,g⟩:=LK e;cases g
 ap:=λi j s t b c B g C _ _=>by
  have f:∀{i:Nat}{s:Sl},((Sl.io d::ds.map Sl.fz).map O)[i]?=O (O s)->cJ s=Ep->i=0:=λ{i s} e w=>by
   cases i with
   |zero=>rfl
   |succ i =>
    have e:((ds.map Sl.fz).map O)[i]?=O (O s):=by simpa using e
    obtain⟨l,c,rfl⟩:=LK e;cases w
  rw[f c B,f g C]
theorem Rel.calledI(R:Rel K G F σ H ρ){i:Nat}{s:Sl}{a:Hd}{x:D}{L:L2.St}{M:Ev}(e:ρ[i]?=O (O s))(w:cJ s=Ep)(B:σ[i]?=O (O<|V.ref a))(l:Rel K ⟨H,F,P' a⟩ F' (O (V.ref a)::L) H' (O (Sl.io x)::M)):Rel K G F' σ H' (ρ.set i<|O<|s.put x):=by
 obtain⟨a0,o0,g1,g2,g3,g4⟩:=R.ow i s e w;rw[B]at g1;cases g1;have P:Sub F F':=l.sub0;have hl:=AJ e;have kp:∀{b:Hd}{o:HO},b≠a->H b=O o->H' b=O o:=λ{b o} n q=>l.keep b o q λj z=>n (ED z).2;have S:∀{j:Nat}{t:Sl},j≠i->ρ[j]?=O (O t)->cJ t=Ep->∃b o,σ[j]?=O (O<|V.ref b)/\F' b=U/\H' b=O o/\Own1 K F' o t.d:=λ{j t} n q m=>by
  obtain⟨b,o,q1,q2,q3,q4⟩:=R.ow j t q m;have nb:b≠a:=λz=>n<|R.ap j i t s a q m e w (by rw[q1,z]) B;refine⟨b,o,q1,?_,kp nb q3,q4.mono P⟩;cases z:F' b with
  |none=>rfl
  |some u =>
   rcases l.fn b u z with y|y
   .have y:F b=O u:=y;rw[q2]at y;cases y
   .have y:H b=none:=y;rw[q3]at y;cases y
 refine⟨by rw[o4];exact R.len,l.sub,R.sub0.trans P,λb o q=>?_,λb o q n=>?_,λj d q=>?_,λj t q m=>?_,λj d b q eb=>?_,λj b q=>?_,λj d q=>?_,λj k t u b e1 w1 e2 w2 e3 e4=>?_⟩
 .rcases l.fn b o q with y|y
  .exact R.fn b o y
  .exact .inr (R.h0 y)
 .refine kp (λz=>?_) (R.keep b o q n);subst z;cases s with
  |fz d=>cases w
  |ow d=>rw[R.new i d b e B]at q;cases q
  |io d=>obtain⟨a',y⟩:=R.ioi i d e;obtain⟨_,_,c⟩:=R.io i a' y;rw[B]at c;cases c;exact n i y
 .rcases fZ q with⟨rfl,z⟩|⟨n,z⟩
  .cases s<;>simp[Sl.put,cJ]at z w
  .obtain⟨v,g,c⟩:=R.fz j d z;exact⟨v,g,c.mono P⟩
 .rcases fZ q with⟨rfl,z⟩|⟨n,z⟩
  .cases z;obtain⟨b,o,g,c,y3,y4⟩:=l.ow 0 (.io x) (by simp) Z;simp at g;subst g;exact⟨a,o,B,c,y3,by cases s<;>first|exact y4|cases w⟩
  .exact S n z m
 .rcases fZ q with⟨rfl,z⟩|⟨n,z⟩
  .cases s with
   |fz d=>cases w
   |ow C=>exact R.new j C b e eb
   |io C=>cases z
  .exact R.new j d b z eb
 .obtain⟨d,g,c⟩:=R.io j b q;by_cases z:j=i
  .subst z;rw[e]at g;cases g;exact⟨x,by rw[kY hl];rfl,c⟩
  .exact⟨d,by rw[V1<|L5 z];exact g,c⟩
 .rcases fZ q with⟨rfl,z⟩|⟨n,z⟩
  .cases s with
   |fz d=>cases w
   |ow C=>cases z
   |io C=>exact R.ioi j C e
  .exact R.ioi j d z
 .have f:∀(j:Nat) (t:Sl),(ρ.set i<|O<|s.put x)[j]?=O (O t)->cJ t=Ep->∃t',ρ[j]?=O (O t')/\cJ t'=true:=λj t q m=>by
   rcases fZ q with⟨rfl,z⟩|⟨n,z⟩
   .exact⟨s,e,w⟩
   .exact⟨t,z,m⟩
  obtain⟨t',Y,w1'⟩:=f j t e1 w1;obtain⟨u',e2',w2'⟩:=f k u e2 w2;exact R.ap j k t' u' b Y w1' e2' w2' e3 e4
theorem nJ(R:Rel K G F σ H ρ){ys:List vF}{c:List V}{k:List D->Prop}(m:iJ ρ ys=Er)(o:OpdsAt K F σ c ys)(h:XZ ρ ys k):∃b,DaAll K F c b/\k b:=by
 induction o generalizing k with
 |nil=>exact⟨[],.nil,h⟩
 |@cons v x c ys o t j =>
  cases x with
  |inr d=>obtain⟨b,a,q⟩:=j (k:=λb=>k (d::b)) m h;exact⟨d::b,.cons o a,q⟩
  |inl i =>
   unfold XZ at h;unfold iJ at m;simp only[Bool.or_eq_false_iff]at m;split at h
   .rename_i s e;obtain⟨b,a,q⟩:=j (k:=λb=>k (s.d::b)) m.2 h;refine⟨s.d::b,.cons ?_ a,q⟩;have g:=m.1;rw[e]at g;cases s with
    |fz d=>obtain⟨y,l,w⟩:=R.fz i d e;have o:σ[i]?=O (O v):=o;rw[o]at l;cases l;exact w
    |ow d=>cases g
    |io d=>cases g
   .exact h.elim
theorem vE{E:XK}{Q:VK}(h:lift K (wF zf i as) σ H Q):vG (QX K zf) [] E (pZ<|(.inl i::as).map<|XX K) σ H Q:=by
 obtain⟨G,F,ρ,Y,R,w,k⟩:=h;unfold wF MJ at w;split at w
 .rename_i s0 e0;obtain⟨v,x⟩:=R.bound e0;refine⟨v,x,BJ R w λvs L F1 xs l s1 g o c=>?_⟩;show QX K zf (v::vs++[]) L Q E;rw[E2];have c:Ry zf i xs l Y:=c;unfold Ry at c;split at c
  .rename_i s e;split at c
   .rename_i B p2;obtain⟨a,o',M,g2,g3,g4⟩:=g.ow i s e B;rw[x]at M;cases M;obtain⟨ds,da,c⟩:=nJ g p2 o c;refine⟨_,F1,.io s.d::ds.map Sl.fz,_,Bw g.sub g2 g3 g4 da,c,λv H' F' r ρ' s' R' C q=>?_⟩;split at q
    .rename_i d' ρ2;have R2:=g.calledI e B x R';refine k v H' F' r _ (s1.trans s') R2 ?_ q;cases r with
     |fz d=>exact C
     |io d=>exact C.elim
     |ow d =>
      obtain⟨b,u,h1,h2,h3,h4,m,_⟩:=C;have m:L b=none:=m;refine⟨b,u,h1,h2,h3,h4,g.h0 m,λj t es w z=>?_⟩;have own:∃t',l[j]?=O (O t')/\cJ t'=true:=by
       rcases fZ es with⟨rfl,y⟩|⟨n,y⟩
       .exact⟨s,e,B⟩
       .exact⟨t,y,w⟩
      obtain⟨t',y1,y2⟩:=own;obtain⟨a',o',P,_,S,_⟩:=g.ow j t' y1 y2;rw[z]at P;cases P;rw[m]at S;cases S
    .exact q.elim
   .exact c.elim
  .exact c.elim
 .exact w.elim
noncomputable def NV(n:Nat)(a:List Sl):Ev:=a.map O++u3 (n-a.length) U
noncomputable def outs:List Sl->Ev->Ev
 |[],_=>[]
 | .io _::as,ρ=>(ρ.headD U)::outs as ρ.tail
 | .fz d::as,ρ=>O (.fz d)::outs as ρ.tail
 | .ow d::as,ρ=>O (.ow d)::outs as ρ.tail
theorem QJ{l:List (Do α)}{i:Nat}{x:α}(h:(l++u3 n U)[i]?=O (O x)):l[i]?=O (O x):=by
 by_cases z:i<l.length
 .rw[A4 z]at h;exact h
 .rw[W2<|E1 z,vQ]at h;split at h<;>cases h
theorem fV{l m:List α}{i:Nat}{x:α}(h:l[i]?=O x):(l++m)[i]?=O x:=by rw[A4<|AJ h];exact h
theorem Rel.start(R:Rel K G F (vs.map O) H (args.map O)):Rel K G F (L2.start N vs) H (NV N.length args) where
 len:=by have:=R.len;simp[L2.start,NV]at this ⊢;lia
 sub:=R.sub
 sub0:=R.sub0
 fn:=R.fn
 keep:=R.keep
 fz:=λi d e=>by obtain⟨v,b,c⟩:=R.fz i d<|QJ e;exact⟨v,fV b,c⟩
 ow:=λi s e w=>by obtain⟨a,o,b,c⟩:=R.ow i s (QJ e) w;exact⟨a,o,fV b,c⟩
 new:=λi d a e g=>R.new i d a (QJ e) (QJ g)
 io:=λi a e=>by obtain⟨d,b,c⟩:=R.io i a e;exact⟨d,fV b,fV c⟩
 ioi:=λi d e=>R.ioi i d (QJ e)
 ap:=λi j s t a k l m q x y=>R.ap i j s t a (QJ k) l (QJ m) q (QJ x)<|QJ y
theorem SK:∀{b:List Sl}{ρ:Ev}{i:Nat}{s:Sl},(outs b ρ)[i]?=O (O s)->(∃d,b[i]?=O (.io d)/\ρ[i]?=O (O s))\/(b[i]?=O s/\∀d,s≠.io d)
 |[],ρ,i,s,h=>by simp[outs]at h
 | .io d::as,ρ,0,s,h=>by
  simp[outs]at h;cases ρ with
  |nil=>simp at h
  |cons x ρ=>simp at h;exact .inl ⟨d,by simp,by simp[h]⟩
 | .fz d::as,ρ,0,s,h=>by simp[outs]at h;subst h;exact .inr ⟨by simp,λd z=>by cases z⟩
 | .ow d::as,ρ,0,s,h=>by simp[outs]at h;subst h;exact .inr ⟨by simp,λd z=>by cases z⟩
 | .io d::as,ρ,i+1,s,h=>by
  simp only[outs,B3]at h;rcases SK h with⟨d,c,a⟩|⟨c,a⟩
  .exact .inl ⟨d,by simpa using c,by cases ρ with|nil=>simp at a|cons x ρ=>simpa using a⟩
  .exact .inr ⟨by simpa using c,a⟩
 | .fz d::as,ρ,i+1,s,h=>by
  simp only[outs,B3]at h;rcases SK h with⟨d,c,a⟩|⟨c,a⟩
  .exact .inl ⟨d,by simpa using c,by cases ρ with|nil=>simp at a|cons x ρ=>simpa using a⟩
  .exact .inr ⟨by simpa using c,a⟩
 | .ow d::as,ρ,i+1,s,h=>by
  simp only[outs,B3]at h;rcases SK h with⟨d,c,a⟩|⟨c,a⟩
  .exact .inl ⟨d,by simpa using c,by cases ρ with|nil=>simp at a|cons x ρ=>simpa using a⟩
  .exact .inr ⟨by simpa using c,a⟩
theorem Yj:∀{args:List Sl}{ρ:Ev}{i:Nat}{d:D}{x:Do Sl},args[i]?=O (.io d)->ρ[i]?=O x->(outs args ρ)[i]?=O x
 |[],_,_,_,_,h,_=>by simp at h
 |_::_,[],_,_,_,_,h=>by simp at h
 |s::as,y::ρ,0,d,x,h,h'=>by simp at h h';subst h h';simp[outs]
 |s::as,y::ρ,i+1,d,x,h,h'=>by have:=Yj (args:=as) (ρ:=ρ) (i:=i) (by simpa using h) (by simpa using h');cases s<;>simpa [outs]using this
theorem FD:∀(a:List Sl) (ρ:Ev),(outs a ρ).length=a.length
 |[],_=>rfl
 |s::as,ρ=>by cases s<;>simp[outs,FD as]
theorem Vy{a:List Sl}{i:Nat}{s:Sl}(h:(a.map O)[i]?=O (O s)):a[i]?=O s:=by
 rw[Z0]at h;cases e:a[i]? with
 |none=>rw[e]at h;cases h
 |some x=>rw[e]at h;cases h;rfl
theorem hV{a:List Sl}{i:Nat}{s:Sl}(h:a[i]?=O s):(a.map O)[i]?=O (O s):=by rw[Z0,h];rfl
theorem Rel.ret{B:List V}(hn:∀s∈g,∀d,s≠.ow d)(R:Rel K G F (B.map O) H (g.map O))(sb:Sub F F')(q:Rel K G F' σ' H' ρ'):Rel K G F' (B.map O) H' (outs g ρ'):=by
 have own:∀{i:Nat}{s:Sl},(outs g ρ')[i]?=O (O s)->cJ s=Ep->∃d a,g[i]?=O (.io d)/\ρ'[i]?=O (O s)/\G.io i=O a/\(B.map O)[i]?=O (O<|V.ref a)/\σ'[i]?=O (O<|V.ref a):=λ{i s} e w=>by
  rcases SK e with⟨d,l,c⟩|⟨l,c⟩
  .obtain⟨a,m⟩:=R.ioi i d<|hV l;obtain⟨_,_,k⟩:=R.io i a m;obtain⟨_,_,x⟩:=q.io i a m;exact⟨d,a,l,c,m,k,x⟩
  .cases s with
   |fz d=>cases w
   |ow d=>exact(hn _ (A3 l) d Z).elim
   |io d=>exact(c d Z).elim
 refine⟨by rw[FD];simpa using R.len,q.sub,q.sub0,q.fn,q.keep,λi d e=>?_,λi s e w=>?_,λi d a e C=>?_,λi a e=>?_,λi d e=>?_,λi j s t a e1 L e2 M P S=>?_⟩
 .rcases SK e with⟨y,l,c⟩|⟨l,c⟩
  .obtain⟨a,m⟩:=R.ioi i y<|hV l;obtain⟨d2,k,_⟩:=q.io i a m;rw[c]at k;cases k
  .obtain⟨v,m,k⟩:=R.fz i d<|hV l;exact⟨v,m,k.mono sb⟩
 .obtain⟨d,a,l,c,m,k,x⟩:=own e w;obtain⟨b,o,Y,g2⟩:=q.ow i s c w;rw[x]at Y;cases Y;exact⟨a,o,k,g2⟩
 .obtain⟨y,b,l,c,m,k,x⟩:=own e Z;rw[k]at C;cases C;exact q.new i d _ c x
 .obtain⟨d,l,c⟩:=R.io i a e;obtain⟨y,m,k⟩:=q.io i a e;exact⟨y,Yj (Vy l) m,c⟩
 .obtain⟨y,a,l,c,m,k,x⟩:=own e Z;exact⟨a,m⟩
 .obtain⟨_,a1,_,c,_,k,x⟩:=own e1 L;obtain⟨_,a2,_,g2,_,g4,g5⟩:=own e2 M;rw[k]at P;cases P;rw[g4]at S;cases S;exact q.ap i j s t a c L g2 M x g5
theorem Res.ret{j:List V}{r:Sl}(l:∀s∈c,∀d,s≠.ow d)(R:Rel K G F (j.map O) H (c.map O))(m:Rel K G F' σ' H' ρ')(q:Res K G F' H' σ' ρ' v r):Res K G F' H' (j.map O) (outs c ρ') v r:=by
 cases r with
 |fz d=>exact q
 |io d=>exact q.elim
 |ow d =>
  obtain⟨a,o,t,x,y,B,C,L⟩:=q;refine⟨a,o,t,x,y,B,C,λi s e w z=>?_⟩;rcases SK e with⟨M,g,g2⟩|⟨g,g2⟩
  .obtain⟨b,k⟩:=R.ioi i M<|hV g;obtain⟨_,_,P⟩:=R.io i b k;obtain⟨_,_,S⟩:=m.io i b k;rw[P]at z;cases z;exact L i s g2 w S
  .cases s with
   |fz d=>cases w
   |ow d=>exact(l _ (A3 g) d Z).elim
   |io d=>exact(g2 d Z).elim
noncomputable def yF(a:List Sl)(b:Sl->Ev->Prop):DE:={nx:=λρ=>b (.fz .none) (outs a ρ),rt:=λr ρ=>b r (outs a ρ),bk:=λ_=>Fo,ct:=λ_=>Fo}
theorem aS{ts:sW}{Q:VK}{E:XK}(j:∀a b,zf a b->(∀s∈a,∀d,s≠.ow d)/\ts (yF a b) (NV N.length a))(h:QX K zf vs H Q E):cZ K ts {nx:=λ_ H'=>Q .non H',rt:=Q} (L2.start N vs) H:=by
 obtain⟨G,F,a,b,R,w,k⟩:=h;obtain⟨e,w⟩:=j a b w;refine⟨G,F,_,_,R.start,w,λg H' F' i s c q=>?_,λv g H' F' r i s c l q=>?_,λ_ _ _ _ _ _ q=>q.elim,λ_ _ _ _ _ _ q=>q.elim⟩
 .exact k .non H' F' (.fz .none) _ s (R.ret e s c) Da.non q
 .exact k v H' F' r _ s (R.ret e s c) (l.ret e R c) q
end
section
variable {K:Fg}{F:Hp}{v:V}
theorem At.int(h:At K F H v (.int i)):v=.int i:=by
 rcases h with h|⟨a,o,rfl,_,_,h⟩
 .cases h;rfl
 .cases o<;>exact h.elim
theorem At.bool(h:At K F H v (.bool b)):v=.bl b:=by
 rcases h with h|⟨a,o,rfl,_,_,h⟩
 .cases h;rfl
 .cases o<;>exact h.elim
theorem At.str(h:At K F H v (.str x)):v=.str x:=by
 rcases h with h|⟨a,o,rfl,_,_,h⟩
 .cases h;rfl
 .cases o<;>exact h.elim
theorem At.none(h:At K F H v .none):v=.non:=by
 rcases h with h|⟨a,o,rfl,_,_,h⟩
 .cases h;rfl
 .cases o<;>exact h.elim
theorem At.list{b:List D}(s:Sub F H)(h:At K F H v (.list b)):∃a c,v=.ref a/\H a=O (.lst c)/\DaAll K F c b:=by
 rcases h with h|⟨a,o,rfl,_,e,h⟩
 .cases h with
  |lst e t=>exact⟨_,_,Z,s _ _ e,t⟩
 .cases o<;>first|exact h.elim|exact⟨_,_,rfl,e,h⟩
theorem At.tuple{c:List D}(s:Sub F H)(h:At K F H v (.tuple c)):∃a b,v=.ref a/\F a=O (.tup b)/\H a=O (.tup b)/\DaAll K F b c:=by
 rcases h with h|⟨a,o,rfl,_,e,h⟩
 .cases h with
  |tup e t=>exact⟨_,_,Z,e,s _ _ e,t⟩
 .cases o<;>exact h.elim
theorem Zj(k:dY):Gy k≠.none:=by cases k<;>(intro z;cases z)
theorem Da.scr_inv(h:Da K F v d)(e:d=jY ns):∃a,v=.ref a/\SqL K F a (ns.map V.int):=by
 cases h with
 |non=>cases e
 |bl _=>cases e
 |int _=>cases e
 |str _=>cases e
 |lst _ _=>cases e
 |tup _ _=>cases e
 |dk _ t =>
  cases t with
  |nil=>injection e with e;cases e
  |cons _ _=>injection e with e;injection e with e _;injection e with e _;exact(Zj _ e).elim
 |dt _ t =>
  cases t with
  |nil=>injection e with e;cases e
  |cons _ _=>injection e with e;injection e with e _;injection e with e _;cases e
 |@scr _ g q =>
  injection e with e;injection e with e _;injection e with _ e;injection e with e2;have:∀(l m:Qo),l.map n0=m.map n0->l=m:=by
   intro l;induction l with
   |nil=>intro m e;cases m with|nil=>rfl|cons=>simp at e
   |cons a l c=>intro m e;cases m with|nil=>simp at e|cons b m=>simp at e;rw[e.1,c m e.2]
  rw[<-this _ _ e2];exact⟨_,Z,q⟩
 |_=>cases e
theorem At.scr(s:Sub F H)(h:At K F H v (jY ns)):∃a,v=.ref a/\SqL K H a (ns.map V.int):=by
 rcases h with h|⟨a,o,rfl,_,e,h⟩
 .obtain⟨a,c,d⟩:=h.scr_inv Z;exact⟨a,c,s.sql d⟩
 .exfalso;cases o<;>first|exact h.elim|skip
  .rename_i b;have h:DaKV K F b [(.none,.list<|ns.map n0)]:=h;generalize q:[(PyData.none,P2<|ns.map n0)]=es at h;cases h with
   |nil=>cases q
   |cons _ _=>injection q with q _;injection q with q _;exact Zj _ q.symm
  .rename_i b;have h:DaKT K F b [(.none,.list<|ns.map n0)]:=h;cases h
theorem AtAll.one(h:AtAll K F H vs [d]):∃v,vs=[v]/\At K F H v d:=by cases h with|cons a t=>cases t;exact⟨_,Z,a⟩
theorem AtAll.two(h:AtAll K F H vs [d,e]):∃v u,vs=[v,u]/\At K F H v d/\At K F H u e:=by cases h with|cons a t=>cases t with|cons b t=>cases t;exact⟨_,_,Z,a,b⟩
end
def OV(r:R2):List V->Hp->VK->Prop:=λa H Q=>∃x y,a=[x,y]/\r x y H Q
def M_(r:V->Hp->VK->Prop):List V->Hp->VK->Prop:=λa H Q=>∃x,a=[x]/\r x H Q
theorem Cw{K:Fg}{r:R2}{f:D->D->(Sl->Prop)->Prop}(h:∀(G:Gh) (F:Hp) (σ:L2.St) (H:Hp) (b:Ev) (x y:V) (d e:D) (Q:VK) (c:Sl->Prop),Rel K G F σ H b->At K F H x d->At K F H y e->f d e c ->(∀v g i s,Sub F i->Rel K G i σ g b->Res K G i g σ b v s->c s->Q v g)->r x y H Q):JZ K (OV r) (o2 f):=by
 intro G F σ H b q j Q c R a w k;match j,a,w with
 |[d,e],a,w=>obtain⟨v,u,rfl,l,m⟩:=a.two;exact⟨v,u,Z,h G F σ H b v u d e Q c R l m w k⟩
theorem GD{K:Fg}{r:List V->Hp->VK->Prop}{f:D->(Sl->Prop)->Prop}(h:∀(G:Gh) (F:Hp) (σ:L2.St) (H:Hp) (b:Ev) (x:V) (d:D) (Q:VK) (c:Sl->Prop),Rel K G F σ H b->At K F H x d->f d c ->(∀v e g s,Sub F g->Rel K G g σ e b->Res K G g e σ b v s->c s->Q v e)->r [x] H Q):JZ K r (o1 f):=by
 intro G F σ H b l i Q c R a w k;match i,a,w with
 |[d],a,w=>obtain⟨v,rfl,j⟩:=a.one;exact h G F σ H b v d Q c R j w k
noncomputable def fI(C:Int->Int->Prop)(g:Int->Int->D):D->D->(Sl->Prop)->Prop
 | .int i,.int j,Q=>C i j/\Q (.fz<|g i j)
 |_,_,_=>Fo
noncomputable def XN(g:Int->Int->D):D->D->(Sl->Prop)->Prop
 | .int i,.int j,Q=>Q<|.fz<|g i j
 |_,_,_=>Fo
theorem YN{K:Fg}(a:∀F i j,Da K F (g i j)<|b i j):JZ K (OV<|rI C g) (o2<|fI C b):=Cw λG F σ H m x y d e Q q R c l w k=>by
 cases d<;>first|exact w.elim|skip
 cases e<;>first|exact w.elim|skip
 case int.int i j=>cases c.int;cases l.int;exact⟨i,j,Z,Z,w.1,k _ H F (.fz _) (Sub.refl _) R (a F i j) w.2⟩
theorem HD{K:Fg}(a:∀F i j,Da K F (g i j)<|b i j):JZ K (OV<|sU g) (o2<|XN b):=Cw λG F σ H m x y d e Q q R c l w k=>by
 cases d<;>first|exact w.elim|skip
 cases e<;>first|exact w.elim|skip
 case int.int i j=>cases c.int;cases l.int;exact⟨i,j,Z,Z,k _ H F (.fz _) (Sub.refl _) R (a F i j) w⟩
def iV(r a:R2):R2:=λx y H Q=>r x y H Q\/a x y H Q
def Wy:R2:=λx y H Q=>∃(a b:Hd) (c ys:List V),x=.ref a/\y=.ref b/\H a=O (.tup c)/\H b=O (.tup ys)/\c.length+ys.length<=sizeLine /\
 (c=[]->Q (.ref b) H)/\(c≠[]->ys=[]->Q (.ref a) H)/\(c≠[]->ys≠[]->∀p,H p=U->Q (.ref p) (gJ H p<|.tup<|c++ys))
noncomputable def bS:D->D->(Sl->Prop)->Prop
 | .int i,.int j,Q=>Q<|.fz<|.int<|i+j
 | .tuple a,.tuple ys,Q=>a.length+ys.length<=sizeLine/\Q (.fz<|.tuple<|a++ys)
 | .list a,.list ys,Q=>a.length+ys.length<=sizeLine/\Q (.ow<|.list<|a++ys)
 |_,_,_=>Fo
theorem DaAll.nil_of{K:Fg}(h:DaAll K F [] ds):ds=[]:=by cases h;rfl
theorem ZN{K:Fg}:JZ K (OV<|iV (sU λi j=>.int<|i+j)<|iV Wy uN) (o2 bS):=Cw λG F σ H ρ x y d e Q Qd R m q w k=>by
 cases d<;>first|exact w.elim|(cases e<;>first|exact w.elim|skip)
 case int.int i j=>cases m.int;cases q.int;exact .inl ⟨i,j,Z,Z,k _ H F (.fz _) (Sub.refl _) R (Da.int _) w⟩
 case tuple.tuple L ys =>
  obtain⟨a,us,rfl,M,t,c⟩:=m.tuple R.sub;obtain⟨b,l,rfl,P,v,g⟩:=q.tuple R.sub;refine .inr<|.inl ⟨a,b,us,l,Z,Z,t,v,by rw[c.length,g.length];exact w.1,λz=>?_,λ_ z=>?_,λ_ _ p B=>?_⟩
  .subst z;have:=c.nil_of;subst this;exact k _ H F (.fz _) (Sub.refl _) R (Da.tup P g) w.2
  .subst z;have:=g.nil_of;subst this;refine k _ H F (.fz _) (Sub.refl _) R (Da.tup M c) ?_;have:=w.2;rw[E2]at this;exact this
  .obtain⟨S,C,Y⟩:=R.newTup B<|c.append g;exact k _ _ _ (.fz _) S C Y w.2
 case list.list L ys=>obtain⟨a,us,rfl,t,c⟩:=m.list R.sub;obtain⟨b,l,rfl,v,g⟩:=q.list R.sub;refine .inr<|.inr ⟨a,b,us,l,Z,Z,t,v,by rw[c.length,g.length];exact w.1,λp B=>?_⟩;obtain⟨C,r'⟩:=R.newOw (o:=.lst<|us++l) (d:=.list<|L++ys) B<|c.append g;exact k _ _ F _ (Sub.refl _) C r' w.2
noncomputable def cS:D->D->(Sl->Prop)->Prop
 | .int i,.int j,Q=>CMul i j/\Q (.fz<|.int<|i*j)
 | .list a,.int k,Q=>-(2 ^ 63)<=k/\k<2 ^ 63/\a.length*k.toNat<=sizeLine/\Q (.ow<|.list (u3 k.toNat a).flatten)
 |_,_,_=>Fo
theorem aO{K:Fg}:JZ K (OV<|iV (rI CMul λi j=>.int<|i*j) wN) (o2 cS):=Cw λG F σ H B x y d e Q C R b c w k=>by
 cases d<;>first|exact w.elim|(cases e<;>first|exact w.elim|skip)
 case int.int i j=>cases b.int;cases c.int;exact .inl ⟨i,j,Z,Z,w.1,k _ H F (.fz _) (Sub.refl _) R (Da.int _) w.2⟩
 case list.int l j=>cases c.int;obtain⟨a,us,rfl,m,g⟩:=b.list R.sub;refine .inr ⟨a,j,us,Z,Z,m,w.1,w.2.1,by rw[g.length];exact w.2.2.1,λp q=>?_⟩;obtain⟨t,v⟩:=R.newOw (o:=.lst (u3 j.toNat us).flatten) (d:=.list (u3 j.toNat l).flatten) q<|g.rep _;exact k _ _ F _ (Sub.refl _) t v w.2.2.2
noncomputable def dS:D->(Sl->Prop)->Prop
 | .list a,Q=>Q<|.fz<|.int a.length
 | .tuple a,Q=>Q<|.fz<|.int a.length
 | .dict [(.none,.list a)],Q=>∃ns:Qo,a=ns.map n0/\Q (.fz<|.int ns.length)
 |_,_=>Fo
theorem bO{K:Fg}:JZ K (PR K) (o1 dS):=GD λG F σ H j x d Q l R b w k=>by
 cases d<;>first|exact w.elim|skip
 case list g=>obtain⟨a,us,rfl,e1,d1⟩:=b.list R.sub;exact⟨a,us,Z,.inl<|SqL.of e1,k _ H F (.fz _) (Sub.refl _) R (Da.int _)<|by rw[d1.length];exact w⟩
 case tuple g=>obtain⟨a,us,rfl,_,e1,d1⟩:=b.tuple R.sub;exact⟨a,us,Z,.inr<|SqT.of e1,k _ H F (.fz _) (Sub.refl _) R (Da.int _)<|by rw[d1.length];exact w⟩
 case dict i =>
  rcases i with _|⟨⟨c,e⟩,_|⟨m,t⟩⟩
  .exact w.elim
  .cases c<;>first|exact w.elim|skip
   cases e<;>first|exact w.elim|skip
   obtain⟨ns,rfl,w⟩:=w;obtain⟨a,rfl,q⟩:=b.scr R.sub;exact⟨a,_,Z,.inl q,k _ H F (.fz _) (Sub.refl _) R (Da.int _)<|by rw[l0];exact w⟩
  .cases c<;>first|exact w.elim|(cases e<;>exact w.elim)
noncomputable def N_:D->D->(Sl->Prop)->Prop
 | .list a,.int i,Q=>∃d,vW a i=O d/\Q (.fz d)
 | .tuple a,.int i,Q=>∃d,vW a i=O d/\Q (.fz d)
 | .dict [(.none,.list a)],.int i,Q=>∃(ns:Qo) (n:Int),a=ns.map n0/\vW ns i=O n/\Q (.fz<|.int n)
 |_,_,_=>Fo
theorem DaAll.at{K:Fg}(h:DaAll K F xs ds)(e:vW ds i=O d):∃v,vW xs i=O v/\Da K F v d:=by
 unfold vW at e ⊢;rw[h.length];cases q:oz ds.length i with
 |none=>rw[q]at e;cases e
 |some j=>rw[q]at e;exact h.get e
theorem wE(f:α->β){l:List α}{i:Int}{x:α}(h:vW l i=O x):vW (l.map f) i=O (f x):=by
 unfold vW at h ⊢;rw[l0];cases q:oz l.length i with
 |none=>rw[q]at h;cases h
 |some j=>rw[q]at h;simp at h ⊢;exact⟨x,h,Z⟩
theorem fS{K:Fg}:JZ K (OV<|iV (WC K)<|XC K) (o2 N_):=Cw λG F σ H P x y d e Q S R g j w k=>by
 cases d<;>first|exact w.elim|skip
 case list L =>
  cases e<;>first|exact w.elim|skip
  rename_i i;obtain⟨d,b,c⟩:=w;cases j.int;obtain⟨a,us,rfl,l,m⟩:=g.list R.sub;obtain⟨v,t,g2⟩:=m.at b;exact .inl ⟨a,us,i,v,Z,Z,SqL.of l,t,k _ H F (.fz _) (Sub.refl _) R g2 c⟩
 case tuple L =>
  cases e<;>first|exact w.elim|skip
  rename_i i;obtain⟨d,b,c⟩:=w;cases j.int;obtain⟨a,us,rfl,_,l,m⟩:=g.tuple R.sub;obtain⟨v,t,g2⟩:=m.at b;exact .inr ⟨a,us,i,v,Z,Z,SqT.of l,t,k _ H F (.fz _) (Sub.refl _) R g2 c⟩
 case dict M =>
  rcases M with _|⟨⟨B,C⟩,_|⟨Y,c4⟩⟩
  .exact w.elim
  .cases B<;>first|exact w.elim|skip
   cases C<;>first|exact w.elim|skip
   cases e<;>first|exact w.elim|skip
   rename_i i;obtain⟨ns,n,e,b,c⟩:=w;subst e;cases j.int;obtain⟨a,rfl,q⟩:=g.scr R.sub;exact .inl ⟨a,_,i,_,Z,Z,q,wE V.int b,k _ H F (.fz _) (Sub.refl _) R (Da.int _) c⟩
  .cases B<;>first|exact w.elim|(cases C<;>exact w.elim)
noncomputable def gS:D->(Sl->Prop)->Prop
 | .list a,Q=>Q<|.ow<|.list a
 | .tuple a,Q=>Q<|.ow<|.list a
 |_,_=>Fo
theorem ax{K:Fg}:JZ K (Wj K) (o1 gS):=GD λG F σ H l x d Q m R j w k=>by
 cases d<;>first|exact w.elim|skip
 case list b=>obtain⟨a,us,rfl,c,d1⟩:=j.list R.sub;refine⟨a,us,Z,.inl<|SqL.of c,λp e=>?_⟩;obtain⟨g,i⟩:=R.newOw (o:=.lst us) (d:=.list b) e d1;exact k _ _ F _ (Sub.refl _) g i w
 case tuple b=>obtain⟨a,us,rfl,_,c,d1⟩:=j.tuple R.sub;refine⟨a,us,Z,.inr<|SqT.of c,λp e=>?_⟩;obtain⟨g,i⟩:=R.newOw (o:=.lst us) (d:=.list b) e d1;exact k _ _ F _ (Sub.refl _) g i w
noncomputable def Xy:D->(Sl->Prop)->Prop
 | .list a,Q=>Q<|.fz<|.tuple a
 | .tuple a,Q=>Q<|.fz<|.tuple a
 |_,_=>Fo
theorem Yy{K:Fg}:JZ K (uD K) (o1 Xy):=GD λG F σ H l x d Q m R b w k=>by
 cases d<;>first|exact w.elim|skip
 case list c=>obtain⟨a,us,rfl,e1,d1⟩:=b.list R.sub;refine⟨a,us,Z,.inl ⟨SqL.of e1,λp e=>?_⟩⟩;obtain⟨g,i,j⟩:=R.newTup e d1;exact k _ _ _ (.fz _) g i j w
 case tuple c=>obtain⟨a,us,rfl,f1,e1,d1⟩:=b.tuple R.sub;exact⟨a,us,Z,.inr ⟨SqT.of e1,k _ H F (.fz _) (Sub.refl _) R (Da.tup f1 d1) w⟩⟩
noncomputable def O_:D->(Sl->Prop)->Prop
 | .list a,Q=>∃bs:List Bool,a=bs.map L4/\Q (.fz<|.bool<|bs.all id)
 |_,_=>Fo
theorem DaAll.bools{K:Fg}{bs:List Bool}(h:DaAll K F xs (bs.map L4)):xs=bs.map V.bl:=by
 induction bs generalizing xs with
 |nil=>cases h;rfl
 |cons b bs a=>cases h with|cons h t=>cases h;rw[a t];rfl
theorem mY{K:Fg}:JZ K (GN K) (o1 O_):=GD λG F σ H i x d Q j R b w k=>by
 cases d<;>first|exact w.elim|skip
 rename_i l;obtain⟨bs,e,w⟩:=w;subst e;obtain⟨a,us,rfl,c,g⟩:=b.list R.sub;have:=g.bools;subst this;exact⟨a,bs,Z,SqL.of c,k _ H F (.fz _) (Sub.refl _) R (Da.bl _) w⟩
noncomputable def ub:D->Ki
 | .none=>.non
 | .bool _=>.bl
 | .int _=>.int
 | .str _=>.str
 | .list _=>.lst
 | .tuple _=>.tup
 | .dict ((.none,_)::_)=>.lst
 | .dict _=>.dct
noncomputable def cO(T:Ki):D->(Sl->Prop)->Prop
 | .dict _,_=>Fo
 |d,Q=>Q<|.fz<|.bool<|(ub d).sub T
theorem dO{K:Fg}{T:Ki}:JZ K (λj H Q=>∃x,j=[x]/\iw K [x,.ty T.nm] H Q) (o1<|cO T):=GD λG F σ H q x d Q l R c w k=>by
 have go:∀(e:Ki),KiOf K H x e->l (.fz<|.bool<|e.sub T)->∃g,[x]=[g]/\iw K [g,.ty T.nm] H Q:=λe h w=>⟨x,Z,x,e,T,Z,h,k _ H F (.fz _) (Sub.refl _) R (Da.bl _) w⟩;cases d<;>first|exact w.elim|skip
 case none=>cases c.none;exact go .non rfl w
 case bool b=>cases c.bool;exact go .bl rfl w
 case int i=>cases c.int;exact go .int rfl w
 case str z=>cases c.str;exact go .str rfl w
 case list m=>obtain⟨a,us,rfl,e1,d1⟩:=c.list R.sub;exact go .lst (.inl ⟨Z,us,SqL.of e1⟩) w
 case tuple m=>obtain⟨a,us,rfl,_,e1,d1⟩:=c.tuple R.sub;exact go .tup (.inr<|.inl ⟨Z,us,SqT.of e1⟩) w
noncomputable def P_:D->(Sl->Prop)->Prop
 | .int i,Q=>Q<|.fz<|.int<|if i<0 then -i else i
 |_,_=>Fo
theorem Bz{K:Fg}:JZ K (λa H Q=>∃i,a=[V.int i]/\Q (V.int<|if i<0 then -i else i) H) (o1 P_):=GD λG F σ H c x d Q e R b w k=>by
 cases d<;>first|exact w.elim|skip
 rename_i i;cases b.int;exact⟨i,Z,k _ H F (.fz _) (Sub.refl _) R (Da.int _) w⟩
noncomputable def iS:D->(Sl->Prop)->Prop
 | .int i,Q=>Q<|.fz<|.int<|-i
 |_,_=>Fo
theorem eO{K:Fg}:JZ K (M_<|rU λi=>.int<|-i) (o1 iS):=GD λG F σ H b x d Q c R a w k=>by
 cases d<;>first|exact w.elim|skip
 rename_i i;cases a.int;exact⟨_,Z,i,Z,k _ H F (.fz _) (Sub.refl _) R (Da.int _) w⟩
def Dw(as:List AD)(f:List D->(Sl->Prop)->Prop):TD:=λc Q=>MJ as c λb a=>match iJ a b with
 |false=>XZ a b λd=>f d λr=>Q r a
 |true=>Fo
def Zy(a:List D)(Q:Sl->Prop):Prop:=Q<|.fz<|.tuple a
def au(a:List D)(Q:Sl->Prop):Prop:=Q<|.ow<|.list a
theorem WX(h:n<=1000):n<=sizeLine:=K0 h (by decide)
theorem jS{K:Fg}(hl:as.length<=1000){σ:L2.St}{H:Hp}{Q:VK}(h:lift K (Dw as Zy) σ H Q):lN (pZ<|as.map<|XX K) σ H Q:=by
 obtain⟨G,F,l,m,R,w,k⟩:=h;refine NY R w λt v x y b c a o d q=>?_;split at q
 .rename_i e;obtain⟨B,da,q⟩:=nJ a e o q;refine⟨WX<|le_of_eq_of_le d hl,λp g=>?_⟩;obtain⟨i,R2,j⟩:=a.newTup g da;exact k _ _ _ (.fz _) _ (c.trans i) R2 j q
 .exact q.elim
theorem kS{K:Fg}(hl:as.length<=1000){σ:L2.St}{H:Hp}{Q:VK}(h:lift K (Dw as au) σ H Q):mN (pZ<|as.map<|XX K) σ H Q:=by
 obtain⟨G,F,m,t,R,w,k⟩:=h;refine NY R w λb v x y c g a o B q=>?_;split at q
 .rename_i e;obtain⟨i,da,q⟩:=nJ a e o q;refine⟨WX<|by lia,λp j=>?_⟩;obtain⟨R2,l⟩:=a.newOw (o:=.lst b) (d:=.list i) j da;exact k _ _ _ _ _ g R2 l q
 .exact q.elim
def Cz(p q:Int->Int->Bool)(a b c:AD):TD:=λg Q=>MJ [a,b] g λl d=>XZ d l λm=>match m with
 | [.int i,.int j]=>if p i j=Ep then MJ [c] d λys e=>XZ e ys λt=>match t with
   |[.int k]=>Q (.fz<|.bool<|q j k) e
   |_=>Fo
  else Q (.fz<|.bool Er) d
 |_=>Fo
theorem xE{K:Fg}{p:Int->Int->Bool}{Q:VK}(h:lift K (Cz p q a b c) σ H Q):iz (sU λi j=>.bl<|p i j) (sU λi j=>.bl<|q i j) (XX K a) (XX K b) (XX K c) σ H Q:=by
 obtain⟨G,F,ρ,Qd,R,w,k⟩:=h;have g:pZ ([a,b].map (XX K)) σ H λl B=>∃x y,l=[x,y]/\(sU λi j=>V.bl<|p i j) x y B λz S=>∃k,z=.bl k /\
   (if k=Ep then XX K c σ S λt C=>(sU λi j=>V.bl<|q i j) y t C Q else Q (.bl Er) S):=by
  refine BJ R w λl H' F' xs L Y M o d=>?_;obtain⟨ds,ha,d⟩:=zK M o d;split at d
  .rename_i i j;obtain⟨v,u,rfl,h1,h2⟩:=ha.two;cases h1.int;cases h2.int;refine⟨_,_,Z,i,j,Z,Z,p i j,Z,?_⟩;by_cases e:p i j=Ep
   .rw[Jd e]at d ⊢;have:=BJ (as:=[c]) (Qv:=λl C=>∃t,l=[t]/\(sU λi j=>V.bl<|q i j) (V.int j) t C Q) M d λl B F2 ys P s2 R2 o2 m=>by
     obtain⟨es,hb,m⟩:=zK R2 o2 m;split at m
     .rename_i k';obtain⟨v,rfl,h3⟩:=hb.one;cases h3.int;exact⟨_,Z,j,k',Z,Z,k _ B F2 (.fz _) P (Y.trans s2) R2 (Da.bl _) m⟩
     .exact m.elim
    exact vz this
   .rw[Gd e]at d ⊢;exact k _ H' F' (.fz _) L Y M (Da.bl _) d
  .exact d.elim
 exact wD g
def GG(i:Nat)(as:List AD)(f:List D->List D->(D->D->Prop)->Prop):TD:=λb Q=>match b[i]? with
 |some (O c)=>match c.d,cJ c with
  | .list _,Ep=>MJ as b λe a=>match a[i]?,iJ a e with
   |some (O s),Er=>match s.d,cJ s with
    | .list g,Ep=>XZ a e λj=>f g j λk r=>Q (.fz r)<|a.set i<|O<|s.put k
    |_,_=>Fo
   |_,_=>Fo
  |_,_=>Fo
 |_=>Fo
def DC(K:Fg)(r:V->List V->Hp->VK->Prop)(f:List D->List D->(D->D->Prop)->Prop):Prop :=
 ∀(F H:Hp) (a:Hd) (c:List V) (d:List D) (e:List V) (g:List D) (Q:VK) (k:D->D->Prop),Sub F H->H a=O (.lst c)->DaAll K F c d->DaAll K F e g->f d g k ->
  (∀v i j b,Own1 K F i j->Da K F v b->k j b->Q v (gJ H a i))->r (.ref a) e H Q
theorem bu{K:Fg}{f:List D->List D->(D->D->Prop)->Prop}(ok:DC K r f){σ:L2.St}{H:Hp}{Q:VK}(h:lift K (GG i as f) σ H Q):∃a d,σ[i]?=O (O<|V.ref a)/\SqL K H a d/\pZ (as.map<|XX K) σ H λj M=>r (.ref a) j M Q:=by
 obtain⟨G,F,ρ,Qd,R,w,k⟩:=h;unfold GG at w;split at w
 .rename_i P S;split at w
  .rename_i Y p1 p2;obtain⟨a,o,l,g2,g3,y⟩:=R.ow i P S p2;have m:∃d,H a=O (.lst d):=by
    rw[p1]at y;cases o<;>first|exact y.elim|exact⟨_,g3⟩
   obtain⟨q,m⟩:=m;refine⟨a,q,l,SqL.of m,BJ R w λj H1 t d ρ1 s1 g o1 b=>?_⟩;split at b
   .rename_i s e en;split at b
    .rename_i B q1 C;obtain⟨ds,da,b⟩:=nJ g en o1 b;obtain⟨a',o',L,h2,h3,c⟩:=g.ow i s e C;rw[l]at L;cases L;rw[q1]at c;have hl:∃us,o'=.lst us/\DaAll K t us B:=by cases o'<;>first|exact c.elim|exact⟨_,rfl,c⟩
     obtain⟨us,rfl,c⟩:=hl;refine ok t H1 a us B j ds Q _ g.sub h3 c da b λv o2 d2 x ho hv hk=>?_;have R2:=g.change (o':=o2) (d':=d2) e C l ho;exact k v _ t (.fz x) _ s1 R2 hv hk
    .exact b.elim
   .exact b.elim
  .exact w.elim
 .exact w.elim
noncomputable def yE:List D->List D->(D->D->Prop)->Prop
 |a,[x],k=>a.length<sizeLine/\k (.list<|a++[x]) .none
 |_,_,_=>Fo
theorem wK{K:Fg}:DC K Sj yE:=by
 intro F H a b d i j Q k s e c g w q;cases g with
 |nil=>exact w.elim
 |cons h t =>
  cases t with
  |nil=>exact⟨a,b,_,Z,Z,e,by rw[c.length];exact w.1,q _ (.lst<|b++[_]) (.list<|d++[_]) _ (c.append<|.cons h .nil) .non w.2⟩
  |cons _ _=>exact w.elim
noncomputable def zE:List D->List D->(D->D->Prop)->Prop
 |a,[.list ys],k=>a.length+ys.length<=sizeLine/\k (.list<|a++ys) .none
 |_,_,_=>Fo
theorem PV{K:Fg}:DC K Tj zE:=by
 intro F H a b g l m Q k s e c i w q;cases i with
 |nil=>exact w.elim
 |cons h t =>
  rename_i d _;cases t with
  |cons _ _=>cases d<;>exact w.elim
  |nil =>
   cases d<;>first|exact w.elim|skip
   cases h with
   |lst j t=>exact⟨a,_,b,_,Z,Z,e,s _ _ j,by rw[c.length,t.length];exact w.1,q _ (.lst<|b++_) (.list<|g++_) _ (c.append t) .non w.2⟩
noncomputable def Q_:List D->List D->(D->D->Prop)->Prop
 |a,[],k=>∃d,a[a.length-1]?=O d/\k (.list a.dropLast) d
 |_,_,_=>Fo
theorem cu{K:Fg}:DC K DR Q_:=by
 intro F H a c g y i Q k s e b j w q;match i,j,w with
 |[],.nil,⟨d,l,m⟩=>obtain⟨v,t,x⟩:=b.get l;exact⟨a,c,v,Z,Z,e,by rw[b.length];exact t,q v (.lst c.dropLast) (.list g.dropLast) d b.dropLast x m⟩
noncomputable def U':List D->List D->(D->D->Prop)->Prop
 |a,[.int i,x],k=>a.length<sizeLine/\0<=i/\i<=a.length/\k (.list (a.take i.toNat++x::a.drop i.toNat)) .none
 |_,_,_=>Fo
noncomputable def Ez(j:Nat)(e:AD)(g:TD):sW:=λE i=>g i λr b=>match b[j]? with
 |some (O _)=>MJ [e] b λl a=>XZ a l λm=>match m,a[j]? with
  |[.int k],O (O s)=>match s.d,cJ s with
   | .list c,Ep=>∃n,oz c.length k=O n/\E.nx (a.set j<|O<|s.put<|.list<|c.set n r.d)
   |_,_=>Fo
  |_,_=>Fo
 |_=>Fo
theorem AE{K:Fg}{E:Ends}(h:cZ K (Ez j ai te) E σ H):DV (lift K te) (bN (pU j) (XX K ai) Rj) E σ H:=by
 obtain⟨G,F,ρ,D,R,w,n,r,b,c⟩:=h;refine⟨G,F,ρ,_,R,w,λv H1 F1 x ρ1 s1 R1 r1 q=>?_⟩;obtain⟨F2,s2,R2,d2⟩:=r1.frz R1;split at q
 .rename_i s0 e0;obtain⟨u,t⟩:=R2.bound e0;refine⟨u,t,vz (P:=λi H2=>Rj u i v H2 λB=>E.nx σ B)<|BJ R2 q λvs B C xs ρ3 L y o3 g=>?_⟩;obtain⟨ds,ha,g⟩:=zK y o3 g;split at g
  .rename_i k s e;obtain⟨iv,rfl,hi⟩:=ha.one;cases hi.int;split at g
   .rename_i M p1 S;obtain⟨m,w4,w5⟩:=g;obtain⟨a,o,Y,g2,g3,l⟩:=y.ow j s e S;rw[t]at Y;cases Y;rw[p1]at l;have hl:∃us,o=.lst us/\DaAll K C us M:=by cases o<;>first|exact l.elim|exact⟨_,rfl,l⟩
    obtain⟨us,rfl,l⟩:=hl;refine⟨_,Z,a,us,k,m,Z,Z,g3,by rw[l.length];exact w4,?_⟩;have R4:=y.change (o':=.lst<|us.set m v) (d':=.list<|M.set m x.d) e S t<|l.set (d2.mono L) m;exact n σ _ C _ (s1.trans<|s2.trans L) R4 w5
   .exact g.elim
  .exact g.elim
 .exact q.elim
def mS(K:Fg)(d:TE):TI:=λσ H R=>d σ H λx b=>∃a,x=.ref a/\(((∃c,SqL K b a c)/\R (w_ K a) b)\/((∃c,SqT K b a c)/\R (x_ K a) b))
noncomputable def du(a:TD):Xq:=λe Q=>a e λr b=>match r.d with
 | .list c=>Q c b
 | .tuple c=>Q c b
 |_=>Fo
theorem Fz{K:Fg}(e:F a=O (.lst xs))(h:DaAll K F xs ds):Walks K (w_ K a) F ds:=λi H j b c=>by have q:=SqL.of (K:=K)<|c _ _<|b _ _ e;refine⟨λd k=>?_,λhl=>⟨xs,q,by rw[h.length];exact V0 hl⟩⟩;obtain⟨v,g,l⟩:=h.get k;refine⟨⟨xs,v,q,g⟩,λx w ⟨m,t⟩=>?_⟩;subst m;have:=t xs q;rw[g]at this;cases this;exact⟨j,Sub.refl _,λ_ _ z=>.inl z,c,Sub.refl _,l.mono b⟩
theorem Ew{K:Fg}(e:F a=O (.tup xs))(h:DaAll K F xs ds):Walks K (x_ K a) F ds:=λi H j b c=>by have q:=SqT.of (K:=K)<|c _ _<|b _ _ e;refine⟨λd k=>?_,λhl=>⟨xs,q,by rw[h.length];exact V0 hl⟩⟩;obtain⟨v,g,l⟩:=h.get k;refine⟨⟨xs,v,q,g⟩,λx w ⟨m,t⟩=>?_⟩;subst m;have:=t xs q;rw[g]at this;cases this;exact⟨j,Sub.refl _,λ_ _ z=>.inl z,c,Sub.refl _,l.mono b⟩
theorem fO{K:Fg}(h:kJ K (du a) σ H R):mS K (lift K a) σ H R:=by
 obtain⟨G,F,x,L,y,w,k⟩:=h;refine⟨G,F,x,_,y,w,λv i M r b j B C c=>?_⟩;obtain⟨l,m,R2,d⟩:=C.frz B;split at c
 .rename_i g e;rw[e]at d;cases d with
  |lst q t=>exact⟨_,Z,.inl ⟨⟨_,SqL.of<|R2.sub _ _ q⟩,k _ i l g b (j.trans m) R2 (Fz q t) c⟩⟩
 .rename_i g e;rw[e]at d;cases d with
  |tup q t=>exact⟨_,Z,.inr ⟨⟨_,SqT.of<|R2.sub _ _ q⟩,k _ i l g b (j.trans m) R2 (Ew q t) c⟩⟩
 .exact c.elim
noncomputable def wZ(lo:Int)(n:Nat):List D:=(S1 n).map λ(i:Nat)=>n0<|lo+i
theorem ID{K:Fg}{lo:Int}:Walks K (f' lo n) F (wZ lo n):=λi H b k c=>by
 have hl:(wZ lo n).length=n:=by simp[wZ]
 refine⟨λd a=>?_,λh=>by rw[hl]at h;exact V0 h⟩;have hi:i<n:=by have:=AJ a;rw[hl]at this;exact this
 have e:(wZ lo n)[i]?=O (.int<|lo+i):=by simp[wZ,hi]
 rw[e]at a;cases a;refine⟨hi,λx l ⟨g,j⟩=>?_⟩;subst g j;exact⟨b,Sub.refl _,λ_ _ z=>.inl z,c,Sub.refl _,.int _⟩
noncomputable def Gz(a:AD):Xq:=λc Q=>MJ [a] c λd b=>XZ b d λe=>match e with
 |[.int j]=>-(2 ^ 62)<=j/\j<2 ^ 62/\Q (wZ 0 j.toNat) b
 |_=>Fo
theorem iO{K:Fg}(h:kJ K (Gz a) σ H R):Wv (pZ<|[a].map (XX K)) σ H R:=by
 obtain⟨G,F,t,x,e,w,k⟩:=h;refine BJ e w λy g i B c l d o b=>?_;obtain⟨C,m,b⟩:=zK d o b;split at b
 .rename_i j;obtain⟨v,rfl,q⟩:=m.one;cases q.int;exact⟨j,Z,b.1,b.2.1,k _ g i _ c l d ID b.2.2⟩
 .exact b.elim
def Tc(K:Fg)(F:Hp)(v:V)(c:List D):Prop:=∃k a b,v=.ref a/\(F a=O (match k with|Kd.l=>HO.lst b|Kd.t=>HO.tup b))/\DaAll K F b c
theorem wW{K:Fg}(e:H a=O (match k with|Kd.l=>HO.lst xs|Kd.t=>HO.tup xs)):Sq k K H a xs:=by
 cases k with
 |l=>exact SqL.of e
 |t=>exact SqT.of e
noncomputable def Fw:D->Do (List D)
 | .list a=>O a
 | .tuple a=>O a
 |_=>U
theorem jV{K:Fg}(h:Da K F v d)(e:Fw d=O ds):∃k a b,v=.ref a/\(F a=O (match k with|Kd.l=>HO.lst b|Kd.t=>HO.tup b))/\DaAll K F b ds:=by
 cases h with
 |lst q t=>cases e;exact⟨.l,_,_,Z,q,t⟩
 |tup q t=>cases e;exact⟨.t,_,_,Z,q,t⟩
 |non=>cases e
 |bl=>cases e
 |int=>cases e
 |str=>cases e
 |dk _ _=>cases e
 |dt _ _=>cases e
 |scr _=>cases e
 |exc _=>cases e
 |opq _=>cases e
 |pd _ _=>cases e
 |bd _ _=>cases e
noncomputable def tW(ds a:List D):List D:=(ds.zip a).map λp=>K1 [p.1,p.2]
noncomputable def jH(a b fs:List D):List D:=(a.zip<|b.zip fs).map λp=>K1 [p.1,p.2.1,p.2.2]
noncomputable def Hz(a b:AD):Xq:=λe Q=>MJ [a,b] e λd c=>match iJ c d with
 |false=>XZ c d λg=>match g with
  |[x,y]=>match Fw x,Fw y with
   |some us,O i=>Q (tW us i) c
   |_,_=>Fo
  |_=>Fo
 |true=>Fo
theorem Iz{K:Fg}(e1:F a=O (match k1 with|Kd.l=>HO.lst xs|Kd.t=>HO.tup xs))(M:DaAll K F xs ds)
  (e2:F b=O (match k2 with|Kd.l=>HO.lst ys|Kd.t=>HO.tup ys)) (P:DaAll K F ys es):Walks K (HN K k1 k2 a b) F (tW ds es):=λi H w g j=>by
 have B:Sq k1 K H a xs:=wW<|j _ _<|g _ _ e1;have C:Sq k2 K H b ys:=wW<|j _ _<|g _ _ e2;refine⟨λd R=>?_,λhl=>⟨xs,ys,B,C,?_⟩⟩
 .simp only[tW,Z0,Q7]at R;obtain⟨⟨x,y⟩,G,rfl⟩:=R;rw[E6]at G;obtain⟨v,S,g2⟩:=M.get G.1;obtain⟨u,Y,g4⟩:=P.get G.2;refine⟨⟨xs,v,ys,u,B,C,S,Y⟩,λz H' ⟨T,x1,x2,k,ex,eH,m,q⟩=>?_⟩;subst ex eH;have m:=m xs B;have q:=q ys C;rw[S]at m;cases m;rw[Y]at q;cases q;have L:w T=none:=by
   cases z:w T with
   |none=>rfl
   |some o=>rw[j _ _ z]at k;cases k
  refine⟨gJ w T<|.tup [v,u],Sub.new L,λc o e=>?_,λc o e=>?_,Sub.new k,.tup uZ<|.cons (g2.mono<|g.trans<|Sub.new L)<|.cons (g4.mono<|g.trans<|Sub.new L) .nil⟩
  .by_cases z:c=T
   .subst z;exact .inr k
   .rw[bZ z]at e;exact .inl e
  .by_cases z:c=T
   .subst z;rw[uZ]at e ⊢;exact e
   .rw[bZ z]at e ⊢;exact j _ _ e
 .simp only[tW,l0,U1]at hl;rw[M.length,P.length]
  lia
theorem jO{K:Fg}(h:kJ K (Hz a b) σ H R):Uj K (pZ<|[a,b].map (XX K)) σ H R:=by
 obtain⟨G,F,ρ,Qd,m,w,k⟩:=h;refine BJ m w λvs q v xs g B d o c=>?_;split at c
 .rename_i e;obtain⟨ds,da,c⟩:=nJ d e o c;split at c
  .rename_i x y;split at c
   .rename_i us ws C L;cases da with
    |cons M t =>
     cases t with
     |cons P t=>cases t;obtain⟨S,Y,dg,rfl,j,g1⟩:=jV M C;obtain⟨k2,a2,i,rfl,l,g2⟩:=jV P L;exact⟨S,Y,dg,k2,a2,i,Z,wW<|d.sub _ _ j,wW<|d.sub _ _ l,k _ q v _ g B d (Iz j g1 l g2) c⟩
   .exact c.elim
  .exact c.elim
 .exact c.elim
noncomputable def Jz(a b c:AD):Xq:=λg Q=>MJ [a,b,c] g λe d=>match iJ d e with
 |false=>XZ d e λi=>match i with
  |[x,y,z]=>match Fw x,Fw y,Fw z with
   |some us,O j,O ts=>Q (jH us j ts) d
   |_,_,_=>Fo
  |_=>Fo
 |true=>Fo
theorem Kz{K:Fg}(e1:F a=O (match k1 with|Kd.l=>HO.lst xs|Kd.t=>HO.tup xs))(S:DaAll K F xs ds)
  (e2:F b=O (match k2 with|Kd.l=>HO.lst ys|Kd.t=>HO.tup ys)) (Y:DaAll K F ys es) (e3:F c=O (match k3 with|Kd.l=>HO.lst zs|Kd.t=>HO.tup zs)) (h3:DaAll K F zs fs):Walks K (IN K k1 k2 k3 a b c) F (jH ds es fs):=λi H G j g=>by
 have L:Sq k1 K H a xs:=wW<|g _ _<|j _ _ e1;have M:Sq k2 K H b ys:=wW<|g _ _<|j _ _ e2;have P:Sq k3 K H c zs:=wW<|g _ _<|j _ _ e3;refine⟨λd ed=>?_,λhl=>⟨xs,ys,zs,L,M,P,?_⟩⟩
 .simp only[jH,Z0,Q7]at ed;obtain⟨⟨x,y,t⟩,k,rfl⟩:=ed;rw[E6,E6]at k;obtain⟨v,g1,g2⟩:=S.get k.1;obtain⟨u,g3,g4⟩:=Y.get k.2.1;obtain⟨w,g5,g6⟩:=h3.get k.2.2;refine⟨⟨xs,v,ys,u,zs,w,L,M,P,g1,g3,g5⟩,λz H' ⟨T,x1,x2,x3,m,ex,eH,q,B,C⟩=>?_⟩;subst ex eH;have q:=q xs L;have B:=B ys M;have C:=C zs P;rw[g1]at q;cases q;rw[g3]at B;cases B;rw[g5]at C;cases C;have fT:G T=none:=by
   cases z:G T with
   |none=>rfl
   |some o=>rw[g _ _ z]at m;cases m
  have R:=j.trans<|Sub.new (o:=.tup [v,u,w]) fT;refine⟨gJ G T<|.tup [v,u,w],Sub.new fT,λc o e=>?_,λc o e=>?_,Sub.new m,.tup uZ<|.cons (g2.mono R)<|.cons (g4.mono R)<|.cons (g6.mono R) .nil⟩
  .by_cases z:c=T
   .subst z;exact .inr m
   .rw[bZ z]at e;exact .inl e
  .by_cases z:c=T
   .subst z;rw[uZ]at e ⊢;exact e
   .rw[bZ z]at e ⊢;exact g _ _ e
 .simp only[jH,l0,U1]at hl;rw[S.length,Y.length,h3.length]
  lia
theorem kO{K:Fg}(h:kJ K (Jz a b c) σ H R):Vj K (pZ<|[a,b,c].map (XX K)) σ H R:=by
 obtain⟨G,F,ρ,Qd,B,w,k⟩:=h;refine BJ B w λvs C L xs i M g o d=>?_;split at d
 .rename_i e;obtain⟨ds,da,d⟩:=nJ g e o d;split at d
  .rename_i x y z;split at d
   .rename_i us ws ts P S Y;cases da with
    |cons d1 t =>
     cases t with
     |cons d2 t =>
      cases t with
      |cons d3 t=>cases t;obtain⟨k1,a1,dg,rfl,m,g1⟩:=jV d1 P;obtain⟨k2,a2,j,rfl,q,g2⟩:=jV d2 S;obtain⟨k3,a3,l,rfl,v,g3⟩:=jV d3 Y;exact⟨k1,a1,dg,k2,a2,j,k3,a3,l,Z,wW<|g.sub _ _ m,wW<|g.sub _ _ q,wW<|g.sub _ _ v,k _ C L _ i M g (Kz m g1 q g2 v g3) d⟩
   .exact d.elim
  .exact d.elim
 .exact d.elim
section
variable {K:Fg}{F:Hp}
theorem DaAll.keys{ks:List dY}(h:DaAll K F xs (ks.map Gy)):xs=ks.map kV:=by
 induction ks generalizing xs with
 |nil=>cases h;rfl
 |cons k bs a=>cases h with|cons h t=>rw[a t];cases k<;>(cases h;rfl)
end
open L2
noncomputable def oZ:Ge->Bool
 | .Starred _ _=>Er
 |_=>Ep
theorem YX(h:oZ e=Ep):Xd (e::es) env=(Er,Cf e env)::Xd es env:=by cases e<;>first|rfl|cases h
theorem KZ:∀{a:Rs},a.all oZ=Ep->(Rf pos<|Xd a env).any (·.1)=false:=by
 intro a;induction a with
 |nil=>intro _;rfl
 |cons e a b=>intro h;simp only[tX,J1]at h;rw[YX h.1];have:=b h.2;simp[Rf]at this ⊢;exact this
noncomputable def nY:Ge->Bool
 | .Set _ _ _=>Er
 |_=>Ep
theorem QV(h:nY e=Ep)(x:Cd):Yf e env x=pure x:=by cases e<;>first|rfl|cases h
noncomputable def lV:Ge->Bool
 | .ListComp _ _ _ _=>Er
 | .SetComp _ _ _ _=>Er
 | .DictComp _ _ _ _ _=>Er
 |_=>Ep
theorem kH(h:lV e=Ep):Xi e t n env=pure false:=by cases e<;>first|rfl|cases h
section
variable {K:Fg}
theorem gU{t':TE}(h:PE X e t)(m:∀{σ H Q},t' σ H Q->t σ H Q):PE X e t':=λae s σ H Q I w=>h ae s σ H Q I<|m w
theorem R_{t':TT}(h:PT X e t)(m:∀{σ H Q},t' σ H Q->t σ H Q):PT X e t':=λae s σ H Q I w=>h ae s σ H Q I<|m w
theorem vb{t':TT}(h:PW X e t)(m:∀{σ H Q},t' σ H Q->t σ H Q):PW X e t':=λa ae s σ H Q I w=>h a ae s σ H Q I<|m w
theorem fu{t':TS}(h:PS X e t)(m:∀{D σ H},t' D σ H->t D σ H):PS X e t':=λae s σ H D I w=>h ae s σ H D I<|m w
theorem oS{t':TS}(h:PSs X e t)(m:∀{D σ H},t' D σ H->t D σ H):PSs X e t':=λae s σ H D I w=>h ae s σ H D I<|m w
theorem xb{t':TG}(h:PG X e t)(m:∀{v σ H Q},t' v σ H Q->t v σ H Q):PG X e t':=by
 unfold PG at h ⊢
 intros
 exact h _ _ _ _ _ _ _ (by assumption) (by assumption) (m<|by assumption)
theorem pS{t':TI}(h:PI X g e t)(m:∀{σ H R},t' σ H R->t σ H R):PI X g e t':=λae s σ H R I w=>h ae s σ H R I<|m w
theorem S_{t':TT}(h:xy X es t)(m:∀{σ H Q},t' σ H Q->t σ H Q):xy X es t':=λae s σ H Q I w=>h ae s σ H Q I<|m w
theorem BE{e:Ge}{b:Rs}{a:AD}{as:List AD}(c:PE X e (XX K a))(d:PA X b (pZ<|as.map<|XX K))(g:Xd (e::b) X.env=(Er,Cf e X.env)::Xd b X.env:=by exact YX Z):PA X (e::b) (pZ<|(a::as).map<|XX K):=FK c d g
variable {e:Ge}{a b c:AD}{as:List AD}{td te:TD}{tc td':JV}
theorem lO(h:PE X e (pU i)):PE X e (lift K<|nE i):=gU h SR
theorem qS(g:∀F,Da K F v d)(h:PE X e (tC v)):PE X e (lift K<|dC d):=gU h<|Sc g
theorem V'{r:R2}{f:D->D->(Sl->Prop)->Prop}(ok:JZ K (OV r) (o2 f))(h:PE X e (bR r (XX K a)<|XX K b)):PE X e (lift K<|CY [a,b]<|o2 f):=gU h λq=>wD<|aV ok q
theorem yb{r:V->Hp->VK->Prop}{f:D->(Sl->Prop)->Prop}(ok:JZ K (M_ r) (o1 f))(h:PE X e (z_ r<|XX K a)):PE X e (lift K<|CY [a]<|o1 f):=gU h λq=>vz<|aV ok q
theorem Ab{r:List V->Hp->VK->Prop}{f:List D->(Sl->Prop)->Prop}(ok:JZ K r f)(h:PE X e (JL r<|pZ<|as.map<|XX K)):PE X e (lift K<|CY as f):=gU h λq=>aV ok q
theorem mO(T:Ki)(h:PE X e (JL (iw K)<|uG (XX K a)<|uG (tC<|.ty T.nm) dy)):PE X e (lift K<|CY [a]<|o1<|cO T):=gU h λq=>vz (P:=λx d=>iw K [x,.ty T.nm] d _)<|aV dO q
theorem nO(hl:as.length<=1000)(h:PE X e (lN<|pZ<|as.map<|XX K)):PE X e (lift K<|Dw as Zy):=gU h<|jS hl
theorem oO(hl:as.length<=1000)(h:PE X e (mN<|pZ<|as.map<|XX K)):PE X e (lift K<|Dw as au):=gU h<|kS hl
theorem gu{p:Int->Int->Bool}(h:PE X e (iz (sU λi j=>.bl<|p i j) (sU λi j=>.bl<|q i j) (XX K a) (XX K b)<|XX K c)):PE X e (lift K<|Cz p q a b c):=gU h xE
theorem pO(h:PE X e (Gv (lift K td)<|lift K te)):PE X e (lift K<|Jy td te):=gU h NN
theorem qO(h:PE X e (Hv<|lift K td)):PE X e (lift K<|Ky td):=gU h ON
theorem rS{E:XK}(h:PE X e (vG (QX K zf) [] E<|pZ<|as.map<|XX K)):PE X e (lift K<|Qy zf as):=gU h WN
theorem rO{E:XK}(h:PE X e (vG (QX K zf) [] E<|pZ<|(Sum.inl i::as).map<|XX K)):PE X e (lift K<|wF zf i as):=gU h vE
theorem T_{f:List D->List D->(D->D->Prop)->Prop}(ok:DC K r f)(h:PE X e (qb K "list" r (pU i)<|pZ<|as.map<|XX K)):PE X e (lift K<|GG i as f):=gU h λq=>by obtain⟨a,d,g,sq,w⟩:=bu ok q;exact⟨_,g,.inl ⟨Z,d,sq⟩,w⟩
theorem sS{f:List D->List D->(D->D->Prop)->Prop}(ok:DC K r f)(h:PE X e (zR K "list" r<|pU i)):PE X e (lift K<|GG i [] f):=gU h λq=>by obtain⟨a,d,g,sq,w⟩:=bu ok q;exact⟨_,g,.inl ⟨Z,d,sq⟩,w⟩
theorem Uc{r:R2}{f:D->D->(Sl->Prop)->Prop}(ok:JZ K (OV r) (o2 f))(h:PT X e (ay<|bR r (XX K a)<|XX K b)):PT X e (rZ K<|wz<|CY [a,b]<|o2 f):=R_ h λq=>PL (λz=>wD<|aV ok z) q
theorem sO(h:PT X e (tB<|lift K td)):PT X e (rZ K<|wz td):=R_ h λq=>PL (λz=>z) q
theorem tO(h:PT X e (QM<|rZ K tc)):PT X e (rZ K<|LN tc):=R_ h TR
theorem uO(h:PW X e (PM (rZ K tc)<|rZ K td')):PW X e (rZ K<|MN tc td'):=vb h UR
theorem uS(h:PW X e (t_ (rZ K tc)<|rZ K td')):PW X e (rZ K<|H_ tc td'):=vb h I_
variable {st:Xg}{sts:List Xg}{t u:sW}
theorem EE(h:PSs X sts Iv):PSs X sts (cZ K Ly):=oS h QN
theorem vO(h:PSs X sts (XM (cZ K t)<|cZ K u)):PSs X sts (cZ K<|oE t u):=oS h WR
theorem wO(h:PS X st (Lv<|lift K td)):PS X st (cZ K<|pE td):=fu h XR
theorem FE(h:PS X st (Lv<|pU i)):PS X st (cZ K<|yD i):=fu h SN
theorem HE(h:PS X st (DV (pU j)<|FY i)):PS X st (cZ K<|Xj i j):=fu h TN
theorem IE(h:PS X st (Kv<|lift K td)):PS X st (cZ K<|My td):=fu h RN
theorem vS(h:PS X st (YM (rZ K tc) (cZ K t)<|cZ K u)):PS X st (cZ K<|PN tc t u):=fu h YR
theorem xO(h:PS X st (DV (lift K td)<|FY i)):PS X st (cZ K<|tw i td):=fu h QL
theorem wS(h:PS X st (DV (lift K td)<|bN (pU j) (XX K a) Rj)):PS X st (cZ K<|Ez j a td):=fu h AE
theorem iu(h:PS X st (bz (rZ K tc)<|cZ K t)):PS X st (cZ K<|xz tc t):=fu h qE
noncomputable def ju(g:OY)(a:TD):sW:=λE j=>a j λr i=>g r.d i E.nx
theorem yO{E:Ends}(h:cZ K (ju g td) E σ H):DV (lift K td) (MZ K g) E σ H:=by obtain⟨G,F,m,D,R,w,n,r,b,c⟩:=h;refine⟨G,F,m,_,R,w,λv y Y x i s B C q=>?_⟩;obtain⟨l,L,R2,M⟩:=C.frz B;exact⟨G,l,i,x.d,_,R2,M,q,λj k P S=>n j y l k (s.trans L) P S⟩
theorem JE(h:PS X st (DV (lift K td)<|MZ K g)):PS X st (cZ K<|ju g td):=fu h yO
theorem KE(h:PG X e (FY i)):PG X e (MZ K<|BC i):=xb h K_
theorem AO{d:List OY}(h:PG X e (PC K n<|dG<|d.map<|MZ K))(g:d.length=n:=by rfl):PG X e (MZ K<|O' d):=xb h<|L_ g
theorem ku{d:Rs}{g:OY}{i:List OY}(j:PG X e (MZ K g))(k:HL X d (dG<|i.map<|MZ K))(l:(We (e::d) X.env).map (·.2)=Li e X.env::(We d X.env).map (·.2):=by rfl):HL X (e::d) (dG<|(g::i).map<|MZ K):=Nv j k l
theorem ME:xy X [] (rZ K xD):=S_ EN VR
theorem OE(w:X.K=K)(hl:PE X l tl):PI X tg l (mS K tl):=by
 subst w;intro ae s σ H R I h;refine uJ (hl ae s σ H _ I h) λv d ⟨x,m,g,y,i⟩=>?_;obtain⟨a,e,i⟩:=i;subst e;cases y;rcases i with⟨⟨B,j⟩,q⟩|⟨⟨B,j⟩,q⟩
 .obtain⟨be,C,p,F⟩:=g.list j;refine Pg p.isList ?_;refine⟨d.heap.objs.size,[d.heap.objs.size],_,_,m,Z,g.kept (t':=d.toks) λb o e=>j0 _ e,Uk a _,⟨_,O0 _ Z,Z,Z⟩,λb k=>?_,q⟩;have e:b=d.heap.objs.size:=by simpa using k
  subst e;exact g.fpOk (P0 _)<|g.hok.fresh<|P0 _
 .obtain⟨be,C,p,F⟩:=g.tuple j;refine Dh (show d.heap.IsTuple a be.toArray from p) ?_;refine⟨d.heap.objs.size,[d.heap.objs.size],_,_,m,Z,g.kept (t':=d.toks) λb o e=>j0 _ e,cz a _,⟨_,O0 _ Z,Z,Z⟩,λb k=>?_,q⟩;have e:b=d.heap.objs.size:=by simpa using k
  subst e;exact g.fpOk (P0 _)<|g.hok.fresh<|P0 _
theorem BO(d:X.K=K)(hl:PE X l (lift K td)):PI X tg l (kJ K<|du td):=pS (OE d hl) fO
theorem QE(h:PI X tg l (Wv<|pZ<|[a].map (XX K))):PI X tg l (kJ K<|Gz a):=pS h iO
theorem RE(h:PI X tg l (Uj K<|pZ<|[a,b].map (XX K))):PI X tg l (kJ K<|Hz a b):=pS h jO
theorem SE(h:PI X tg l (Vj K<|pZ<|[a,b,c].map (XX K))):PI X tg l (kJ K<|Jz a b c):=pS h kO
def xS(_ j:Int):Prop:=0<j
theorem op_catB:OpR X (Qf .Add) Wy:=by
 intro ae s σ H x y v u Q I j k h;obtain⟨a,b,i,ys,rfl,rfl,l,m,q,w,B,C⟩:=h;have d:SqT X.K H a i:=SqT.of l;have g:SqT X.K H b ys:=SqT.of m;by_cases hx:i=[]
 .subst hx;cases j;cases k;obtain⟨be,F,G,_⟩:=I.tuple d;obtain⟨P,R,L,_⟩:=I.tuple g;cases F;exact Fy G L ⟨.ref b,H,I,Z,w Z⟩
 .exact VC ae s σ H (.ref a) (.ref b) v u Q I j k ⟨a,b,i,ys,Z,Z,d,g,hx,q,λe=>B hx e,λe p M=>C hx e p M⟩
theorem UE:OpR X (Qf .Add) (iV (sU λi j=>.int<|i+j)<|iV Wy uN):=op_add.or<|op_catB.or vN
theorem VE:OpR X (Qf .Mult) (iV (rI CMul λi j=>.int<|i*j) wN):=op_mul.or xN
theorem CO:JZ K (OV<|sU λi j=>.int<|i-j) (o2<|XN λi j=>.int<|i-j):=HD λ_ _ _=>.int _
theorem mW:JZ K (OV<|rI gN λi j=>.int<|i / j) (o2<|fI gN λi j=>.int<|i / j):=YN λ_ _ _=>.int _
theorem DW:JZ K (OV<|rI (λ_ j=>0<j) λi j=>.int<|i % j) (o2<|fI xS λi j=>.int<|i % j):=YN (C:=xS) λ_ _ _=>.int _
theorem lu:JZ K (OV<|rI iN λi j=>.int<|i ^ j.toNat) (o2<|fI iN λi j=>.int<|i ^ j.toNat):=YN λ_ _ _=>.int _
theorem hU:JZ K (OV<|sU λi j=>.bl<|decide<|i<j) (o2<|XN λi j=>.bool<|decide<|i<j):=HD λ_ _ _=>.bl _
theorem JD:JZ K (OV<|sU λi j=>.bl<|decide<|i<=j) (o2<|XN λi j=>.bool<|decide<|i<=j):=HD λ_ _ _=>.bl _
theorem lH:JZ K (OV<|sU λi j=>.bl<|decide<|j<i) (o2<|XN λi j=>.bool<|decide<|j<i):=HD λ_ _ _=>.bl _
theorem yS:JZ K (OV<|sU λi j=>.bl<|decide<|j<=i) (o2<|XN λi j=>.bool<|decide<|j<=i):=HD λ_ _ _=>.bl _
theorem XE(d:X.K=K):IxR X (iV (WC K)<|XC K):=(Cy d).or<|jE d
end
mutual
noncomputable def vJ:D->Bool
 | .none=>Ep
 | .bool _=>Ep
 | .int _=>Ep
 | .str _=>Ep
 | .list a=>plainAll a
 | .tuple a=>plainAll a
 | .dict _=>Er
noncomputable def plainAll:List D->Bool
 |[]=>Ep
 |x::a=>vJ x&&plainAll a
end
section
variable {K:Fg}{F:Hp}
theorem Da.is(s:Sub F H){v:V}{d:D}(q:Da K F v d):vJ d=Ep->Is K H v d:=by refine Da.rec (motive_1:=λv d _=>vJ d=Ep->Is K H v d) (motive_2:=λv d _=>plainAll d=Ep->IsAll K H v d) (motive_3:=λ_ _ _=>True) (motive_4:=λ_ _ _=>True) (motive_5:=λ_ _ _=>True) (motive_6:=λ_ _ _=>True) (λ_=>.non) (λb _=>.bl b) (λi _=>.int i) (λx _=>.str x) (λe _ t z=>.lst (SqL.of<|s _ _ e)<|t z) (λe _ t z=>.tup (SqT.of<|s _ _ e)<|t z) (λ_ _ _ z=>nomatch z) (λ_ _ _ z=>nomatch z) (λ_ z=>nomatch z) (λ_ z=>nomatch z) (λ_ z=>nomatch z) (λ_ _ _ z=>nomatch z) (λ_ _ _ z=>nomatch z) (λ_=>.nil) (λ_ _ a t z=>.cons (a (P6.mp z).1)<|t (P6.mp z).2) ?_ ?_ ?_ ?_ ?_ ?_ ?_ ?_ q<;>intros<;>trivial
theorem DaAll.is(s:Sub F H){c:List V}{b:List D}(q:DaAll K F c b):plainAll b=Ep->IsAll K H c b:=by refine DaAll.rec (motive_1:=λ_ _ _=>True) (motive_2:=λv d _=>plainAll d=Ep->IsAll K H v d) (motive_3:=λ_ _ _=>True) (motive_4:=λ_ _ _=>True) (motive_5:=λ_ _ _=>True) (motive_6:=λ_ _ _=>True) ?_ ?_ ?_ ?_ ?_ ?_ ?_ ?_ ?_ ?_ ?_ ?_ ?_ (λ_=>.nil) (λa _ _ t z=>.cons (a.is s (P6.mp z).1)<|t (P6.mp z).2) ?_ ?_ ?_ ?_ ?_ ?_ ?_ ?_ q<;>intros<;>trivial
theorem At.is(s:Sub F H)(h:At K F H v d)(p:vJ d=Ep):Is K H v d:=by
 rcases h with h|⟨a,o,rfl,_,e,h⟩
 .exact h.is s p
 .cases o<;>cases d<;>first|exact h.elim|(simp[vJ]at p)|skip
  .rename_i b c;exact .lst (SqL.of e) (DaAll.is s h<|by simpa [vJ]using p)
end
def YE(x y:D)(Q:Sl->Prop):Prop:=vJ x=Ep/\vJ y=Ep/\SeqAt.shaped x=Ep/\SeqAt.shaped y=Ep/\SeqAt.noMix x y=Ep/\Q (.fz<|.bool<|Ng x y)
def ZE(x y:D)(Q:Sl->Prop):Prop:=vJ x=Ep/\vJ y=Ep/\SeqAt.shaped x=Ep/\SeqAt.shaped y=Ep/\SeqAt.noMix x y=Ep/\Q (.fz<|.bool<|!same x y)
noncomputable def U_:D->D->(Sl->Prop)->Prop
 | .int i,.int j,Q=>Q<|.fz<|.bool<|decide<|i=j
 | .list a,y,Q=>YE (.list a) y Q
 | .tuple a,y,Q=>YE (.tuple a) y Q
 | .str x,.str y,Q=>Q<|.fz<|.bool<|decide<|x=y
 |x,y,Q=>YE x y Q
noncomputable def V_:D->D->(Sl->Prop)->Prop
 | .int i,.int j,Q=>Q<|.fz<|.bool<|!Es (i=j)
 | .list a,y,Q=>ZE (.list a) y Q
 | .tuple a,y,Q=>ZE (.tuple a) y Q
 | .str x,.str y,Q=>Q<|.fz<|.bool<|!Es (x=y)
 |x,y,Q=>ZE x y Q
theorem RY{K:Fg}:JZ K (OV<|iV G'<|cG K Er) (o2 U_):=Cw λG F σ H B x y d e Q g R b c w k=>by
 have a:YE d e g->iV G' (cG K Er) x y H Q:=λ⟨l,m,q,t,v,w⟩=>.inr ⟨d,e,b.is R.sub l,c.is R.sub m,q,t,v,k _ H F (.fz _) (Sub.refl _) R (Da.bl _) w⟩;unfold U_ at w;split at w
 .rename_i i j;cases b.int;cases c.int;refine .inl ⟨Z,k _ H F (.fz _) (Sub.refl _) R (Da.bl _) ?_⟩;have e:Es (V.int i=V.int j)=Es (i=j):=by rw[yU,Z7]
  rw[e];exact w
 .exact a w
 .exact a w
 .rename_i i j;cases b.str;cases c.str;refine .inl ⟨Z,k _ H F (.fz _) (Sub.refl _) R (Da.bl _) ?_⟩;have e:Es (V.str i=V.str j)=Es (i=j):=by rw[zU,Z7]
  rw[e];exact w
 .exact a w
theorem zS{K:Fg}:JZ K (OV<|iV K'<|cG K Ep) (o2 V_):=Cw λG F σ H B x y d e Q g R b c w k=>by
 have a:ZE d e g->iV K' (cG K Ep) x y H Q:=λ⟨l,m,q,t,v,w⟩=>.inr ⟨d,e,b.is R.sub l,c.is R.sub m,q,t,v,k _ H F (.fz _) (Sub.refl _) R (Da.bl _) w⟩;unfold V_ at w;split at w
 .rename_i i j;cases b.int;cases c.int;refine .inl ⟨Z,k _ H F (.fz _) (Sub.refl _) R (Da.bl _) ?_⟩;have e:Es (V.int i=V.int j)=Es (i=j):=by rw[yU,Z7]
  rw[e];exact w
 .exact a w
 .exact a w
 .rename_i i j;cases b.str;cases c.str;refine .inl ⟨Z,k _ H F (.fz _) (Sub.refl _) R (Da.bl _) ?_⟩;have e:Es (V.str i=V.str j)=Es (i=j):=by rw[zU,Z7]
  rw[e];exact w
 .exact a w
theorem AK{K:Fg}(a:X.K=K)(b:X.A.units+64<Ze):OpR X (Le .Eq) (iV G'<|cG K Er):=op_eq.or<|kE a b
theorem DO{K:Fg}(a:X.K=K)(b:X.A.units+64<Ze):OpR X (Le .NotEq) (iV K'<|cG K Ep):=op_ne.or<|lE a b
section
variable {P:De}{w:Be}{K:Fg}{mg:Str->Do Cd}{base:Ke}
theorem Vc{st:Xg}{ts:sW}(F:Fun K x qual st f fd)(S:FnScope N ps (SX st))(g:∀(c:Cd) (A:Eg) (outer:List Env) (s:Fd) (H:Hp) (E:XK),Room k (A.deeper<|Yh qual (SX st) s.heap.objs.size f c)->PSs (lF mJ P w K mg base N qual (SX st) f c A outer s H E).nox (PJ st) (cZ K ts))(hl:∀a b,zf a b->a.length=ps.length) (i:∀a b,zf a b->(∀s∈a,∀d,s≠.ow d)/\ts (yF a b) (NV N.length a)):FnOk P w K mg base mJ (k+1) f fd ps (QX K zf):=by
 refine F.ok S (λj H Q E h=>?_)<|λc A outer s H j Q E l h=>⟨_,g c A outer s H E l,aS i h⟩;obtain⟨G,t,a,b,R,m,_⟩:=h;have q:=hl a b m;have e:=R.len;rw[l0,l0]at e;rw[e,q]
end
noncomputable def AS:List Sl->Bool
 |[]=>Ep
 | .ow _::_=>Er
 |_::as=>AS as
theorem mV:∀{as:List Sl},AS as=Ep->∀s∈as,∀d,s≠.ow d
 | .fz _::as,h,s,a,d,z=>by
  rcases R0.mp a with e|e
  .subst e;cases z
  .exact mV (as:=as) h s e d z
 | .io _::as,h,s,a,d,z=>by
  rcases R0.mp a with e|e
  .subst e;cases z
  .exact mV (as:=as) h s e d z
def BS(K:Fg):List V->Hp->VK->Prop:=λb H Q=>∃(a:Hd) (ns:Qo),b=[.ref a]/\(SqL K H a (ns.map V.int)\/SqT K H a (ns.map V.int))/\Q (.int ns.sum) H
theorem nW{K:Fg}(l:X.K=K)(m:X.calm=Ep):VZ X (.builtin "sum") (BS K):=by
 subst l;intro ae s σ H x us Q I r h;obtain⟨a,ns,rfl,c,q⟩:=h;obtain⟨u,rfl,t⟩:=yK r;cases t;have k:=I.ok.hd m;rcases c with c|c
 .obtain⟨be,d,p,v⟩:=I.list c;have hi:Qe be ns:=EZ d;obtain⟨b,hx⟩:=hi.allInts.items;have e:s.heap.IsList a (Jf b):=hx ▸ p.isList;refine sum_intListG k e λh' w t' g=>?_;have i:ns=b.toList.map (·.1):=by
   rw[<-Mi,<-hx];exact(show numsOf be.toArray.toList=ns from hi.numsOf).symm
  have j:preSum (Qi b) b.size=ns.sum:=by rw[preSum_eq,K3<|by simp,i]
  rw[j];exact⟨.int ns.sum,H,I.kept g,⟨t',Z⟩,q⟩
 .obtain⟨be,d,p,v⟩:=I.tuple c;have hi:Qe be ns:=EZ d;obtain⟨b,hx⟩:=hi.allInts.items;have e:s.heap.IsTuple a (Jf b):=hx ▸ p;refine PySem.W.ktm_sumG k e λh' w t' g=>?_;have i:ns=b.toList.map (·.1):=by
   rw[<-Mi,<-hx];exact(show numsOf be.toArray.toList=ns from hi.numsOf).symm
  have j:preSum (Qi b) b.size=ns.sum:=by rw[preSum_eq,K3<|by simp,i]
  rw[j];exact⟨.int ns.sum,H,I.kept g,⟨t',Z⟩,q⟩
noncomputable def W_:D->(Sl->Prop)->Prop
 | .list a,Q=>∃ns:Qo,a=ns.map n0/\Q (.fz<|.int ns.sum)
 | .tuple a,Q=>∃ns:Qo,a=ns.map n0/\Q (.fz<|.int ns.sum)
 |_,_=>Fo
theorem DaAll.intsV{K:Fg}{ns:Qo}(h:DaAll K F xs (ns.map n0)):xs=ns.map V.int:=by
 induction ns generalizing xs with
 |nil=>cases h;rfl
 |cons b bs a=>cases h with|cons h t=>cases h;rw[a t];rfl
theorem zF{K:Fg}:JZ K (BS K) (o1 W_):=GD λG F σ H j x d Q l R g w k=>by
 cases d<;>first|exact w.elim|skip
 case list i=>obtain⟨ns,e,w⟩:=w;subst e;obtain⟨a,us,rfl,b,c⟩:=g.list R.sub;have:=c.intsV;subst this;exact⟨a,ns,Z,.inl<|SqL.of b,k _ H F (.fz _) (Sub.refl _) R (Da.int _) w⟩
 case tuple i=>obtain⟨ns,e,w⟩:=w;subst e;obtain⟨a,us,rfl,_,b,c⟩:=g.tuple R.sub;have:=c.intsV;subst this;exact⟨a,ns,Z,.inr<|SqT.of b,k _ H F (.fz _) (Sub.refl _) R (Da.int _) w⟩
def EO(i j:Int):Prop:=-(2 ^ 62)<=i/\i<2 ^ 62/\-(2 ^ 62)<=j/\j<2 ^ 62
def Gw:List V->Hp->VK->Prop:=λa H Q=>∃i j:Int,(a=[.int i,.int j]\/(a=[.int j]/\i=0))/\∀p,H p=U->Q (.ref p) (gJ H p<|.rng i j)
theorem KD:VZ X (.type "range") Gw:=by
 intro ae s σ H k us Q I r h;obtain⟨i,j,hx,q⟩:=h;have a:∀(t u v:Tok) (c:Nat),EP X ae σ Q (.ref s.heap.objs.size) {s with heap:=s.heap.push {cls:=.type "range",data:=.fields #[.int i t,.int j u,.int 1 v]},toks:=c}:=λt u v c=>⟨.ref s.heap.objs.size,_,I.laid (t':=c) (o:=.rng i j) (λb o e=>j0 _ e) (P0 _) ⟨t,u,v,O0 _ Z⟩,Z,q _<|I.hok.fresh<|P0 _⟩;rcases hx with rfl|⟨rfl,rfl⟩
 .obtain⟨u,w,rfl,d,g⟩:=zY r;obtain⟨t,rfl⟩:=d;obtain⟨t',rfl⟩:=g;exact call_range_2<|a _ _ _ _
 .obtain⟨u,rfl,d⟩:=yK r;obtain⟨t,rfl⟩:=d;exact call_range_1<|a _ _ _ _
def oW:List V->Hp->VK->Prop:=λa H Q=>∃(p:Hd) (i j:Int),a=[.ref p]/\H p=O (.rng i j)/\EO i j/\(j-i).toNat<=2 ^ 24/\∀l,H l=U->Q (.ref l) (gJ H l<|.lst<|(S1 (j-i).toNat).map λ(n:Nat)=>V.int<|i+n)
theorem iU(m:X.calm=Ep):VZ X (.type "list") oW:=by
 intro ae s σ H Y us Q I r h;obtain⟨p,i,j,rfl,w,⟨x,b2,B,C⟩,c,q⟩:=h;obtain⟨u,rfl,F⟩:=yK r;cases F;obtain⟨t,u,v,e⟩:=I.hok p _ w;have G:uQ i j 1=((j-i).toNat:Int):=by rw[rangeSize_one];split<;>lia
 refine call_list_range (I.ok.hd m) e (small_one x b2 B C) G c λh' L a M P R d=>?_;refine⟨.ref s.heap.objs.size,_,I.laid (t':=L) (o:=.lst<|(S1 (j-i).toNat).map λ(n:Nat)=>V.int<|i+n) P (P0 _) ?_,Z,q _<|I.hok.fresh<|P0 _⟩;refine⟨by rw[l0,v5];exact c,a.toList,M,?_,by simpa using R⟩;have b:∀(n:Nat) (ys:Et),ys.length=n->(∀(k:Nat) (y:Cd),ys[k]?=O y->∃t,y=.int (i+k*1) t)->Vals ((S1 n).map λ(n:Nat)=>V.int<|i+n) ys:=by
  intro n;induction n with
  |zero=>intro ys hl _;cases ys with|nil=>exact .nil|cons=>simp at hl
  |succ n S =>
   intro ys hl hy;rcases Y8 ys with rfl|⟨g,z,rfl⟩
   .simp at hl
   .rw[List.concat_eq_append]at hl hy ⊢;have l:g.length=n:=by simpa using hl
    rw[List.range_succ,u4];refine Vals.append (S g l λk y e=>hy k y<|by rw[A4<|AJ e];exact e) ?_;obtain⟨t,rfl⟩:=hy n z (by rw[<-l];simp);exact .cons ⟨t,by simp⟩ .nil
 refine b _ _ (by rw[W0];exact d.1) λk y e=>?_;exact d.2 k y (by simpa using e)
noncomputable def CS:D->D->(Sl->Prop)->Prop
 | .int i,.int j,Q=>EO i j/\(j-i).toNat<=2 ^ 24/\Q (.ow<|.list<|wZ i (j-i).toNat)
 |_,_,_=>Fo
theorem DS{K:Fg}:JZ K (λb H Q=>Gw b H λv c=>oW [v] c Q) (o2 CS):=by
 intro G F σ H g b m Q q R a w k;match m,a,w with
 |[d,e],a,w =>
  obtain⟨v,u,rfl,t,x⟩:=a.two;have w:CS d e q:=w;unfold CS at w;split at w
  rotate_left
  .exact w.elim
  rename_i i j w;cases t.int;cases x.int;refine⟨i,j,.inl Z,λp y=>⟨p,i,j,Z,uZ,w.1,w.2.1,λl hl=>?_⟩⟩;have B:Rel K G F σ (gJ H p<|.rng i j) g:=R.laid y;have da:DaAll K F ((S1 (j-i).toNat).map λ(n:Nat)=>V.int<|i+n) (wZ i (j-i).toNat):=by have:=DaAll.ints (K:=K) (F:=F)<|(S1 (j-i).toNat).map λ(n:Nat)=>i+(n:Int);simpa [wZ,A0,Function.comp_def]using this
  obtain⟨C,L⟩:=B.newOw (o:=.lst _) (d:=.list<|wZ i (j-i).toNat) hl da;exact k _ _ F _ (Sub.refl _) C L w.2.2
section
variable {K:Fg}{e:Ge}{a b:AD}
theorem ES(h:PE X e (JL oW<|uG (JL Gw<|pZ<|[a,b].map (XX K)) dy)):PE X e (lift K<|CY [a,b]<|o2 CS):=gU h λq=>aV DS q
end
noncomputable def clean1(a:Ev)(i:Nat):Ev:=match a[i]? with
 |some (O<|.io _)=>a
 |some _=>a.set i U
 |none=>a
noncomputable def clean(ks:Os)(a:Ev):Ev:=match ks with
 |[]=>a
 |i::r=>clean r<|clean1 a i
section
variable {K:Fg}{G:Gh}{F:Hp}{σ:L2.St}{ρ:Ev}
theorem Rel.drop(R:Rel K G F σ H ρ){i:Nat}(l:∀d,ρ[i]?≠O (O<|Sl.io d)):Rel K G F σ H (ρ.set i U):=by
 refine⟨by rw[o4];exact R.len,R.sub,R.sub0,R.fn,R.keep,λj d e=>?_,λj t e m=>?_,λj d b e q=>?_,λj b e=>?_,λj d e=>?_,λj k t u b a v c w x y=>?_⟩
 .rcases fZ e with⟨rfl,z⟩|⟨n,z⟩
  .cases z
  .exact R.fz j d z
 .rcases fZ e with⟨rfl,z⟩|⟨n,z⟩
  .cases z
  .exact R.ow j t z m
 .rcases fZ e with⟨rfl,z⟩|⟨n,z⟩
  .cases z
  .exact R.new j d b z q
 .obtain⟨B,a,c⟩:=R.io j b e;have n:i≠j:=λz=>by subst z;exact l _ a
  exact⟨B,by rw[V1 n];exact a,c⟩
 .rcases fZ e with⟨rfl,z⟩|⟨n,z⟩
  .cases z
  .exact R.ioi j d z
 .rcases fZ a with⟨rfl,z⟩|⟨n,z⟩
  .cases z
  .rcases fZ c with⟨rfl,g⟩|⟨C,g⟩
   .cases g
   .exact R.ap j k t u b z v g w x y
theorem Rel.clean1(R:Rel K G F σ H ρ)(i:Nat):Rel K G F σ H (clean1 ρ i):=by
 unfold L3.clean1;split
 .exact R
 .rename_i a b;exact R.drop λd z=>by rw[b]at z;cases z;exact a _ Z
 .exact R
theorem Rel.clean(ks:Os):∀{ρ:Ev},Rel K G F σ H ρ->Rel K G F σ H (clean ks ρ):=by
 induction ks with
 |nil=>intro ρ R;exact R
 |cons i r a=>intro ρ R;exact a<|R.clean1 i
end
noncomputable def oY(ks:Os)(g:OY)(b:sW)(E:DE):List D->Ev->Prop
 |[],c=>E.nx c
 |d::i,c=>g d c λe=>b {nx:=λa=>oY ks g b E i (clean ks a),rt:=E.rt,bk:=λa=>E.nx (clean ks a),ct:=λa=>oY ks g b E i<|clean ks a} e
noncomputable def bx(ks:Os)(b:Xq)(g:OY)(c:sW):sW:=λE d=>b d λe a=>oY ks g c E e<|clean ks a
theorem FO{K:Fg}{E:Ends}(h:cZ K (bx ks ti g tb) E σ H):dN (kJ K ti) (MZ K g) (cZ K tb) E σ H:=by
 obtain⟨G,F,ρ,D,R,w,n,r,b,c⟩:=h;refine⟨G,F,ρ,_,R,w,λJ H1 F1 t ρ1 s1 R1 wk w1=>?_⟩;refine⟨λi m σ H=>m=t.length-i/\i<=t.length/\∃P a,Sub F1 P/\Rel K G P σ H a/\oY ks g tb D (t.drop i) a,⟨t.length,Z,v4 _,F1,_,Sub.refl _,R1.clean ks,w1⟩,?_⟩;rintro i m σ H ⟨rfl,hi,P,a,s',R',w'⟩;obtain⟨hgo,ji⟩:=wk i H P s' R'.sub;cases e:t[i]? with
 |none=>have hl:t.length<=i:=S4.mp e;refine .inl ⟨ji<|j4 hl hi,?_⟩;rw[K4 hl]at w';exact n σ H P a (s1.trans s') R' w'
 |some d =>
  obtain⟨go,yl⟩:=hgo d e;have hl:=AJ e;rw[zD e]at w';refine .inr ⟨go,λS H2=>∃B k,Sub F1 B/\Rel K G B S H2 k/\oY ks g tb D (t.drop<|i+1) k,λS H2 ⟨B,k,z1,z2,z3⟩=>⟨t.length-(i+1),Q6 _ _ hl,Z,hl,B,k,z1,z2,z3⟩,λx H2 y=>?_⟩;obtain⟨B,Y,t2,t3,t4,t5⟩:=yl x H2 y;have R2:=R'.turn Y t2 t3 t4;refine⟨G,B,a,d,_,R2,t5,w',λσ3 ρ3 R3 w3=>?_⟩;refine⟨G,B,ρ3,_,R3,w3,λj H4 C l L M q=>?_,λv j H4 C x4 l L M r4 q=>?_,λj H4 C l L M q=>?_,λj H4 C l L M q=>?_⟩
  .exact⟨C,_,s'.trans<|Y.trans L,M.clean ks,q⟩
  .exact r v j H4 C x4 l (s1.trans<|s'.trans<|Y.trans L) M r4 q
  .exact n j H4 C _ (s1.trans<|s'.trans<|Y.trans L) (M.clean ks) q
  .exact⟨C,_,s'.trans<|Y.trans L,M.clean ks,q⟩
theorem aI{K:Fg}{st:Xg}(ks:Os){a:Xq}{g:OY}(h:PS X st (dN (kJ K a) (MZ K g)<|cZ K t)):PS X st (cZ K<|bx ks a g t):=fu h FO
theorem YJ{ks:Os}{g:OY}{i:sW}{E:DE}(J:List D->Ev->Prop)(j:∀d c b,J (d::c) b->∀N:Ev->Prop,(∀a,J c a->N a)->g d b λe=>i {nx:=λa=>N (clean ks a),rt:=E.rt,bk:=λa=>E.nx (clean ks a),ct:=λa=>N<|clean ks a} e)(hd:∀b,J [] b->E.nx b):∀{c:List D}{b:Ev},J c b->oY ks g i E c b
 |[],b,h=>hd b h
 |d::c,b,h=>j d c b h _ λa k=>YJ J j hd k
noncomputable def rK(n:Nat)(g:OY)(e:JV)(i:TD):List D->List D->Ev->(List D->Ev->Prop)->Prop
 |[],a,j,Q=>Q a j
 |d::m,a,j,Q=>g d j λk=>e k λb c=>if b=Ep then i c λr l=>rK n g e i m (a++[r.d]) (clean (S1 n) l) Q else rK n g e i m a (clean (S1 n) c) Q
def pY(c:Xq)(own:Oo)(fr:Os)(g:OY)(d:JV)(e:TD):TD:=λi Q=>c i λb a=>b.length<=sizeLine/\rK own.length g d e b [] (dH own fr a) λys j=>Q (.ow<|.list ys)<|MV fr (j.drop own.length) 0 a
theorem cx{K:Fg}(nd:fr.Nodup){σ:L2.St}{H:Hp}{Q:VK}(h:lift K (pY ti own fr g tc te) σ H Q):bH (kJ K ti) own fr (MZ K g) (rZ K tc) (lift K te) σ H Q:=by
 obtain⟨G,F,ρ,Qd,R,w,k⟩:=h;refine⟨G,F,ρ,_,R,w,λJ H1 F1 q c s1 R1 wk ⟨hz,w1⟩=>?_⟩;have Ri:=R1.inner (own:=own) nd;refine⟨λi m ys B H=>m=q.length-i/\i<=q.length/\∃C j a,Rel K (CC own fr F1 H1 σ c) C B H j/\DaAll K C ys a/\a.length<=i/\rK own.length g tc te (q.drop i) a j (λys B=>Qd (.ow<|.list ys)<|MV fr (B.drop own.length) 0 c),
   ⟨q.length,Z,v4 _,F1,_,[],Ri,.nil,v4 _,w1⟩,?_⟩;rintro i m ys B H' ⟨rfl,hi,C,j,a,L,da,hl,S⟩;obtain⟨hgo,ji⟩:=wk i H' C L.sub0 L.sub;cases e:q[i]? with
 |none=>have uh:q.length<=i:=S4.mp e;refine .inl ⟨ji<|j4 uh hi,λDd hD=>?_⟩;rw[K4 uh]at S;have Ro:=R1.outer L nd;obtain⟨Rn,rn⟩:=Ro.newOw (o:=.lst ys) (d:=.list a) hD da;exact k _ _ C _ _ (s1.trans L.sub0) Rn rn S
 |some d =>
  obtain⟨go,yl⟩:=hgo d e;have ge:=AJ e;rw[zD e]at S;refine .inr ⟨go,by rw[da.length];exact L1 hl<|u0 ge hz,λkg M Y=>∃t l P,Rel K (CC own fr F1 H1 σ c) t M Y l/\DaAll K t kg P/\P.length<=i+1/\rK own.length g tc te (q.drop<|i+1) P l (λys B=>Qd (.ow<|.list ys)<|MV fr (B.drop own.length) 0 c),
    λkg M Y ⟨t,l,P,z1,z2,z3,z4⟩=>⟨q.length-(i+1),Q6 _ _ ge,Z,ge,t,l,P,z1,z2,z3,z4⟩,λx Y y=>?_⟩;obtain⟨t,t1,t2,t3,t4,t5⟩:=yl x Y y;have R2:=L.turn t1 t2 t3 t4;refine⟨_,t,j,d,_,R2,t5,S,λτ3 ρ3 R3 w3=>?_⟩;refine⟨_,t,ρ3,_,R3,w3,λb H4 F4 ρ4 s4 R4 w4=>?_⟩;cases b with
  |false=>exact⟨F4,_,a,R4.clean _,da.mono<|t1.trans s4,X5 hl,w4⟩
  |true=>refine⟨_,F4,ρ4,_,R4,w4,λv H5 F5 r ρ5 s5 R5 r5 w5=>?_⟩;obtain⟨F6,s6,R6,d6⟩:=r5.frz R5;exact⟨F6,_,a++[r.d],R6.clean _,(da.mono<|t1.trans<|s4.trans<|s5.trans s6).append<|.cons d6 .nil,by simp;omega,w5⟩
section
variable {K:Fg}{e:Ge}{st:Xg}{ti:Xq}{own:Oo}{g:OY}{tc:JV}{te:TD}
theorem ou(a:fr.Nodup)(h:PE X e (bH (kJ K ti) own fr (MZ K g) (rZ K tc)<|lift K te)):PE X e (lift K<|pY ti own fr g tc te):=gU h<|cx a
theorem qu(a:fr.Nodup)(h:PS X st (DV (bH (kJ K ti) own fr (MZ K g) (rZ K tc)<|lift K te)<|FY i)):PS X st (cZ K<|tw i<|pY ti own fr g tc te):=fu h λq=>cx a<|QL q
end
theorem su{g:OY}{m:JV}{q:TD}{Q:List D->Ev->Prop}(J:List D->List D->Ev->Prop)(t:∀d i a e,J (d::i) a e->∀N:List D->Ev->Prop,(∀j c,J i j c->N j c)->g d e λk=>m k λb c=>if b=Ep then q c λr l=>N (a++[r.d]) (clean (S1 n) l) else N a (clean (S1 n) c))(hd:∀a e,J [] a e->Q a e):∀{i a:List D}{e:Ev},J i a e->rK n g m q i a e Q
 |[],a,e,h=>hd a e h
 |d::i,a,e,h=>t d i a e h _ λj c v=>su J t hd v
theorem HG{Q:List D->Ev->Prop}(J:List D->List D->Ev->Prop)(v:∀d l a k,J (d::l) a k->∀N:List D->Ev->Prop,(∀t j,J l t j->N t j)->g d k λc=>m c λr i=>N (a++[r.d])<|clean (S1 n) i)(hd:∀a k,J [] a k->Q a k) {l a:List D}{k:Ev} (h:J l a k):rK n g xD m l a k Q:=
 su J (λd l a k h N hN=>by
   have q:=v d l a k h N hN;have e:(λc=>m c λr i=>N (a++[r.d])<|clean (S1 n) i)=λc=>xD c λb j=>if b=Ep then m j (λr i=>N (a++[r.d])<|clean (S1 n) i) else N a (clean (S1 n) j):=by funext c;show _=(if Ep=Ep then m c (λr i=>N (a++[r.d])<|clean (S1 n) i) else N a (clean (S1 n) c));rw[Jd Z]
   rw[<-e];exact q) hd h
theorem sJ{Q:List D->Ev->Prop}(f:D->D){j:Ev}{k:List D}(m:∀d∈k,∀N:D->Ev->Prop,N (f d) j->g d j λl=>te l λr b=>N r.d<|clean (S1 n) b)(hd:Q (k.map f) j):rK n g xD te k [] j Q:=by
 refine HG (λrest c i=>i=j/\∃a,k=a++rest/\c=a.map f) ?_ ?_ ⟨Z,[],Z,Z⟩
 .rintro d q c i ⟨rfl,a,e,rfl⟩ N hN;exact m d (by rw[e];simp) (λx b=>N (a.map f++[x]) b)<|hN _ _ ⟨Z,a++[d],by rw[e];simp,by simp⟩
 .rintro c i ⟨rfl,a,e,rfl⟩;rw[E2]at e;subst e;exact hd
theorem GO{Q:List D->Ev->Prop}(p:D->Bool)(f:D->D){k:Ev}{m:List D}(v:∀d∈m,∀(N:D->Ev->Prop) (M:Ev->Prop),(p d=Ep->N (f d) k)->(p d=Er->M k)->g d k λq=>tc q λb l=>if b=Ep then te l λr c=>N r.d (clean (S1 n) c) else M (clean (S1 n) l))(hd:Q ((m.filter p).map f) k):rK n g tc te m [] k Q:=by
 refine su (λrest i j=>j=k/\∃a,m=a++rest/\i=(a.filter p).map f) ?_ ?_ ⟨Z,[],Z,Z⟩
 .rintro d w i j ⟨rfl,a,e,rfl⟩ N hN;exact v d (by rw[e];simp) (λx c=>N ((a.filter p).map f++[x]) c) (λc=>N ((a.filter p).map f) c) (λt=>hN _ _ ⟨Z,a++[d],by rw[e];simp,by simp[t]⟩)
   (λt=>hN _ _ ⟨Z,a++[d],by rw[e];simp,by simp[t]⟩)
 .rintro i j ⟨rfl,a,e,rfl⟩;rw[E2]at e;subst e;exact hd
structure WE(X:Cx)(e:Ge)(t:TE):Prop where
 h:PE X e t
structure WA(X:Cx)(es:Rs)(t:TA):Prop where
 h:PA X es t
structure WT(X:Cx)(e:Ge)(t:TT):Prop where
 h:PT X e t
structure WW(X:Cx)(e:Ge)(t:TT):Prop where
 h:PW X e t
structure WS(X:Cx)(s:Xg)(t:TS):Prop where
 h:PS X s t
structure WSs(X:Cx)(s:List Xg)(t:TS):Prop where
 h:PSs X s t
structure WG(X:Cx)(e:Ge)(t:TG):Prop where
 h:PG X e t
structure WGs(X:Cx)(es:Rs)(t:AC):Prop where
 h:HL X es t
structure WI(X:Cx)(g e:Ge)(t:TI):Prop where
 h:PI X g e t
structure WIf(X:Cx)(es:Rs)(t:TT):Prop where
 h:xy X es t
section
variable {K:Fg}{e e1 e2 e3:Ge}{es:Rs}{a b c:AD}{as:List AD}{td te tf:TD}{tc tc':JV}{st:Xg}{sts:List Xg}{t u:sW}{p pos af p2 ve re cg:Pos}{x:Str}
theorem wn(i:Nat)(hN:X.N[i]?=O x:=by rfl)(d:GL X.env.scope x:=by first|exact Or.inl rfl|exact Or.inr (Or.inl rfl)|exact Or.inr<|Or.inr rfl)(hd:(x==("__debug__":Str))=false:=by decide)
  (g:(x==("__classdict__":Str))=false:=by decide):WE X (.Name x pos) (XX K<|.inl i):=⟨Fv hN d hd g⟩
theorem wv(i:Nat)(hN:X.N[i]?=O x:=by rfl)(d:GL X.env.scope x:=by first|exact Or.inl rfl|exact Or.inr (Or.inl rfl)|exact Or.inr<|Or.inr rfl)(hd:(x==("__debug__":Str))=false:=by decide)
  (g:(x==("__classdict__":Str))=false:=by decide):WE X (.Name x pos) (lift K<|nE i):=⟨lO<|Fv hN d hd g⟩
theorem wx(h:WE X e (lift K td)):WE X e (XX K<|.inr td):=⟨h.h⟩
theorem cK:WA X [] (pZ<|([]:List AD).map<|XX K):=⟨FV⟩
theorem CU(d:WE X e (XX K a))(g:WA X es (pZ<|as.map<|XX K))(i:oZ e=true:=by rfl):WA X (e::es) (pZ<|(a::as).map<|XX K):=⟨BE d.h g.h<|YX i⟩
theorem yZ:WE X (.Constant (.int i) k pos) (lift K<|dC<|.int i):=⟨qS (λ_=>.int _) NM⟩
theorem EW{b:Bool}:WE X (.Constant (.bool b) k pos) (lift K<|dC<|.bool b):=⟨qS (λ_=>.bl _) mR⟩
theorem w_bin{r:R2}{f:D->D->(Sl->Prop)->Prop}(ok:JZ K (OV r) (o2 f))(d:OpR X (Qf op) r)(g:WE X e1 (XX K a))(i:WE X e2 (XX K b)):WE X (.BinOp e1 op e2 pos) (lift K<|CY [a,b]<|o2 f):=⟨V' ok<|rR d g.h i.h⟩
theorem mH(d:WE X e1 (XX K a)):WE X (.UnaryOp .USub e1 pos) (lift K<|CY [a]<|o1 iS):=⟨yb eO<|sR kN d.h⟩
theorem SY{d:CmpOp}{r:R2}{f:D->D->(Sl->Prop)->Prop}(ok:JZ K (OV r) (o2 f))(g:OpR X (Le d) r)(i:WE X e1 (XX K a))(j:WE X e2 (XX K b))(k:d≠.In:=by decide)(l:d≠.NotIn:=by decide):WE X (.Compare e1 [d] [e2] pos) (lift K<|CY [a,b]<|o2 f):=⟨V' ok<|RC g i.h j.h<|Zv _ k l⟩
theorem bI{d g:CmpOp}{p q:Int->Int->Bool}(k:OpR X (Le d) (sU λi j=>.bl<|p i j))(l:OpR X (Le g) (sU λi j=>.bl<|q i j))(m:WE X e1 (XX K a))(v:WE X e2 (XX K b))(w:WE X e3 (XX K c))
  (y:lastMarks [d,g] [e2,e3]=false:=by with_unfolding_all rfl):WE X (.Compare e1 [d,g] [e2,e3] pos) (lift K<|Cz p q a b c):=⟨gu<|cy k l m.h v.h w.h y⟩
theorem tu(h:WE X e tr):WE X (.BoolOp op [e] pos) tr:=⟨UM h.h⟩
theorem LD{rest:Rs}(d:WE X e1 (lift K td))(g:WE X (.BoolOp .And (e2::rest) pos) (lift K te)):WE X (.BoolOp .And (e1::e2::rest) pos) (lift K<|Jy td te):=⟨pO<|VM d.h g.h⟩
theorem w_not(d:WE X e1 (lift K td)):WE X (.UnaryOp .Not e1 pos) (lift K<|Ky td):=⟨qO<|WM d.h⟩
theorem dZ{k:Nat}{g:Oo}{d:Con}(C:Cal X.prog X.w X.K X.mg X.base k x g (QX K d))(i:Room k X.A)(j:WA X (e::es) (pZ<|as.map<|XX K))(l:Gl X x:=by rfl)(m:(x==("__debug__":Str))=false:=by decide)
  (q:oZ e=true:=by rfl) (v:es.all oZ=true:=by rfl):WE X (.Call (.Name x p) (e::es) [] pos) (lift K<|Qy d as):=⟨rS<|OL C i j.h l m (YX q)<|KZ v⟩
theorem wJ{k i:Nat}{g:Oo}{d:Con}(C:Cal X.prog X.w X.K X.mg X.base k x g (QX K d))(j:Room k X.A)(l:WA X (e::es) (pZ<|(Sum.inl i::as).map<|XX K))(m:Gl X x:=by rfl)(q:(x==("__debug__":Str))=false:=by decide)
  (v:oZ e=true:=by rfl) (y:es.all oZ=true:=by rfl):WE X (.Call (.Name x p) (e::es) [] pos) (lift K<|wF d i as):=⟨rO<|OL C j l.h m q (YX v)<|KZ y⟩
theorem kZ{id:String}{r:List V->Hp->VK->Prop}{f:List D->(Sl->Prop)->Prop}(ok:JZ K r f)(d:VZ X (.builtin id) r)(g:X.mg x=U)(i:Se x=O (.builtin id))(j:WA X (e::es) (pZ<|as.map<|XX K))(k:Gl X x:=by rfl)(l:x ≠ "__name__":=by decide)(m:(x==("__debug__":Str))=false:=by decide)
  (q:oZ e=true:=by rfl) (v:es.all oZ=true:=by rfl):WE X (.Call (.Name x p) (e::es) [] pos) (lift K<|CY as f):=⟨Ab ok<|XW d k g i j.h l m (YX q)<|KZ v⟩
theorem DU{T:String}{r:List V->Hp->VK->Prop}{f:List D->(Sl->Prop)->Prop}(ok:JZ K r f)(d:VZ X (.type T) r)(g:X.mg x=U)(i:Se x=O (.type T))(j:WA X (e::es) (pZ<|as.map<|XX K))(k:Gl X x:=by rfl)(l:x ≠ "__name__":=by decide)(m:(x==("__debug__":Str))=false:=by decide)
  (q:oZ e=true:=by rfl) (v:es.all oZ=true:=by rfl):WE X (.Call (.Name x p) (e::es) [] pos) (lift K<|CY as f):=⟨Ab ok<|uK d k g i j.h l m (YX q)<|KZ v⟩
theorem FS(T:Ki)(j:X.K=K)(k:X.mg "isinstance"=U){y:Str}(l:X.mg y=U)(d:Se y=O (.type T.nm))(m:WE X e1 (XX K a))(q:Gl X "isinstance":=by rfl)(w:Gl X y:=by rfl)(hy:y ≠ "__name__":=by decide)(g:(y==("__debug__":Str))=false:=by decide)(i:oZ e1=true:=by rfl) :
  WE X (.Call (.Name "isinstance" p) [e1,.Name y p2] [] pos) (lift K<|CY [a]<|o1<|cO T):=⟨mO T<|XW (qw j) q k boot_isinstance (FK m.h (FK (Mj w l d (v:=.ty T.nm) Z hy g) FV<|YX Z)<|YX i) (by decide) (by decide) (YX i)<|KZ Z⟩
theorem X_(g:X.calm=Ep)(i:X.mg "list"=U)(j:X.mg "range"=U)(k:WA X [e1,e2] (pZ<|[a,b].map (XX K)))(l:Gl X "list":=by rfl)(m:Gl X "range":=by rfl)(q:oZ e1=true:=by rfl)(d:oZ e2=true:=by rfl) :
  WE X (.Call (.Name "list" p) [.Call (.Name "range" p2) [e1,e2] [] af] [] pos) (lift K<|CY [a,b]<|o2 CS) :=
 ⟨ES<|uK (iU g) l i Zi (FK (uK KD m j boot_range k.h (by decide) (by decide) (YX q)<|KZ<|by simp[d]) FV<|YX Z) (by decide) (by decide) (YX Z)<|KZ Z⟩
theorem Y_(d:X.K=K)(g:WE X e1 (XX K a))(i:WE X e2 (XX K b))(j:mF e2:=by exact λ_ _=>rfl):WE X (.Subscript e1 e2 pos) (lift K<|CY [a,b]<|o2 N_):=⟨V' fS<|yR (XE d) g.h i.h j⟩
theorem DZ{k:Nat}(h:WA X es (pZ<|as.map<|XX K))(hl:as.length<=1000:=by decide):WE X (.Tuple es k pos) (lift K<|Dw as Zy):=⟨nO hl<|nN h.h⟩
theorem WZ(h:WA X es (pZ<|as.map<|XX K))(hl:as.length<=1000:=by decide):WE X (.List es pos) (lift K<|Dw as au):=⟨oO hl<|oN h.h⟩
theorem AF{own:Oo}{d:Xq}{g:OY}(i:X.calm=Ep)(S:MY X.env.scope X.N fr sc=Ep)(hi:WI X tg me (kJ K d))(j:∀C s H ex,WG (nZ X own fr sc C s H ex) tg<|MZ K g)
  (k:∀C s H ex,WIf (nZ X own fr sc C s H ex) jg<|rZ K tc) (l:∀C s H ex,WE (nZ X own fr sc C s H ex) fg<|lift K te) (m:fr.Nodup:=by decide) (q:nY me=true:=by rfl):WE X (.ListComp fg [⟨tg,me,jg,0⟩] sc pos) (lift K<|pY d own fr g tc te) :=
 ⟨ou m<|By i (FG S) hi.h (λC s H ex=>(j C s H ex).h) (λC s H ex=>(k C s H ex).h) (λC s H ex=>(l C s H ex).h)<|QV q⟩
theorem uu{id:String}{i:Nat}{f:List D->List D->(D->D->Prop)->Prop}(ok:DC K r f)(d:X.K=K)(slot:Slot "list" name id)(g:Km (.builtin id)=pure (.type "method_descriptor"))(j:L' X id r)(k:WE X (.Name x p) (XX K<|.inl i))(l:WA X (e::es) (pZ<|as.map<|XX K))
  (m:Hf (.Name x p) name X.env (Cf (.Name x p) X.env)=Cf (.Name x p) X.env:=by rfl)
  (q:((Rf re<|Xd (e::es) X.env).all (λx=>!x.1)&&(Co re<|Pl [] X.env).all (λx=>x.1.isSome)&&Es ((e::es).length+([]:List Gi).length+(if ([]:List Gi).isEmpty then 0 else 1)<30))=true:=by rfl)
  (v:(ve.endLine==re.line)=true:=by rfl) (w:oZ e=true:=by rfl) (y:es.all oZ=true:=by rfl):WE X (.Call (.Attribute (.Name x p) name ve) (e::es) [] re) (lift K<|GG i as f):=by
 subst d;exact⟨T_ ok<|AR PySem.F.plainAttrs_list slot g j k.h l.h m q v (YX w)<|KZ y⟩
theorem GS{id:String}{i:Nat}{f:List D->List D->(D->D->Prop)->Prop}(ok:DC K r f)(d:X.K=K)(slot:Slot "list" name id)(g:Km (.builtin id)=pure (.type "method_descriptor"))(j:L' X id r)(k:WE X (.Name x p) (XX K<|.inl i))
  (l:Hf (.Name x p) name X.env (Cf (.Name x p) X.env)=Cf (.Name x p) X.env:=by rfl) (m:(ve.endLine==re.line)=true:=by rfl):WE X (.Call (.Attribute (.Name x p) name ve) [] [] re) (lift K<|GG i [] f):=by
 subst d;exact⟨sS ok<|tN PySem.F.plainAttrs_list slot g j k.h l m⟩
theorem rJ{d:CmpOp}{r:R2}{f:D->D->(Sl->Prop)->Prop}(ok:JZ K (OV r) (o2 f))(g:OpR X (Le d) r)(i:WE X e1 (XX K a))(j:WE X e2 (XX K b))(k:d≠.In:=by decide)(l:d≠.NotIn:=by decide):WT X (.Compare e1 [d] [e2] pos) (rZ K<|wz<|CY [a,b]<|o2 f):=⟨Uc ok<|SC g i.h j.h<|Zv _ k l⟩
theorem ZJ(h:WT X e (rZ K tc)):WT X (.UnaryOp .Not e pos) (rZ K<|LN tc):=⟨tO<|TM h.h⟩
theorem Lz(h:WT X e (rZ K tc)):WW X (.BoolOp .And [e] pos) (rZ K tc):=⟨JC h.h⟩
theorem xW(h:WT X e (rZ K tc)):WW X (.BoolOp .Or [e] pos) (rZ K tc):=⟨RM h.h⟩
theorem wu{rest:Rs}(d:WT X e1 (rZ K tc))(g:WW X (.BoolOp .And (e2::rest) pos) (rZ K tc')):WW X (.BoolOp .And (e1::e2::rest) pos) (rZ K<|MN tc tc'):=⟨uO<|SM d.h g.h⟩
theorem vU{rest:Rs}(d:WT X e1 (rZ K tc))(g:WW X (.BoolOp .Or (e2::rest) pos) (rZ K tc')):WW X (.BoolOp .Or (e1::e2::rest) pos) (rZ K<|H_ tc tc'):=⟨uS<|nR d.h g.h⟩
theorem Hw(h:WW X e tt):WT X e tt:=⟨h.h.pt⟩
theorem NJ(h:WE X e (lift K td))(g:∀d,Vn e X.env d=(do let v<-d;standAt e.pos;Zg [v] (truthy v)):=by intro _;rfl):WT X e (rZ K<|wz td):=⟨sO<|OM h.h g⟩
theorem JO{i:Nat}(hN:X.N.Nodup)(hi:X.N[i]?=O x)(hx:HC X.env.scope x)(hf:X.fn x=Ep\/X.env.scope.names.lookup x=O .local:=by first|exact .inl rfl|exact .inr rfl|assumption):WG X (.Name x pos) (MZ K<|BC i):=⟨KE<|NC hN hi hx hf⟩
theorem EJ:WGs X [] (dG<|([]:List OY).map<|MZ K):=⟨OC⟩
theorem lZ{g:OY}{d:List OY}(i:WG X e (MZ K g))(j:WGs X es (dG<|d.map<|MZ K))(k:(We (e::es) X.env).map (·.2)=Li e X.env::(We es X.env).map (·.2):=by rfl):WGs X (e::es) (dG<|(g::d).map<|MZ K):=⟨ku i.h j.h k⟩
theorem pK{d:List OY}{k:Nat}(g:X.K=K)(i:X.calm=Ep)(j:WGs X es (dG<|d.map<|MZ K))(l:(We es X.env).length=d.length:=by rfl)(m:(We es X.env).findIdx? (·.1)=none:=by rfl):WG X (.Tuple es k pos) (MZ K<|O' d):=⟨AO (mE g i j.h l m) Z⟩
theorem RL:WIf X [] (rZ K xD):=⟨ME⟩
theorem Z_(h:WT X e (rZ K tc)):WIf X [e] (rZ K tc):=⟨FN h.h⟩
theorem CZ(d:X.K=K)(hl:WE X e (lift K td)):WI X tg e (kJ K<|du td):=⟨BO d hl.h⟩
theorem FW(d:X.mg "range"=U)(g:WA X [e1] (pZ<|[a].map (XX K)))(i:Gl X "range":=by rfl)(j:oZ e1=true:=by rfl):WI X tg (.Call (.Name "range" p) [e1] [] pos) (kJ K<|Gz a):=⟨QE<|Vk i d g.h<|by rw[YX j];rfl⟩
theorem MK(d:X.K=K)(g:X.mg "zip"=U)(i:WA X [e1,e2] (pZ<|[a,b].map (XX K)))(j:Gl X "zip":=by rfl)(k:oZ e1=true:=by rfl)(l:[e2].all oZ=true:=by rfl):WI X (.Tuple ts kk cg) (.Call (.Name "zip" p) [e1,e2] [] pos) (kJ K<|Hz a b):=⟨RE<|Dy d j g i.h (YX k)<|KZ l⟩
theorem Mz(d:X.K=K)(g:X.mg "zip"=U)(i:WA X [e1,e2,e3] (pZ<|[a,b,c].map (XX K)))(j:Gl X "zip":=by rfl)(k:oZ e1=true:=by rfl)(l:[e2,e3].all oZ=true:=by rfl):WI X (.Tuple ts kk cg) (.Call (.Name "zip" p) [e1,e2,e3] [] pos) (kJ K<|Jz a b c):=⟨SE<|Ey d j g i.h (YX k)<|KZ l⟩
theorem GZ:WSs X [] (cZ K Ly):=⟨EE KC⟩
theorem AZ(h:WS X st tr):WSs X [st] tr:=⟨LC h.h⟩
theorem RX(h:WS X st (cZ K t))(d:WSs X sts (cZ K u)):WSs X (st::sts) (cZ K<|oE t u):=⟨vO<|Jv h.h d.h⟩
theorem HS(h:WE X e (lift K td)):WS X (.Return (O e) pos) (cZ K<|pE td):=⟨wO<|Mv h.h⟩
theorem KO(h:WE X e (XX K<|.inl i)):WS X (.Return (O e) pos) (cZ K<|yD i):=⟨FE<|Mv h.h⟩
theorem nK(h:WE X e (lift K td))(d:lV e=true:=by rfl):WS X (.Expr e pos) (cZ K<|My td):=⟨IE<|MC h.h<|kH d⟩
theorem lJ(d:WT X e (rZ K tc))(g:WSs X sa (cZ K t))(i:WSs X sb (cZ K u)):WS X (.If e sa sb pos) (cZ K<|PN tc t u):=⟨vS<|oR d.h g.h i.h⟩
theorem JS{d:List Xg}(ks:Os){i:Xq}{g:OY}(j:Hn (Md X.prog X.w) X.A X.env X.xe)(k:X.calm=Ep)(hi:WI X tg me (kJ K i))(l:WG X tg (MZ K g))(m:WSs X d (cZ K t))(q:nY me=true:=by rfl):WS X (.For tg me d [] pos) (cZ K<|bx ks i g t):=⟨aI ks<|eN j k hi.h l.h m.h<|QV q⟩
theorem EU(d:Hn (Md X.prog X.w) X.A X.env X.xe)(g:WT X e (rZ K tc))(i:WSs X body (cZ K t)):WS X (.While e body [] pos) (cZ K<|xz tc t):=⟨iu<|Tv d g.h i.h⟩
theorem KS{i:Nat}(hN:X.N.Nodup)(hi:X.N[i]?=O x)(hx:HC X.env.scope x)(d:WE X e (lift K td))(g:lV e=true:=by rfl)(hf:X.fn x=Ep\/X.env.scope.names.lookup x=O .local:=by first|exact .inl rfl|exact .inr rfl|assumption):WS X (.Assign [.Name x af] e pos) (cZ K<|tw i td):=⟨xO<|Sv hN hi hx d.h (kH g) hf⟩
theorem RV{i j:Nat}(hN:X.N.Nodup)(hi:X.N[i]?=O x)(hx:HC X.env.scope x)(d:WE X e (XX K<|.inl j))(g:lV e=true:=by rfl)(hf:X.fn x=Ep\/X.env.scope.names.lookup x=O .local:=by first|exact .inl rfl|exact .inr rfl|assumption):WS X (.Assign [.Name x af] e pos) (cZ K<|Xj i j):=⟨HE<|Sv hN hi hx d.h (kH g) hf⟩
theorem GW{own:Oo}{j:Xq}{g:OY}{i:Nat}(hN:X.N.Nodup)(hy:X.N[i]?=O x)(hl:X.env.scope.names.lookup x=O .local)(k:X.calm=Ep)(S:MY X.env.scope X.N fr sc=Ep)(hi:WI X tg me (kJ K j))(l:∀C s H ex,WG (nZ X own fr sc C s H ex) tg<|MZ K g)
  (m:∀C s H ex,WIf (nZ X own fr sc C s H ex) jg<|rZ K tc) (q:∀C s H ex,WE (nZ X own fr sc C s H ex) fg<|lift K te) (v:fr.Nodup:=by decide) (w:nY me=true:=by rfl) (d:Xi (.ListComp fg [⟨tg,me,jg,0⟩] sc p) (O<|.Name x af) pos.line X.env=pure true:=by rfl) :
  WS X (.Assign [.Name x af] (.ListComp fg [⟨tg,me,jg,0⟩] sc p) pos) (cZ K<|tw i<|pY j own fr g tc te) :=
 ⟨qu v<|tD hN hy hl k (FG S) hi.h (λC s H ex=>(l C s H ex).h) (λC s H ex=>(m C s H ex).h) (λC s H ex=>(q C s H ex).h) d<|QV w⟩
theorem MD{j:Nat}(d:WE X e (lift K td))(g:WE X e1 (XX K<|.inl j))(hi:WE X e2 (XX K a))(i:Fm [.Subscript e1 e2 af] e pos.line X.env=pure false:=by rfl)(hw:Gm [.Subscript e1 e2 af] e X.env=pure none:=by rfl)
  (k:∀v,Li (.Subscript e1 e2 af) X.env v=(do
    let ov<-Zg [v] (Cf e1 X.env)
    let iv<-Zg [v,ov] (Cf e2 X.env)
    standAt af
    Zg [v,ov,iv] (setItem ov iv v)
    release [v,ov,iv] []):=by intro _;rfl) (l:(We [.Subscript e1 e2 af] X.env).map (·.2)=[Li (.Subscript e1 e2 af) X.env]:=by rfl):WS X (.Assign [.Subscript e1 e2 af] e pos) (cZ K<|Ez j a td):=⟨wS<|Rv d.h (cN g.h hi.h ny k) i hw l⟩
theorem LO{g:OY}(d:WE X e (lift K td))(i:WG X tg (MZ K g))(j:Fm [tg] e pos.line X.env=pure false:=by rfl)(hw:Gm [tg] e X.env=pure none:=by rfl)(k:(We [tg] X.env).map (·.2)=[Li tg X.env]:=by rfl):WS X (.Assign [tg] e pos) (cZ K<|ju g td):=⟨JE<|Rv d.h i.h j hw k⟩
end
section
variable {P:De}{w:Be}{K:Fg}{mg:Str->Do Cd}{base:Ke}
theorem aa{st:Xg}{ts:sW}(F:Fun K x qual st f fd)(S:FnScope N ps (SX st))(e:∀(b:Cd) (A:Eg) (outer:List Env) (s:Fd) (H:Hp) (E:XK),Room k (A.deeper<|Yh qual (SX st) s.heap.objs.size f b)->WSs (lF mJ P w K mg base N qual (SX st) f b A outer s H E).nox (PJ st) (cZ K ts))(hl:∀a c,zf a c->a.length=ps.length) (g:∀a c,zf a c->(∀s∈a,∀d,s≠.ow d)/\ts (yF a c) (NV N.length a)):FnOk P w K mg base mJ (k+1) f fd ps (QX K zf):=
 Vc F S (λb A outer s H E i=>(e b A outer s H E i).h) hl g
theorem IJ{x:Str}{st:Xg}{e:Oo}{k:Nat}{g:Con}{ts:sW}(F:Fun K x qual st f fd)(S:FnScope N e (SX st))
  (l:∀(i:Cd) (A:Eg) (outer:List Env) (s:Fd) (H:Hp) (E:XK),Room k (A.deeper<|Yh qual (SX st) s.heap.objs.size f i)->WSs (lF mJ P w K mg base N qual (SX st) f i A outer s H E).nox (PJ st) (cZ K ts))
  (m:∀b c,g b c->ts (yF b c) (NV N.length b)) (j:∀b c,g b c->b.length=e.length/\∀s∈b,∀d,s≠.ow d:=by intro a q h;repeat first|exact⟨rfl,mV rfl⟩|(obtain⟨rfl,_⟩:=h)|(obtain⟨_,h⟩:=h)):FnOk P w K mg base mJ (k+1) f fd e (QX K g):=aa F S l (λa q h=>(j a q h).1) λa q h=>⟨(j a q h).2,m a q h⟩
end
end L3
variable {ρ:L3.Ev}
namespace L2
theorem nH:Ph (.type "list") "keys"=pure none:=by rw[Vf,Re];kernel_rfl
theorem LZ:plainId "dict.update.loop"=true:=by decide +kernel
theorem RJ:Ll table "dict.update.loop"=O Builtin.«dict.update.loop»:=entryFor_of_tree (by kernel_rfl)
section
variable {w:Be}
theorem Iw{Q:Do Cd->Fd->Prop}(hx:s.heap.get? a=O o)(i:o.cls=.type "list")(j:o.data=.seq xs k)(hd:o.dict=U)(v:A.handled=U)(h:∀h' l,(∀b o,s.heap.get? b=O o->h'.get? b=O o)->Q U {s with heap:=h',toks:=l}):Ed (Md prog w) A (Zn (.ref a) "keys") Q E s:=by
 obtain⟨c,dct,x,y⟩:=o;simp only at i j hd;subst i j hd;obtain⟨B,g,d,l,os⟩:=s;have m:∀q,(⟨B,g,d,q,os⟩:Fd).TypeIs (.ref a) "list":=λ_=>⟨_,hx,Z⟩;have C:=sub_AttributeError;have G:=F.slot_list_getattribute.lookup;have L:=F.slot_list_getattribute.bind<|.ref a;have M:=am_list_getattr_none;unfold Zn getAttrBy? getAttrBy;repeat (any_goals (first|assumption|exact m _|((with_reducible show Ed _ _ (call (uX "list.__getattribute__") _ _) _ _ _);refine Gg F.slot_list_getattribute (m _) am_entry_list_getattribute (F.args_list_getattribute_2 _ _) (meets_getattribute_miss_list a xs k y "keys" _ nH (by decide +kernel)<|by decide +kernel) ⟨hx,v,λh' q e t=>?_⟩)|wp_step))
 obtain⟨t',P,R⟩:=t.there;show Ed _ _ (Fh _ _ _ _ _ _ _) _ _ _;unfold Fh;repeat (any_goals (first|assumption|wp_step))
 exact h _ _ t.keeps
end
section
variable {w:Be}{R:Nm->Fd->Prop}{wr:List Hd}{P:Nat->Cd->Prop}{St:Nat->Ke->Prop}
theorem xu(W:Walks prog w A.in1 I fp wr n P St)(d:Hd)(vp:d∉fp)(J:Nat->Ke->Prop)(ag:∀i h h',J i h->(∀b o,b∉wr->h.get? b=O o->h'.get? b=O o)->J i h')(step:∀(i:Nat) (v:Cd) (s:Fd) (Q:Unit->Fd->Prop) (E:Cd->Fd->Prop),i<n->P i v->J i s.heap ->(∀h' c,J (i+1) h'->S3 d s.heap h'->Q () {s with heap:=h',toks:=c}) -> ∃p x y,v=.ref p/\s.heap.IsTuple p #[x,y]/\Ed (Md prog w) A.in1 (Xm d x y) Q E s):∀(k i:Nat) (s:Fd) (G:Tok),n-i=k->i<=n->St i s.heap->J i s.heap -> (∀h' c,J n h'->(∀b o,b∉wr->b≠d->s.heap.get? b=O o->h'.get? b=O o)->R (.ok<|.ret .none) {s with heap:=h',toks:=c}) -> Ah (Md prog w) A (.builtin "dict.update.loop" ⟨[.ref d,.ref I,.int i G,.none],[]⟩) R s:=by
 intro k;induction k with
 |zero=>intro i s G C hi L M S;have fh:i=n:=n_ C hi;subst fh;refine Te RJ ?_;rw[Around.under_plainId LZ _];show Ed _ A.in1 (Bf (.ref I) >>= _) _ _ s;refine Ad<|W.done s _ _ L λh' c l=>?_;show Ed _ _ (gQ d [] >>= _) _ _ _;exact Ad<|Bd<|Bd<|S h' c (ag _ _ _ M l) λb o a _ e=>l b o a e
 |succ k ih =>
  intro i s G C hi L M S;have ge:i<n:=YQ C;refine Te RJ ?_;rw[Around.under_plainId LZ _];show Ed _ A.in1 (Bf (.ref I) >>= _) _ _ s;refine Ad<|W.item i s _ _ ge L λv h' c hP xt l=>?_;have Y:=ag _ _ _ M l;obtain⟨p,x,y,rfl,⟨ob,ho,hc,m,hd⟩,hw⟩:=step i v {s with heap:=h',toks:=c} (λ_ jl=>∃g t,jl={s with heap:=g,toks:=t}/\J (i+1) g/\S3 d h' g) (λ_ _=>Fo) ge hP Y λg t j F=>⟨g,t,Z,j,F⟩;show Ed _ A.in1 (Zg [.ref p] _ >>= _) _ _ _;refine Ad<|Ce ?_;refine Ad<|wpAny_tryCatch ?_;unfold HQ;refine Ad<|Xf (T:="tuple") ⟨_,ho,hc⟩ ?_;rw[Jd<|by decide];refine Ad<|Pe ho hd<|Bd ?_;show Ed _ A.in1 (Zg [x,y]<|Xm d x y) _ _ _;refine Ce<|wpAny_mono hw (λ_ jl z=>?_) λ_ _ z=>z.elim;obtain⟨g,t,rfl,j,F⟩:=z;refine Bd ⟨Ag LZ _,?_⟩;exact ih (i+1) {s with heap:=g,toks:=t} 0 (o_ C) ge (W.frame _ _ _ xt λb hb o e=>(F.2 b λq=>vp<|q ▸ hb).trans e) j λh3 tk3 j3 k3=>S h3 tk3 j3 λb o a B e=>k3 b o a B<|(F.2 b B).trans<|l b o a e
end
section
variable {w:Be}
theorem wU(J:Nat->Ke->Prop)(hh:A.handled=U)(hx:s.heap.get? a=O o) (G:o.cls=.type "list") (R:o.data=.seq L k) (hd:o.dict=U)(h0:∀h',(∀b c,s.heap.get? b=O c->h'.get? b=O c)->h'.get? s.heap.objs.size=O {cls:=.type "dict",data:=.dict #[]}->J 0 h')(ag:∀i h h',J i h->(∀b c,b<s.heap.objs.size+1->h.get? b=O c->h'.get? b=O c)->J i h')(step:∀(i:Nat) (v:Cd) (s':Fd) (M:Unit->Fd->Prop) (S:Cd->Fd->Prop),L[i]?=O v->J i s'.heap->(∀b c,s.heap.get? b=O c->s'.heap.get? b=O c) ->(∀h' l,J (i+1) h'->S3 s.heap.objs.size s'.heap h'->M () {s' with heap:=h',toks:=l}) -> ∃p x y,v=.ref p/\s'.heap.IsTuple p #[x,y]/\Ed (Md prog w) A.in1.in1 (Xm s.heap.objs.size x y) M S s')(h:∀h' l,J L.size h'->(∀b c,s.heap.get? b=O c->h'.get? b=O c)->Q (.ref s.heap.objs.size) {s with heap:=h',toks:=l}):Ed (Md prog w) A (call (.type "dict") [.ref a]) Q E s:=by
 refine callType_codes (Q₁:=λobj d=>obj=.ref s.heap.objs.size/\d={s with heap:=s.heap.push {cls:=.type "dict",data:=.dict #[]}}) F.kt_called_dict (F.kt_typeCall_dict_1 _) F.entry_dict_init (kt_code_dict_new _ ⟨Z,Z⟩) ?_;rintro obj d ⟨rfl,rfl⟩;have P:(s.heap.push {cls:=.type "dict",data:=.dict #[]}).get? s.heap.objs.size=O {cls:=.type "dict",data:=.dict #[]}:=O0 _ Z;have m:∀b c,s.heap.get? b=O c->(s.heap.push {cls:=.type "dict",data:=.dict #[]}).get? b=O c:=λb c e=>j0 _ e;refine⟨⟨_,P,Z⟩,F.args_dict_init_2 _ _,?_⟩;unfold Builtin.«dict.__init__»;refine Ad ?_;unfold iQ;refine Ad<|Nh ⟨_,P,Z⟩ ?_;show Ed _ _ (pure (s.heap.objs.size,[T2 a])) _ _ _;refine Bd ?_;show Ed _ _ (M7 "dict.__init__" s.heap.objs.size (.ref a) [] .none) _ _ _;unfold M7;refine Ad<|Xf (T:="list") ⟨_,m _ _ hx,G⟩ ?_;rw[Jd<|by decide];refine Ad<|Iw (m _ _ hx) G R hd hh λB Y t=>?_;simp only[zX,if_true];refine Ad<|Ve ?_;refine Ad<|Pg (s:={s with heap:=B,toks:=Y}) ⟨_,t _ _<|m _ _ hx,G,k,R⟩ ?_;have ge:s.heap.objs.size<B.objs.size:=Q0<|t _ _ P;have g:a<s.heap.objs.size:=Q0 hx;have hnf:s.heap.objs.size∉[B.objs.size,a]:=λC=>by
  rcases R0.mp C with q|q
  .exact X0 ge q
  .exact G4 g (T1.mp q)
 refine Bd ⟨Ag LZ _,xu (Walks.list (A:=A.in1.in1) hh B.objs.size a (X0<|J8 g ge) L) s.heap.objs.size hnf (λi h'=>J i h'/\∀b c,s.heap.get? b=O c->h'.get? b=O c) ?_ ?_ L.size 0 _ 0 Z (v4 _) ?_ ?_ ?_⟩
 .rintro i hp vm ⟨j,kk⟩ kp;refine⟨ag _ _ _ j λb c hb e=>kp b c (λC=>X0 (L1 (u5 hb) ge)<|T1.mp C) e,λb c e=>kp b c ?_<|kk b c e⟩;exact λC=>X0 (J8 (Q0 e) ge)<|T1.mp C
 .rintro i v s' M S hi hP ⟨j,kk⟩ hq;refine step i v s' M S hP j kk λh' l j' sb=>hq h' l ⟨j',λb c e=>(sb.2 b ?_).trans<|kk b c e⟩ sb;exact X0<|Q0 e
 .exact⟨⟨_,O0 _ Z,Z,Z⟩,⟨_,j0 _<|t _ _<|m _ _ hx,G,k,R⟩⟩
 .exact⟨ag _ _ _ (h0 B (λb c e=>t b c<|m b c e)<|t _ _ P) λb c _ e=>j0 _ e,λb c e=>j0 _<|t b c<|m b c e⟩
 .rintro h' l ⟨j,kk⟩ _;exact⟨Z,h h' l j kk⟩
end
theorem Vals.getV:∀{a:List V}{us:Et}{i:Nat}{u:Cd},Vals a us->us[i]?=O u->∃x,a[i]?=O x/\RelV x u
 |_,_,0,_,.cons r _,e=>⟨_,Z,by cases e;exact r⟩
 |_,_,i+1,_,.cons _ t,e=>Vals.getV (i:=i) t e
abbrev HW(h:Ke)(z TI TO T:Hd)(fl:Bool):Prop:=h.get? z=O {cls:=.type "zip",dict:=U,data:=.fields #[He T,.bool fl,.bool Er,.ref TI,.ref TO],slots:=#[]}
section
variable {w:Be}
theorem LS{Q:Do Obj->Fd->Prop}(b:s.heap.get? a=O o)(h:Q (O o) s):Ed (Md prog w) A (loadIfAlive a) Q E s:=λΓ p _=>by show Sem.wp _ Γ (.loadIfAlive a λx=>.pure x) _ _ p s;rw[Sem.wp_loadIfAlive,b];exact h
theorem fx{TI TO:Hd}{Q:Bool->Fd->Prop}(d:HW s.heap z TI TO T fl)(e:s.heap.get? T=O ot)(h:∀a,HW a z TI TO T Ep->S3 z s.heap a->Q Er {s with heap:=a}):Ed (Md prog w) A (M4<|.ref z) Q E s:=by
 unfold M4;refine Ad<|Ie d Z (x:=He T) Z ?_;show Ed _ _ (loadIfAlive T >>= _) _ _ _;refine Ad<|LS e ?_;rw[Gd<|show ¬((O ot).isNone=Ep) from P1];refine Ad<|Ie d Z (x:=.bool fl) Z ?_;cases fl with
 |true=>rw[Gd<|by decide];exact Bd<|h s.heap d ⟨Z,λ_ _=>rfl⟩
 |false=>rw[Jd<|by decide];exact Ad<|Oe d (by simp) λa b c=>Bd<|h a b c
theorem Nz{TI TO:Hd}(D:ZAp2 z TI TO i1 i2 l1 l2)(i:HW s.heap z TI TO T fl) (q:DJ s.heap TI (.ref i1) (.ref i2)) (t:s.heap.get? T=O ot)(y:ItAt k1 s.heap i1 l1 k) (B:ItAt k2 s.heap i2 l2 k) (C:SqAt k1 s.heap l1 xs1) (F:SqAt k2 s.heap l2 xs2) (G:xs1[k]?=O x1) (L:xs2[k]?=O x2)(M:∀h',HW h' z TI TO T Ep->ItAt k1 h' i1 l1 (k+1)->ItAt k2 h' i2 l2 (k+1)->DJ h' s.heap.objs.size x1 x2->h'.objs.size=s.heap.objs.size+1 ->(∀c o,c≠z->c≠i1->c≠i2->s.heap.get? c=O o->h'.get? c=O o)->Q (.ref s.heap.objs.size) {s with heap:=h'}):Ed (Md prog w) A (Builtin.«zip.__next__» ⟨[.ref z],[]⟩) (λfin s'=>∃v,fin=.done (.ret v)/\Q v s') E s:=by
 show Ed _ _ (Vm (.ref z) 2 >>= _) _ _ _;refine Ad<|Ie i Z (x:=.bool Er) Z ?_;show Ed _ _ (Vm (.ref z) 3 >>= _) _ _ _;refine Ad<|Ie i Z (x:=.ref TI) Z ?_;refine Ad<|Pe q Z ?_;show Ed _ _ (M4 (.ref z) >>= _) _ _ _;refine Ad<|fx i t λm b a=>?_;simp only[J3,if_false];rw[AX];simp only[OQ,fX];refine Ad<|Ad<|Ad<|Ce ?_;show Ed _ _ (Z2 (.ref i1) >>= _) _ _ _;refine Ad<|GK (y.at λo e=>a.extBut _ o D.i1z e) (C.at λo e=>a.extBut _ o D.l1z e) G λY hi1 d=>Bd<|Bd ?_;refine Ad<|Ad<|Ce ?_;show Ed _ _ (Z2 (.ref i2) >>= _) _ _ _;refine Ad<|GK ((B.at λo e=>a.extBut _ o D.i2z e).at λo e=>d.extBut _ o D.i2i1 e) ((F.at λo e=>a.extBut _ o D.l2z e).at λo e=>d.extBut _ o D.l2i1 e) L λj hi2 g=>Bd<|Bd<|Bd ?_;refine Ad<|Bi (hsz:=by show 2<=sizeLine;decide) ?_;have hsz:j.objs.size=s.heap.objs.size:=by rw[g.1,d.1,a.1]
 have l:HW j z TI TO T true:=g.extBut _ _ D.i2z.symm<|d.extBut _ _ D.i1z.symm b;refine Bd ⟨_,Z,?_⟩;show Q (.ref j.objs.size) _;rw[hsz];refine M _ (j0 _ l) ((hi1.at λo e=>g.extBut _ o D.i2i1.symm e).at λo e=>j0 _ e) (hi2.at λo e=>j0 _ e) ?_ ?_ λc o P R S e=>j0 _<|g.extBut _ _ S<|d.extBut _ _ R<|a.extBut _ _ P e
 .rw[<-hsz];exact O0 _ Z
 .rw[Z1,hsz]
theorem eG{TI TO:Hd}{Q:Fin->Fd->Prop}(v:A.handled=U)(D:ZAp2 z TI TO i1 i2 l1 l2)(d:HW s.heap z TI TO T fl) (L:DJ s.heap TI (.ref i1) (.ref i2)) (M:s.heap.get? T=O ot)(y:ItAt k1 s.heap i1 l1 k) (P:ItAt k2 s.heap i2 l2 k) (B:SqAt k1 s.heap l1 xs1) (R:SqAt k2 s.heap l2 xs2) (S:xs1[k]?=U\/xs2[k]?=U)(C:∀h' e,(∀c o,c≠z->c≠i1->c≠i2->s.heap.get? c=O o->h'.get? c=O o)->(∃o,h'.get? e=O o/\o.cls=.type "StopIteration")->E (.ref e) {s with heap:=h'}):Ed (Md prog w) A (Builtin.«zip.__next__» ⟨[.ref z],[]⟩) Q E s:=by
 show Ed _ _ (Vm (.ref z) 2 >>= _) _ _ _;refine Ad<|Ie d Z (x:=.bool Er) Z ?_;show Ed _ _ (Vm (.ref z) 3 >>= _) _ _ _;refine Ad<|Ie d Z (x:=.ref TI) Z ?_;refine Ad<|Pe L Z ?_;show Ed _ _ (M4 (.ref z) >>= _) _ _ _;refine Ad<|fx d M λF g a=>?_;simp only[J3,if_false];rw[AX];simp only[OQ,fX];refine Ad<|Ad<|Ad<|Ce ?_;show Ed _ _ (Z2 (.ref i1) >>= _) _ _ _;cases i:xs1[k]? with
 |none=>exact Ad<|AW v (y.at λo e=>a.extBut _ o D.i1z e) (B.at λo e=>a.extBut _ o D.l1z e) i λj e b l=>C j e (λc o m q G x=>b _ _ q<|a.extBut _ _ m x) l
 |some x1 =>
  have Y:xs2[k]?=none:=by
   rcases S with h|h
   .rw[i]at h;cases h
   .exact h
  refine Ad<|GK (y.at λo e=>a.extBut _ o D.i1z e) (B.at λo e=>a.extBut _ o D.l1z e) i λzg hi1 t=>Bd<|Bd ?_;refine Ad<|Ad<|Ce ?_;show Ed _ _ (Z2 (.ref i2) >>= _) _ _ _;exact Ad<|AW v ((P.at λo e=>a.extBut _ o D.i2z e).at λo e=>t.extBut _ o D.i2i1 e) ((R.at λo e=>a.extBut _ o D.l2z e).at λo e=>t.extBut _ o D.l2i1 e) Y λj e b l=>C j e (λc o m q G x=>b _ _ G<|t.extBut _ _ q<|a.extBut _ _ m x) l
end
section
variable {w:Be}
def ZSt(h:Ke)(z TI TO S i1 i2 l1 l2:Hd)(a b:Kd)(i:Nat):Prop :=
 DJ h TI (.ref i1) (.ref i2)/\ItAt a h i1 l1 i/\ItAt b h i2 l2 i /\
  ((Rh h z TI TO .none/\∃c d,DJ h TO c d)\/∃T fl ot,HW h z TI TO T fl/\h.get? T=O ot/\T≠z/\T≠i1/\T≠i2/\T≠S)
theorem Oz{TI TO S:Hd}{Q:Do Cd->Fd->Prop}(D:ZAp2 z TI TO i1 i2 l1 l2)(hS:S<s.heap.objs.size)(st:ZSt s.heap z TI TO S i1 i2 l1 l2 k1 k2 k) (C:SqAt k1 s.heap l1 xs1) (G:SqAt k2 s.heap l2 xs2) (L:xs1[k]?=O x1) (M:xs2[k]?=O x2)(P:∀h',ZSt h' z TI TO S i1 i2 l1 l2 k1 k2 (k+1)->DJ h' s.heap.objs.size x1 x2->h'.objs.size=s.heap.objs.size+1 ->(∀c o,c≠z->c≠TO->c≠i1->c≠i2->s.heap.get? c=O o->h'.get? c=O o)->Q (O<|.ref s.heap.objs.size) {s with heap:=h'}):Ed (Md prog w) A (Bf<|.ref z) Q E s:=by
 obtain⟨i,l,m,a⟩:=st;have q:∀{b:Hd}{o:Obj},s.heap.get? b=O o->s.heap.objs.size≠b:=λe=>G4<|Q0 e;obtain⟨o1,g1,_⟩:=l.obj;obtain⟨o2,g2,_⟩:=m.obj;rcases a with⟨a,a1,a2,rg⟩|⟨T,fl,ot,a,R,Y,t2,t3,t4⟩
 .refine ZU D a i rg l m C G L M λh' t b2 x y j B d=>P h' ⟨d TI _ D.TIz (L5 D.TOTI) (L5 D.i1TI) (L5 D.i2TI) i,x,y,.inr ⟨s.heap.objs.size,Er,_,t,j,q a,q g1,q g2,G4 hS⟩⟩ j B d
 .have g:s.TypeIs (.ref z) "zip":=⟨_,a,Z⟩;unfold Bf;exact Ad<|Gf<|Yd (name:=Str.ofString "__next__") g F.slot_zip_next
    (wpAny_call_entry F.slot_zip_next g F.entry_zip_next (wpAny_mono (Nz (Q:=λv s'=>Q (O v) s') D a i R l m C G L M λh' t x y j B d=>P h' ⟨d TI _ D.TIz (L5 D.i1TI) (L5 D.i2TI) i,x,y,.inr ⟨T,Ep,ot,t,d T _ Y t2 t3 R,Y,t2,t3,t4⟩⟩ j B λc o d1 _ d3 d4 e=>d c o d1 d3 d4 e) (λfin s' z=>by obtain⟨v,rfl,z⟩:=z;exact⟨_,Z,Bd z⟩) λ_ _ z=>z)<|F.args_zip_next_1 _)
theorem fG{TI TO:Hd}{Q:Do Cd->Fd->Prop}(g:A.handled=U)(D:ZAp2 z TI TO i1 i2 l1 l2)(st:ZSt s.heap z TI TO S i1 i2 l1 l2 k1 k2 k) (i:SqAt k1 s.heap l1 xs1) (j:SqAt k2 s.heap l2 xs2) (l:xs1[k]?=U\/xs2[k]?=U)(m:∀h',(∀c o,c≠z->c≠TO->c≠i1->c≠i2->s.heap.get? c=O o->h'.get? c=O o)->Q U {s with heap:=h'}):Ed (Md prog w) A (Bf<|.ref z) Q E s:=by
 obtain⟨q,t,v,a⟩:=st;rcases a with⟨a,Y,a2,x⟩|⟨T,fl,ot,a,y,t1,t2,t3,t4⟩
 .exact aG g D a q x t v i j l m
 .have d:s.TypeIs (.ref z) "zip":=⟨_,a,Z⟩;unfold Bf;refine Ad<|Gf<|Yd (name:=Str.ofString "__next__") d F.slot_zip_next
    (wpAny_call_entry F.slot_zip_next d F.entry_zip_next (eG g D a q y t v i j l λh' e B C=>?_)<|F.args_zip_next_1 _);obtain⟨o,G,L⟩:=C;refine Ad<|Ye (T:="StopIteration") (b:=Ep) ⟨o,G,L⟩ Ih ?_;exact Bd<|m _ λc o M _ P R e=>B c o M P R e
theorem ZSt.keep{TI TO:Hd}(x:ZSt h z TI TO S i1 i2 l1 l2 k1 k2 i)(a:∀b o,b≠S->h.get? b=O o->h'.get? b=O o)(d:z≠S)(j:TI≠S)(k:TO≠S)(l:i1≠S)(m:i2≠S):ZSt h' z TI TO S i1 i2 l1 l2 k1 k2 i:=by
 obtain⟨q,t,v,c⟩:=x;refine⟨a _ _ j q,t.at λo e=>a _ _ l e,v.at λo e=>a _ _ m e,?_⟩;rcases c with⟨c,y,B,C⟩|⟨T,fl,ot,c,F,G,L,M,g⟩
 .exact .inl ⟨a _ _ d c,y,B,a _ _ k C⟩
 .exact .inr ⟨T,fl,ot,a _ _ d c,a _ _ g F,G,L,M,g⟩
end
structure ZG(xs1 xs2:Eo Cd)(lo:Hd)(h:Ke)(as:List Hd):Prop where
 rise:as.Pairwise (· < ·)
 above:∀a∈as,lo<a
 pairs:∀(j:Nat) (a:Hd),as[j]?=O a->∃x y,xs1[j]?=O x/\xs2[j]?=O y/\DJ h a x y
section
variable {w:Be}{R:Nm->Fd->Prop}
end
end L2
namespace L3
open L2
theorem BF(a:Room k A):A.units+2<Ze:=L1 (U0 (by decide:2<=64) _) a.units
noncomputable def ba:D->Do (List D)
 | .list a=>O a
 | .tuple a=>O a
 |_=>U
section
variable {K:Fg}{F:Hp}
theorem At.seq(s:Sub F H)(h:At K F H v d)(e:ba d=O ds):∃k a b,v=.ref a/\Sq k K H a b/\DaAll K F b ds:=by
 cases d<;>first|cases e|skip
 .obtain⟨a,b,rfl,c,g⟩:=h.list s;exact⟨.l,a,b,Z,SqL.of c,g⟩
 .obtain⟨a,b,rfl,_,c,g⟩:=h.tuple s;exact⟨.t,a,b,Z,SqT.of c,g⟩
end
section
variable {K:Fg}{e e1 e2:Ge}{a b:AD}{p pos af p2:Pos}
end
mutual
theorem Pz:∀d:D,vJ d=Ep->SeqAt.noMix d d=Ep
 | .none,_=>by simp[SeqAt.noMix]
 | .bool _,_=>by simp[SeqAt.noMix]
 | .int _,_=>by simp[SeqAt.noMix]
 | .str _,_=>by simp[SeqAt.noMix]
 | .list a,h=>by simp[SeqAt.noMix];exact noMixAll_self a (by simpa [vJ]using h)
 | .tuple a,h=>by simp[SeqAt.noMix];exact noMixAll_self a (by simpa [vJ]using h)
 | .dict _,h=>by simp[vJ]at h
theorem noMixAll_self:∀a:List D,plainAll a=Ep->SeqAt.noMixAll a a=Ep
 |[],_=>by simp[SeqAt.noMixAll]
 |x::a,h=>by simp[plainAll]at h;simp[SeqAt.noMixAll];exact⟨Pz x h.1,noMixAll_self a h.2⟩
end
structure Nice(n:Nat)(d:D):Prop where
 p:vJ d=Ep
 c:d.canLay0=Ep
 d:d.depth<=n
theorem Nice.mono{d:D}(h:Nice n d)(k:n<=m):Nice m d:=⟨h.p,h.c,K0 h.d k⟩
theorem Nice.int(n:Nat)(i:Int):Nice n (.int i):=⟨Z,by simp[N9],by simp[CQ]⟩
theorem Nice.bool(n:Nat)(i:Bool):Nice n (.bool i):=⟨Z,by simp[N9],by simp[CQ]⟩
theorem oH{n:Nat}:∀{l:List D},(∀d∈l,Nice n d)->plainAll l=Ep/\Z9 l=Ep/\QQ l<=n
 |[],_=>⟨Z,by simp[Z9],by simp[QQ]⟩
 |x::l,h=>by
  have a:=h x G0;have b:=oH (l:=l) λd hd=>h d<|q0 _ hd;refine⟨by simp[plainAll,a.p,b.1],by simp[Z9,a.c,b.2.1],?_⟩;have:=a.d;have:=b.2.2;simp[QQ]
  lia
theorem Nice.list{l:List D}(h:∀d∈l,Nice n d):Nice (n+1) (.list l):=by obtain⟨a,b,c⟩:=oH h;exact⟨by simp[vJ,a],by simp[N9,b],by simp[CQ];omega⟩
theorem Nice.tuple{l:List D}(h:∀d∈l,Nice n d):Nice (n+1) (.tuple l):=by obtain⟨a,b,c⟩:=oH h;exact⟨by simp[vJ,a],by simp[N9,b],by simp[CQ];omega⟩
theorem Nice.ints(l:Qo):Nice 1 (.list<|l.map n0):=.list λd hd=>by obtain⟨i,_,rfl⟩:=v0.mp hd;exact .int 0 i
theorem Nice.tup(l:Qo):Nice 1 (.tuple<|l.map n0):=.tuple λd hd=>by obtain⟨i,_,rfl⟩:=v0.mp hd;exact .int 0 i
theorem Nice.sh{d:D}(h:Nice n d)(k:n<=64):SeqAt.shaped d=true:=by have:=h.d;unfold SeqAt.shaped;rw[h.c];simp;exact K0 this k
end L3
namespace L2
def gx(K:M0):List V->Hp->VK->Prop:=λb H Q=>∃(x:V) (k:Ki) (T:Ki),b=[x,.ty T.nm]/\(KiOf K H x k\/∃a,x=.ref a/\k=.dct/\C_ H a)/\Q (.bl<|k.sub T) H
theorem Jw:VZ X (.builtin "isinstance") (gx X.K):=by
 intro ae s σ H m us Q I r h;obtain⟨x,k,T,rfl,c,q⟩:=h;rcases c with c|⟨a,rfl,rfl,hd⟩
 .exact rD ae s σ H _ us Q I r ⟨x,k,T,Z,c,q⟩
 .obtain⟨u,e,rfl,g,i⟩:=zY r;obtain rfl:e=.type T.nm:=i;cases g;have d:s.TypeIs (.ref a) Ki.dct.nm:=(AN I hd).1;cases b:Ki.dct.sub T with
  |true=>rw[b]at q;exact Ue (isinstance_true (Tx:=Ki.dct.nm) (iK T)<|by rw[rF,b]) ⟨d,.bl Ep,H,I,Z,q⟩
  |false =>
   rw[b]at q;have j:Fn (.type Ki.dct.nm) (.type T.nm)=pure false:=by rw[rF,b]
   have l:=ML Ki.dct T b;have fin:EP X ae σ Q (.bool Er) {s with toks:=s.toks+1}:=⟨.bl Er,H,I.tok _,Z,q⟩;exact Ue (Kl l (iK T) j) ⟨d,fin⟩
inductive PrsT (H:Hp):List (V×V)->List (List dY×V)->Prop
 |nil:PrsT H [] []
 |cons {b ks v ps se}:H b=O (.tup<|ks.map kV)->PrsT H ps se->PrsT H ((.ref b,v)::ps) ((ks,v)::se)
section
variable {a:Hd}
end
end L2
namespace L3
open L2
noncomputable def qY:List (D×D)->Bool
 |(.none,_)::_=>Er
 |(.bool _,_)::_=>Er
 |_=>Ep
noncomputable def MO:sW:=λ_ _=>Fo
noncomputable def SL(T:Ki):D->(Sl->Prop)->Prop
 | .dict a,Q=>qY a=Ep/\Q (.fz<|.bool<|Ki.dct.sub T)
 |d,Q=>Q<|.fz<|.bool<|(ub d).sub T
theorem At.isD{K:Fg}{d:List (D×D)}(s:Sub F H)(h:At K F H v (.dict d))(b:qY d=Ep):∃a,v=.ref a/\C_ H a:=by
 rcases h with h|⟨a,o,rfl,_,e,h⟩
 .cases h with
  |dk r t=>exact⟨_,Z,.inl ⟨_,s.rd r⟩⟩
  |dt r t=>exact⟨_,Z,.inr ⟨_,s.rd r⟩⟩
  |scr q=>simp[qY]at b
  |exc q=>simp[qY]at b
  |opq q=>simp[qY]at b
  |pd q t=>simp[qY]at b
  |bd q t=>simp[qY]at b
 .cases o with
  |ext g=>obtain⟨i,j,k,l,z,c,t⟩:=h.ext;injection c with c;rw[c]at b;simp[qY]at b
  |_=>first|exact h.elim|exact⟨_,rfl,.inl ⟨_,.inl e⟩⟩|exact⟨_,rfl,.inr ⟨_,.inl e⟩⟩
theorem cI{K:Fg}{T:Ki}:JZ K (λj H Q=>∃x,j=[x]/\gx K [x,.ty T.nm] H Q) (o1<|SL T):=GD λG F σ H ρ x d Q l R c w k=>by
 have go:∀(e:Ki),KiOf K H x e->l (.fz<|.bool<|e.sub T)->∃g,[x]=[g]/\gx K [g,.ty T.nm] H Q:=λe h w=>⟨x,Z,x,e,T,Z,.inl h,k _ H F (.fz _) (Sub.refl _) R (Da.bl _) w⟩;cases d<;>first|exact w.elim|skip
 case none=>cases c.none;exact go .non rfl w
 case bool b=>cases c.bool;exact go .bl rfl w
 case int i=>cases c.int;exact go .int rfl w
 case str z=>cases c.str;exact go .str rfl w
 case list m=>obtain⟨a,us,rfl,e1,d1⟩:=c.list R.sub;exact go .lst (.inl ⟨Z,us,SqL.of e1⟩) w
 case tuple m=>obtain⟨a,us,rfl,_,e1,d1⟩:=c.tuple R.sub;exact go .tup (.inr<|.inl ⟨Z,us,SqT.of e1⟩) w
 case dict q=>obtain⟨a,rfl,hd⟩:=c.isD R.sub w.1;exact⟨_,Z,_,.dct,T,Z,.inr ⟨a,Z,Z,hd⟩,k _ H F (.fz _) (Sub.refl _) R (Da.bl _) w.2⟩
def TL(K:Fg):R2:=λx y H Q=>∃j,y=.int j/\rN K x U (O j) H Q
def UL(K:Fg):R2:=λx y H Q=>∃j,y=.int j/\rN K x (O j) U H Q
noncomputable def VL:D->D->(Sl->Prop)->Prop
 | .tuple a,.int j,Q=>(if j<0 then 1<=a.length else j<a.length)/\Q (.fz<|.tuple<|a.take<|if j<0 then (j+a.length).toNat else j.toNat)
 |_,_,_=>Fo
noncomputable def WL:D->D->(Sl->Prop)->Prop
 | .tuple a,.int j,Q=>0<j/\1<=a.length/\Q (.fz<|.tuple<|a.drop j.toNat)
 |_,_,_=>Fo
theorem dI{K:Fg}:JZ K (OV<|TL K) (o2 VL):=Cw λG F σ H ρ x y d e Q M R l m w k=>by
 cases d<;>first|exact w.elim|skip
 rename_i b;cases e<;>first|exact w.elim|skip
 rename_i j;cases m.int;obtain⟨a,us,rfl,P,q,c⟩:=l.tuple R.sub;have hl:=c.length;have g:HT.sIx us.length us.length (O j)=if j<0 then (j+b.length).toNat else j.toNat:=by show (if j<0 then (j+(us.length:Int)).toNat else min j.toNat us.length)=_;have:=w.1;split at this<;>split<;>lia
 refine⟨j,Z,a,us,Z,SqT.of q,λz=>?_,λp t=>?_⟩
 .have i:=z.2;rw[g]at i;have:=w.1;split at this<;>split at i<;>lia
 .have v:HY us U (O j)=us.take (if j<0 then (j+b.length).toNat else j.toNat):=by
   unfold HY;rw[g];rfl
  rw[v];obtain⟨B,C,L⟩:=R.newTup t<|c.take<|if j<0 then (j+b.length).toNat else j.toNat;exact k _ _ _ (.fz _) B C L w.2
theorem eI{K:Fg}:JZ K (OV<|UL K) (o2 WL):=Cw λG F σ H ρ x y d e Q P R g i w k=>by
 cases d<;>first|exact w.elim|skip
 rename_i S;cases e<;>first|exact w.elim|skip
 rename_i j;cases i.int;obtain⟨a,us,rfl,Y,l,b⟩:=g.tuple R.sub;have hl:=b.length;obtain⟨m,w2,q⟩:=w;have c:HT.sIx us.length 0 (O j)=min j.toNat us.length:=by show (if j<0 then (j+(us.length:Int)).toNat else min j.toNat us.length)=_;rw[Gd<|J6<|X1 m]
 refine⟨j,Z,a,us,Z,SqT.of l,λz=>?_,λp t=>?_⟩
 .have v:=z.1;rw[c]at v
  lia
 .have B:HY us (O j) U=us.drop j.toNat:=by
   unfold HY;rw[c];show (us.drop<|min j.toNat us.length).take (us.length-min j.toNat us.length)=_;rw[K3<|by rw[J5];exact V0 Z];by_cases h:j.toNat<=us.length
   .rw[E5 h]
   .rw[K4<|T5 (Y0<|e7 h)<|le_of_eq_of_le hl<|V0 hl.symm,K4<|Y0<|e7 h]
  rw[B];obtain⟨C,L,M⟩:=R.newTup t<|b.drop j.toNat;exact k _ _ _ (.fz _) C L M q
section
variable {K:Fg}{e e1 e2:Ge}{a b:AD}{ta tb:TD}{st:Xg}{p pos p2 af px py pt:Pos}{x y:Str}
theorem iI:WS X st (cZ K MO):=⟨λae s σ H D I h=>by obtain⟨G,F,ρ,E,R,w,_⟩:=h;exact w.elim⟩
theorem TY(T:Ki)(i:X.K=K)(j:X.mg "isinstance"=U){y:Str}(k:X.mg y=U)(c:Se y=O (.type T.nm))(l:WE X e1 (XX K a))(m:Gl X "isinstance":=by rfl)(t:Gl X y:=by rfl)(hy:y ≠ "__name__":=by decide)(d:(y==("__debug__":Str))=false:=by decide)(g:oZ e1=true:=by rfl) :
  WE X (.Call (.Name "isinstance" p) [e1,.Name y p2] [] pos) (lift K<|CY [a]<|o1<|SL T):=by
 subst i;exact⟨gU (XW Jw m j boot_isinstance (FK l.h (FK (Mj t k c (v:=.ty T.nm) Z hy d) FV<|YX Z)<|YX g) (by decide) (by decide) (YX g)<|KZ Z) λq=>vz (P:=λx w=>gx X.K [x,.ty T.nm] w _)<|aV cI q⟩
theorem yu(c:X.K=K)(d:WE X e1 (XX K a))(g:WE X e2 (XX K b)):WE X (.Subscript e1 (.Slice U (O e2) U p2) pos) (lift K<|CY [a,b]<|o2 VL):=by subst c;exact⟨gU (GY nz d.h AU<|kW g.h) λq=>wD (P:=λx y H=>TL X.K x y H _)<|aV dI q⟩
theorem zu(c:X.K=K)(d:WE X e1 (XX K a))(g:WE X e2 (XX K b)):WE X (.Subscript e1 (.Slice (O e2) U U p2) pos) (lift K<|CY [a,b]<|o2 WL):=by subst c;exact⟨gU (GY nz d.h (kW g.h) AU) λq=>wD (P:=λx y H=>UL X.K x y H _)<|aV eI q⟩
end
end L3
namespace L2
noncomputable def MS:V->Int
 | .int i=>i
 |_=>0
theorem UY(l:Qo):(l.map V.int).map MS=l:=by rw[A0];exact B8 l
theorem Au{m:Qo}(e:l.map V.int=m.map V.int):l=m:=by rw[<-UY l,<-UY m,e]
noncomputable def vd(H:Hp)(p:Qo)(y:Cd):Bool:=@Es (∃c,y=.ref c/\H c=O (.tup<|p.map V.int))<|Classical.propDecidable _
theorem jU{ns:Qo}(r:Vals (ns.map V.int) us){k:Nat}(h:k<us.length):∃t,us[k]=.int (ns.getD k 0) t:=by have hl:=r.length;rw[l0]at hl;have b:k<ns.length:=u0 h<|V0 hl.symm;obtain⟨u,a,c⟩:=r.get (i:=k) (x:=.int ns[k]) (by rw[Z0,L0 b];rfl);obtain⟨t,e⟩:=c;rw[L0 h]at a;have a:=O2 a;refine⟨t,?_⟩;rw[a,e,G1,L0 b];rfl
end L2
namespace L3
open L2
theorem DaAll.ints_of{K:Fg}{p:Qo}(h:DaAll K F ys (p.map n0)):ys=p.map V.int:=by
 have e:p.map n0=(p.map λn=>(.inl n:dY)).map Gy:=by rw[A0];rfl
 rw[e]at h;have:=h.keys;rw[this,A0];rfl
end L3
namespace L2
theorem nV:∀{a:Et}{ns:Qo},Qe a ns->Vals (ns.map V.int) a
 |_,_,.nil=>.nil
 |_,_,.cons n t r=>.cons ⟨t,Z⟩<|nV r
end L2
namespace L3
open L2
end L3
namespace L2
section
variable {w:Be}
theorem Bu(m:A.handled=U)(d:s.heap.IsTuple l (Jf a))(q:0<a.size)(h:∀v h' g,(Jf a)[argBest (λi j=>decide<|Qi a i<Qi a j)<|a.size-1]?=O v->(∀b o,s.heap.get? b=O o->h'.get? b=O o)->Q v {s with heap:=h',toks:=g}):Ed (Md prog w) A (call (.builtin "min") [.ref l]) Q E s:=by
 obtain⟨o,k,B,n,hd⟩:=id d;have t:l≠s.heap.objs.size:=X0<|Q0 k;refine call_min_walk<|Dh d ?_;refine⟨s.heap.objs.size,_,_,_,_,_,_,Z,Walks.tuple (A:=A.in1) m _ l t<|Jf a,⟨⟨_,O0 _ Z,Z,Z⟩,d.push _⟩,λb c=>?_,by simpa [Jf]using q,CmpOf.ints_lt (Qi a)<|λ_ _=>Ql,λv h' g x y=>?_⟩
 .rcases R0.mp c with rfl|c
  .exact Q0 (O0 _ Z)
  .obtain rfl:=T1.mp c;exact Q0<|j0 _ k
 .exact h v h' g (by simpa [Jf]using x) λb o e=>y b o (λc=>absurd (Q0 e)<|(T1.mp c) ▸ P4 _)<|j0 _ e
theorem Cu(m:A.handled=U)(d:s.heap.IsTuple l (Jf a))(q:0<a.size)(h:∀v h' g,(Jf a)[argBest (λi j=>decide<|Qi a i > Qi a j)<|a.size-1]?=O v->(∀b o,s.heap.get? b=O o->h'.get? b=O o)->Q v {s with heap:=h',toks:=g}):Ed (Md prog w) A (call (.builtin "max") [.ref l]) Q E s:=by
 obtain⟨o,k,B,n,hd⟩:=id d;have t:l≠s.heap.objs.size:=X0<|Q0 k;refine call_max_walk<|Dh d ?_;refine⟨s.heap.objs.size,_,_,_,_,_,_,Z,Walks.tuple (A:=A.in1) m _ l t<|Jf a,⟨⟨_,O0 _ Z,Z,Z⟩,d.push _⟩,λb c=>?_,by simpa [Jf]using q,CmpOf.ints_gt (Qi a)<|λ_ _=>Ql,λv h' g x y=>?_⟩
 .rcases R0.mp c with rfl|c
  .exact Q0 (O0 _ Z)
  .obtain rfl:=T1.mp c;exact Q0<|j0 _ k
 .exact h v h' g (by simpa [Jf]using x) λb o e=>y b o (λc=>absurd (Q0 e)<|(T1.mp c) ▸ P4 _)<|j0 _ e
end
def NS(K:M0):List V->Hp->VK->Prop:=λb H Q=>∃(a:Hd) (ns:Qo),b=[.ref a]/\(SqL K H a (ns.map V.int)\/SqT K H a (ns.map V.int))/\0<ns.length/\∀M,M∈ns->(∀y∈ns,M<=y)->Q (.int M) H
def OS(K:M0):List V->Hp->VK->Prop:=λb H Q=>∃(a:Hd) (ns:Qo),b=[.ref a]/\(SqL K H a (ns.map V.int)\/SqT K H a (ns.map V.int))/\0<ns.length/\∀M,M∈ns->(∀y∈ns,y<=M)->Q (.int M) H
theorem CK{K:M0}(F:X.K=K)(G:X.calm=Ep):VZ X (.builtin "min") (NS K):=by
 subst F;intro ae s σ H xs us Q I r h;obtain⟨a,ns,rfl,g,L,q⟩:=h;obtain⟨u,rfl,M⟩:=yK r;cases M;have w:=I.ok.hd G;have fin:∀{be:Et}{c:Eo (Int×Tok)},Vals (ns.map V.int) be->be.toArray=Jf c->0<c.size/\∀(v:Cd) (h':Ke) (x:Nat),(Jf c)[argBest (λi j=>decide<|Qi c i<Qi c j)<|c.size-1]?=O v->(∀b o,s.heap.get? b=O o->h'.get? b=O o)->EP X ae σ Q v {s with heap:=h',toks:=x}:=by
  intro be c d e;have hi:Qe be ns:=EZ d;have l:ns=c.toList.map (·.1):=by rw[<-Mi,<-e];exact(show numsOf be.toArray.toList=ns from hi.numsOf).symm
  have k:0<c.size:=by have B:=L;rw[l,l0,W0]at B;exact B
  refine⟨k,λv h' x P R=>?_⟩;obtain⟨t,rfl⟩:=Ql P;obtain⟨S,Y⟩:=argBest_lt (Qi c)<|c.size-1;refine⟨.int _,H,I.kept R,⟨t,Z⟩,q _ ?_ λy hy=>?_⟩
  .rw[l,Xn];exact getD_mem (by rw[l0,W0];exact m9 k S)
  .rw[l]at hy;obtain⟨j,C,rfl⟩:=mem_getD hy;rw[l0,W0]at C;rw[<-Xn];exact Y j<|Q1 C
 rcases g with g|g
 .obtain⟨be,d,p,hz⟩:=I.list g;obtain⟨c,hx⟩:=(EZ d).allInts.items;obtain⟨m,f⟩:=fin d hx;exact min_intList w (hx ▸ p.isList) m f
 .obtain⟨be,d,p,hz⟩:=I.tuple g;obtain⟨c,hx⟩:=(EZ d).allInts.items;obtain⟨m,f⟩:=fin d hx;exact Bu w (show s.heap.IsTuple a (Jf c) from hx ▸ p) m f
theorem DK{K:M0}(F:X.K=K)(G:X.calm=Ep):VZ X (.builtin "max") (OS K):=by
 subst F;intro ae s σ H xs us Q I r h;obtain⟨a,ns,rfl,g,L,q⟩:=h;obtain⟨u,rfl,M⟩:=yK r;cases M;have w:=I.ok.hd G;have fin:∀{be:Et}{c:Eo (Int×Tok)},Vals (ns.map V.int) be->be.toArray=Jf c->0<c.size/\∀(v:Cd) (h':Ke) (x:Nat),(Jf c)[argBest (λi j=>decide<|Qi c i > Qi c j)<|c.size-1]?=O v->(∀b o,s.heap.get? b=O o->h'.get? b=O o)->EP X ae σ Q v {s with heap:=h',toks:=x}:=by
  intro be c d e;have hi:Qe be ns:=EZ d;have l:ns=c.toList.map (·.1):=by rw[<-Mi,<-e];exact(show numsOf be.toArray.toList=ns from hi.numsOf).symm
  have k:0<c.size:=by have B:=L;rw[l,l0,W0]at B;exact B
  refine⟨k,λv h' x P R=>?_⟩;obtain⟨t,rfl⟩:=Ql P;obtain⟨S,Y⟩:=argBest_gt (Qi c)<|c.size-1;refine⟨.int _,H,I.kept R,⟨t,Z⟩,q _ ?_ λy hy=>?_⟩
  .rw[l,Xn];exact getD_mem (by rw[l0,W0];exact m9 k S)
  .rw[l]at hy;obtain⟨j,C,rfl⟩:=mem_getD hy;rw[l0,W0]at C;rw[<-Xn];exact Y j<|Q1 C
 rcases g with g|g
 .obtain⟨be,d,p,hz⟩:=I.list g;obtain⟨c,hx⟩:=(EZ d).allInts.items;obtain⟨m,f⟩:=fin d hx;exact max_intList w (hx ▸ p.isList) m f
 .obtain⟨be,d,p,hz⟩:=I.tuple g;obtain⟨c,hx⟩:=(EZ d).allInts.items;obtain⟨m,f⟩:=fin d hx;exact Cu w (show s.heap.IsTuple a (Jf c) from hx ▸ p) m f
end L2
namespace L3
open L2
section
variable {K:Fg}{σ:L2.St}{v:V}{Q:L2.St->Hp->Prop}
end
noncomputable def ca:D->(Sl->Prop)->Prop
 | .list a,Q=>∃ns:Qo,a=ns.map n0/\0<ns.length/\∀M,M∈ns->(∀y∈ns,M<=y)->Q (.fz<|.int M)
 | .tuple a,Q=>∃ns:Qo,a=ns.map n0/\0<ns.length/\∀M,M∈ns->(∀y∈ns,M<=y)->Q (.fz<|.int M)
 |_,_=>Fo
noncomputable def ga:D->(Sl->Prop)->Prop
 | .list a,Q=>∃ns:Qo,a=ns.map n0/\0<ns.length/\∀M,M∈ns->(∀y∈ns,y<=M)->Q (.fz<|.int M)
 | .tuple a,Q=>∃ns:Qo,a=ns.map n0/\0<ns.length/\∀M,M∈ns->(∀y∈ns,y<=M)->Q (.fz<|.int M)
 |_,_=>Fo
theorem IW{K:Fg}:JZ K (NS K) (o1 ca):=GD λG F σ H ρ x d Q q R l w k=>by
 cases d<;>first|exact w.elim|skip
 case list m=>obtain⟨ns,e,b,w⟩:=w;subst e;obtain⟨a,us,rfl,c,g⟩:=l.list R.sub;have:=g.intsV;subst this;exact⟨a,ns,Z,.inl<|SqL.of c,b,λM i j=>k _ H F (.fz _) (Sub.refl _) R (Da.int _)<|w M i j⟩
 case tuple m=>obtain⟨ns,e,b,w⟩:=w;subst e;obtain⟨a,us,rfl,_,c,g⟩:=l.tuple R.sub;have:=g.intsV;subst this;exact⟨a,ns,Z,.inr<|SqT.of c,b,λM i j=>k _ H F (.fz _) (Sub.refl _) R (Da.int _)<|w M i j⟩
theorem JW{K:Fg}:JZ K (OS K) (o1 ga):=GD λG F σ H ρ x d Q q R l w k=>by
 cases d<;>first|exact w.elim|skip
 case list m=>obtain⟨ns,e,b,w⟩:=w;subst e;obtain⟨a,us,rfl,c,g⟩:=l.list R.sub;have:=g.intsV;subst this;exact⟨a,ns,Z,.inl<|SqL.of c,b,λM i j=>k _ H F (.fz _) (Sub.refl _) R (Da.int _)<|w M i j⟩
 case tuple m=>obtain⟨ns,e,b,w⟩:=w;subst e;obtain⟨a,us,rfl,_,c,g⟩:=l.tuple R.sub;have:=g.intsV;subst this;exact⟨a,ns,Z,.inr<|SqT.of c,b,λM i j=>k _ H F (.fz _) (Sub.refl _) R (Da.int _)<|w M i j⟩
end L3
namespace SG
noncomputable def Kw:Bool->Ud->Eo Ud->Nat->Nat->Nat->StateT Vd Sem (Do Nat):=sortPriv% PySem.Builtin.gallop
noncomputable def W':Eo Ud->Eo Ud->StateT Vd Sem (Eo Ud):=sortPriv% PySem.Builtin.mergeLo
noncomputable def X':Eo Ud->Eo Ud->StateT Vd Sem (Eo Ud):=sortPriv% PySem.Builtin.mergeHi
noncomputable abbrev oV(z:Vd)(g:Nat):Vd:=SortSt.mk' (kindOf z) (arrOf z) (Wd z) g<|Rg z
theorem NO(d:Bool)(c:Ud)(e:Eo Ud)(bs n a:Nat):Kw d c e bs n a=(do
    let ov (i:Nat):StateT Vd Sem (Do Bool):=do
      let z<-Xe e (bs+i)
      if d then lt' z c else return (<-lt' c z).map (!·)
    let mut la:=0
    let mut o:=1
    let mut l:=0
    let mut h:=0
    let O rt<-ov a|return U
    if rt then
      let b:=n-a
      for _ in [0:n] do
        if o ≥ b then break
        let O mo<-ov (a+o)|return U
        if !mo then break
        la:=o
        o:=2*o+1
      l:=a+la+1
      h:=a+min o b
    else
      let b:=a+1
      for _ in [0:n] do
        if o ≥ b then break
        let O fo<-ov (a-o)|return U
        if fo then break
        la:=o
        o:=2*o+1
      l:=a+1-min o b
      h:=a-la
    for _ in [0:n] do
      if l ≥ h then break
      let m:=l+(h-l) / 2
      let O mo<-ov m|return U
      if mo then l:=m+1 else h:=m
    return O h):=rfl
section
variable {w:Be}{κ:Wf}{rk:Ud->Nat}{S:Ud->Prop}
def sK(prog:De)(w:Be)(A:Eg)(s:Fd)(κ:Wf)(rk:Ud->Nat)(S:Ud->Prop):Prop:=∀x y:Ud,S x->S y->∀Q:Bool->Fd->Prop,Q (decide<|rk x<rk y) s->Ed (Md prog w) A (keyLt' κ x.1 y.1) Q (λ_ _=>Fo) s
theorem w_lt(q:sK prog w A s κ rk S){x y:Ud}{st:Vd}{Q:Do Bool->Vd->Prop}(a:kindOf st=κ)(hx:S x)(hy:S y)(h:Q (O<|decide<|rk x<rk y) st):wpS (Md prog w) A E s (lt' x y) Q st:=by
 rw[lt'_eq];refine Nd<|Wh ?_;rw[a];refine Nd<|Si<|Gf<|wpAny_mono (q x y hx hy (λb s'=>b=Es (rk x<rk y)/\s'=s) ⟨Z,Z⟩) (λb s' e=>?_) λ_ _ e=>e.elim;obtain⟨rfl,rfl⟩:=e;exact⟨Z,Td h⟩
theorem SZ{st:Vd}{Q:Ud->Vd->Prop}(hi:i<xs.size)(h:Q xs[i] st):wpS (Md prog w) A E s (Xe xs i) Q st:=by rw[elem'_eq,getElem?_pos xs i hi];exact Td h
def Ov(prog:De)(w:Be)(A:Eg)(E:Cd->Fd->Prop)(s:Fd)(n:Nat)(b:Nat->Bool)(st:Vd)(a:Nat->StateT Vd Sem (Do Bool)):Prop:=∀i,i<n->∀Q:Do Bool->Vd->Prop,Q (O<|b i) st->wpS (Md prog w) A E s (a i) Q st
noncomputable def QS(c:Nat->StateT Vd Sem (Do Bool))(n a b:Nat):StateT Vd Sem (Do Nat):=do
 let mut l:=a
 let mut h:=b
 for _ in [0:n] do
  if l ≥ h then break
  let m:=l+(h-l) / 2
  let O mo<-c m|return U
  if mo then l:=m+1 else h:=m
 return O h
theorem w_bin{h':Nat}{st:Vd}{Q:Do Nat->Vd->Prop}(F:Ov prog w A E s n b st ov)(B:∀i j,i<=j->j<n->b j=Ep->b i=Ep) (G:l<=h') (C:h'<=n) (L:∀i,i<l->b i=Ep) (M:∀i,h'<=i->i<n->b i=Er)(h:∀k,k<=n->(∀i,i<k->b i=Ep)->(∀i,k<=i->i<n->b i=Er)->Q (O k) st):wpS (Md prog w) A E s (QS ov n l h') Q st:=by
 unfold QS;refine Nd<|Af (Me (I:=λx c d=>d=st/\∃l h',c=(U,l,h')/\l<=h'/\h'<=n/\h'-l<=n-x/\(∀i,i<l->b i=Ep)/\∀i,h'<=i->i<n->b i=Er)
   (Q:=λc d=>d=st/\∃k,c=(U,k,k)/\k<=n/\(∀i,i<k->b i=Ep)/\∀i,k<=i->i<n->b i=Er) ?step ?fin ⟨Z,l,h',Z,G,C,K0 (e8 _ _) C,L,M⟩) ?post
 case fin=>rintro c d ⟨rfl,l,h',rfl,m,e,g,q,t⟩;have:l=h':=fb g m;subst this;exact⟨Z,l,Z,e,q,t⟩
 case post=>rintro c d ⟨rfl,k,rfl,m,e,g⟩;exact Td<|h k m e g
 case step =>
  rintro x c d _ hx ⟨rfl,l,h',rfl,m,e,g,q,t⟩;dsimp only;by_cases a:l ≥ h'
  .rw[Jd a];have:l=h':=j4 m a;subst this;exact Td ⟨Z,l,Z,e,q,t⟩
  .rw[Gd a];refine Nd<|F _ (by lia) _ ?_;cases v:b (l+(h'-l) / 2) with
   |true=>refine Td ⟨Z,_,_,Z,by lia,e,Va g,λi hi=>B _ _ (u5 hi) (by lia) v,t⟩
   |false =>
    refine Td ⟨Z,_,_,Z,W1 _ _,by lia,Wa g,q,λi i1 i2=>?_⟩;cases y:b i with
    |false=>rfl
    |true=>rw[B _ _ i1 i2 y]at v;cases v
theorem RS{G:Bool}{st:Vd}{Q:Do Nat->Vd->Prop}
  (B:Ov prog w A E s n b st (λi=>do
    let z<-Xe xs (bs+i)
    if G then lt' z ky else return (<-lt' ky z).map (!·)))
  (C:∀i j,i<=j->j<n->b j=Ep->b i=Ep) (F:ht<n)
  (h:∀k,k<=n->(∀i,i<k->b i=Ep)->(∀i,k<=i->i<n->b i=Er)->Q (O k) st):wpS (Md prog w) A E s (Kw G ky xs bs n ht) Q st:=by
 rw[NO];generalize L:(λi=>(do
     let z<-Xe xs (bs+i)
     if G then lt' z ky else return (<-lt' ky z).map (!·):StateT Vd Sem (Do Bool)))=ov at B;dsimp only;clear L;refine Nd<|B ht F _ ?_;cases P:b ht with
 |true =>
  dsimp only;rw[Jd Z];refine Nd<|Af (Me (I:=λx c g=>g=st/\∃a o:Nat,c=(U,a,o)/\a<o/\x+1<=o/\ht+a<n/\b (ht+a)=Ep)
    (Q:=λc g=>g=st/\∃a o:Nat,c=(U,a,o)/\a<o/\ht+a<n/\b (ht+a)=Ep/\(n-ht<=o\/b (ht+o)=Er)) ?step ?fin ⟨Z,0,1,Z,S2 _,V0 Z,by omega,P⟩) ?post
  case fin=>rintro c g ⟨rfl,a,o,rfl,q,M,m,e⟩;exact⟨Z,a,o,Z,q,m,e,.inl<|by lia⟩
  case step =>
   rintro x c g _ hx ⟨rfl,a,o,rfl,q,M,m,e⟩;dsimp only;by_cases d:o ≥ n-ht
   .rw[Jd d];exact Td ⟨Z,a,o,Z,q,m,e,.inl d⟩
   .rw[Gd d];refine Nd<|B _ (Y7<|e7 d) _ ?_;cases t:b (ht+o) with
    |true=>exact Td ⟨Z,o,2*o+1,Z,by lia,by lia,by lia,t⟩
    |false=>exact Td ⟨Z,a,o,Z,q,m,e,.inr t⟩
  case post =>
   rintro c g ⟨rfl,a,o,rfl,q,m,e,v⟩;refine w_bin B C (l:=ht+a+1) (h':=ht+min o (n-ht)) (by lia) (le_of_le_of_eq (U0 (K7 _ _) _)<|P3<|Y0 F) (λi hi=>C _ _ (u5 hi) m e) (λi i1 i2=>?_) h;rcases v with v|v
   .omega
   .cases y:b i with
    |false=>rfl
    |true=>rw[C (ht+o) i (by lia) i2 y]at v;cases v
 |false =>
  dsimp only;rw[Gd<|by decide];refine Nd<|Af (Me (I:=λx c g=>g=st/\∃a o:Nat,c=(U,a,o)/\a<o/\x+1<=o/\a<=ht/\b (ht-a)=Er)
    (Q:=λc g=>g=st/\∃a o:Nat,c=(U,a,o)/\a<o/\a<=ht/\b (ht-a)=Er/\(ht+1<=o\/b (ht-o)=Ep)) ?step2 ?fin2 ⟨Z,0,1,Z,by lia,by lia,v4 _,P⟩) ?post2
  case fin2=>rintro c g ⟨rfl,a,o,rfl,q,M,m,e⟩;exact⟨Z,a,o,Z,q,m,e,.inl<|by lia⟩
  case step2 =>
   rintro x c g _ hx ⟨rfl,a,o,rfl,q,M,m,e⟩;dsimp only;by_cases d:o ≥ ht+1
   .rw[Jd d];exact Td ⟨Z,a,o,Z,q,m,e,.inl d⟩
   .rw[Gd d];refine Nd<|B _ (oQ F) _ ?_;cases t:b (ht-o) with
    |false=>exact Td ⟨Z,o,2*o+1,Z,by lia,by lia,u5<|e7 d,t⟩
    |true=>exact Td ⟨Z,a,o,Z,q,m,e,.inr t⟩
  case post2 =>
   rintro c g ⟨rfl,a,o,rfl,q,m,e,v⟩;have up:∀i,ht-a<=i->i<n->b i=false:=λi i1 i2=>by
    cases y:b i with
    |false=>rfl
    |true=>rw[C (ht-a) i i1 i2 y]at e;cases e
   refine w_bin B C (l:=ht+1-min o (ht+1)) (h':=ht-a) (by omega) (Y0<|oQ F) (λi hi=>?_) up h;rcases v with v|v
   .omega
   .exact C _ (ht-o) (Oc hi) (oQ F) v
theorem TK(q:sK prog w A s κ rk S){c:Bool}{d:Ud}{a:Eo Ud}{bs n y:Nat}{st:Vd}{Q:Do Nat->Vd->Prop}(l:kindOf st=κ)(hy:S d)(B:∀i (h:i<a.size),S a[i])(G:bs+n<=a.size) (L:∀i j (h:j<a.size) (t:i<=j),bs<=i->j<bs+n->rk (a[i]'(L1 t h))<=rk a[j]) (M:y<n)(h:∀k,k<=n->(∀i (h:i<a.size),bs<=i->i<bs+k->if c=Ep then rk a[i]<rk d else rk a[i]<=rk d)->(∀i (h:i<a.size),bs+k<=i->i<bs+n->if c=Ep then rk d<=rk a[i] else rk d<rk a[i])->Q (O k) st):wpS (Md prog w) A E s (Kw c d a bs n y) Q st:=by
 refine RS (b:=λi=>if hi:bs+i<a.size then (if c=Ep then Es (rk a[bs+i]<rk d) else !Es (rk d<rk a[bs+i])) else Er) ?_ ?_ M ?_
 .intro i hi Q v;have m:bs+i<a.size:=u0 (Z4 hi _) G;simp only[dif_pos m]at v;refine Nd<|SZ m ?_;cases c with
  |true=>exact w_lt q l (B _ _) hy v
  |false=>exact Nd<|w_lt q l hy (B _ _)<|Td v
 .intro i j C P g;have x:bs+j<a.size:=by lia
  have m:bs+i<a.size:=L1 (U0 C _) x;have F:=L (bs+i) (bs+j) x (U0 C _) (W1 _ _)<|Z4 P _;simp only[dif_pos x]at g;simp only[dif_pos m];cases c with
  |true=>simp at g ⊢;exact L1 F g
  |false=>simp at g ⊢;exact K0 F g
 .intro k l R t;refine h k l (λi hi i1 i2=>?_)<|λi hi i1 i2=>?_
  .have:=R (i-bs)<|A6 i1 i2;have e:bs+(i-bs)=i:=P3 i1;simp only[e,dif_pos hi]at this;cases c with
   |true=>simpa using this
   |false=>simpa using this
  .have:=t (i-bs) (ZQ i1)<|A6 (N1 i1) i2;have e:bs+(i-bs)=i:=P3<|N1 i1;simp only[e,dif_pos hi]at this;cases c with
   |true=>simpa using this
   |false=>simpa using this
end
section
variable {le:α->α->Prop}{a b out:List α}{i j:Nat}
structure Mg(le:α->α->Prop)(a b out:List α)(i j:Nat):Prop where
 perm:out.Perm (a.take i++b.take j)
 srt:out.Pairwise le
 la:∀x∈out,∀y∈a.drop i,le x y
 lb:∀x∈out,∀y∈b.drop j,le x y
theorem Mg.comm(h:Mg le a b out i j):Mg le b a out j i:=⟨h.perm.trans b8,h.srt,h.lb,h.la⟩
theorem Mg.takeA(h:Mg le a b out i j)(c:a.Pairwise le)(k:Nat)(d:∀x∈(a.drop i).take k,∀y∈b.drop j,le x y):Mg le a b (out++(a.drop i).take k) (i+k) j where
 perm:=by rw[List.take_add];refine(h.perm.append_right _).trans ?_;rw[V2,V2];exact List.Perm.append_left _ b8
 srt:=o6.mpr ⟨h.srt,(c.sublist<|O8 _ _).sublist<|N8 _ _,λx hx y hy=>h.la x hx y<|o9 hy⟩
 la:=λx hx y hy=>by
  rw[<-gX]at hy;rcases B2.mp hx with hx|hx
  .exact h.la x hx y (List.mem_of_mem_drop hy)
  .have p:=c.sublist<|O8 i _;rw[<-Z5 k (a.drop i)]at p;exact(o6.mp p).2.2 x hx y hy
 lb:=λx hx y hy=>by
  rcases B2.mp hx with hx|hx
  .exact h.lb x hx y hy
  .exact d x hx y hy
theorem Mg.oneA(h:Mg le a b out i j)(c:a.Pairwise le)(hi:i<a.length)(d:∀y∈b.drop j,le a[i] y):Mg le a b (out++[a[i]]) (i+1) j:=by
 have e:(a.drop i).take 1=[a[i]]:=by rw[A5 hi];rfl
 have:=h.takeA c 1 (by rw[e];simpa using d);rwa [e]at this
theorem Mg.fin(h:Mg le a b out i j)(c:a.Pairwise le)(d:b.Pairwise le)(hx:∀x∈a.drop i,∀y∈b.drop j,le x y):(out++a.drop i++b.drop j).Perm (a++b)/\(out++a.drop i++b.drop j).Pairwise le:=by
 constructor
 .have e:(a.take i++b.take j++a.drop i++b.drop j).Perm (a.take i++a.drop i++(b.take j++b.drop j)):=by
   simp only[V2];refine List.Perm.append_left _ ?_;rw[<-V2,<-V2];exact b8.append_right _
  rw[Z5,Z5]at e;exact((h.perm.append_right _).append_right _).trans e
 .rw[V2];refine o6.mpr ⟨h.srt,o6.mpr ⟨c.sublist<|O8 _ _,d.sublist<|O8 _ _,hx⟩,λx hx y hy=>?_⟩;rcases B2.mp hy with hy|hy
  .exact h.la x hx y hy
  .exact h.lb x hx y hy
theorem Mg.finC(h:Mg le a b out i j)(c:a.Pairwise le)(d:b.Pairwise le)(hx:∀x∈b.drop j,∀y∈a.drop i,le x y):(out++b.drop j++a.drop i).Perm (a++b)/\(out++b.drop j++a.drop i).Pairwise le:=by obtain⟨e,g⟩:=h.comm.fin d c hx;exact⟨e.trans b8,g⟩
end
noncomputable abbrev jI:=Do (Eo Ud)×Eo Ud×Nat×Nat×Nat×Nat×Nat
noncomputable abbrev Y':=Do (Eo Ud)×Eo Ud×Nat×Nat×Nat×Nat
noncomputable abbrev Z':=Do (Eo Ud)×Eo Ud×Nat×Nat×Nat
section
variable (x y:Eo Ud)
noncomputable def dn(o:Eo Ud)(i j:Nat):Eo Ud:=o++x.extract i x.size++y.extract j y.size
noncomputable def ls(o:Eo Ud)(i j:Nat):Eo Ud:=o++y.extract j y.size++x.extract i x.size
noncomputable def a_(o:Eo Ud)(i j g ac a:Nat):StateT Vd Sem (ForInStep jI):=do
 let z<-Xe x i
 if (i+1+1==x.size)=Ep then pure (.done (O<|ls x y (o.push z) (i+1) j,o.push z,i+1,j,g,ac,a))
 else if (Es (ac<7)&&Es (a<7))=Ep then pure (.done (U,o.push z,i+1,j,g,ac,a))
 else pure (.yield (U,o.push z,i+1,j,g,ac,a))
noncomputable def b_(o:Eo Ud)(i j g ac a:Nat):StateT Vd Sem (ForInStep jI):=do
 let z<-Xe y j
 if (j+1==y.size)=Ep then pure (.done (O<|dn x y (o.push z) i<|j+1,o.push z,i,j+1,g,ac,a))
 else do
  let u<-Xe x i
  let O k<-Kw Ep u y (j+1) (y.size-(j+1)) 0|pure (.done (O<|dn x y (o.push z) i<|j+1,o.push z,i,j+1,g,ac,a))
  if k > 0 then
   if (j+1+k==y.size)=Ep then pure (.done (O<|dn x y (o.push z++y.extract (j+1) (j+1+k)) i<|j+1+k,o.push z++y.extract (j+1) (j+1+k),i,j+1+k,g,ac,k))
   else a_ x y (o.push z++y.extract (j+1) (j+1+k)) i (j+1+k) g ac k
  else a_ x y (o.push z) i (j+1) g ac k
noncomputable def c_(o:Eo Ud)(i j g ac a:Nat):StateT Vd Sem (ForInStep jI):=do
 modify λv=>oV v g
 let z<-Xe y j
 let O k<-Kw Er z x i (x.size-i) 0|pure (.done (O<|dn x y o i j,o,i,j,g,ac,a))
 if k > 0 then
   if (i+k+1==x.size)=Ep then pure (.done (O<|ls x y (o++x.extract i (i+k)) (i+k) j,o++x.extract i (i+k),i+k,j,g,k,a))
   else if (i+k==x.size)=Ep then pure (.done (O<|dn x y (o++x.extract i (i+k)) (i+k) j,o++x.extract i (i+k),i+k,j,g,k,a))
   else b_ x y (o++x.extract i (i+k)) (i+k) j g k a
 else b_ x y o i j g k a
noncomputable def ja(t:jI):StateT Vd Sem (ForInStep jI) :=
 if t.2.2.2.2.1 > 1 then c_ x y t.2.1 t.2.2.1 t.2.2.2.1 (t.2.2.2.2.1-1) t.2.2.2.2.2.1 t.2.2.2.2.2.2
 else c_ x y t.2.1 t.2.2.1 t.2.2.2.1 t.2.2.2.2.1 t.2.2.2.2.2.1 t.2.2.2.2.2.2
noncomputable def ka(g:Nat)(t:Y'):StateT Vd Sem (ForInStep Y'):=do
 let z<-Xe y t.2.2.2.1
 let u<-Xe x t.2.2.1
 let O yw<-lt' z u|pure (.done (O<|dn x y t.2.1 t.2.2.1 t.2.2.2.1,t.2.1,t.2.2.1,t.2.2.2.1,t.2.2.2.2.1,t.2.2.2.2.2))
 if yw=Ep then do
   let z<-Xe y t.2.2.2.1
   if (t.2.2.2.1+1==y.size)=Ep then pure (.done (O<|dn x y (t.2.1.push z) t.2.2.1<|t.2.2.2.1+1,t.2.1.push z,t.2.2.1,t.2.2.2.1+1,0,t.2.2.2.2.2+1))
   else if t.2.2.2.2.2+1 ≥ g then pure (.done (U,t.2.1.push z,t.2.2.1,t.2.2.2.1+1,0,t.2.2.2.2.2+1))
   else pure (.yield (U,t.2.1.push z,t.2.2.1,t.2.2.2.1+1,0,t.2.2.2.2.2+1))
 else do
   let z<-Xe x t.2.2.1
   if (t.2.2.1+1+1==x.size)=Ep then pure (.done (O<|ls x y (t.2.1.push z) (t.2.2.1+1) t.2.2.2.1,t.2.1.push z,t.2.2.1+1,t.2.2.2.1,t.2.2.2.2.1+1,0))
   else if t.2.2.2.2.1+1 ≥ g then pure (.done (U,t.2.1.push z,t.2.2.1+1,t.2.2.2.1,t.2.2.2.2.1+1,0))
   else pure (.yield (U,t.2.1.push z,t.2.2.1+1,t.2.2.2.1,t.2.2.2.2.1+1,0))
noncomputable def d_(t:Z'):StateT Vd Sem (ForInStep Z'):=do
 let v<-forIn [:x.size+y.size] ((U,t.2.1,t.2.2.1,t.2.2.2.1,0,0):Y') λ_ v=>ka x y t.2.2.2.2 v
 match v.1 with
 |some r=>pure<|.done (O r,v.2.1,v.2.2.1,v.2.2.2.1,t.2.2.2.2)
 |none=>do
  liftM (rule "list.sort.gallop")
  let u<-forIn [:x.size+y.size] ((U,v.2.1,v.2.2.1,v.2.2.2.1,t.2.2.2.2+1,v.2.2.2.2.1,v.2.2.2.2.2):jI) λ_ u=>ja x y u
  match u.1 with
  |some r=>pure<|.done (O r,u.2.1,u.2.2.1,u.2.2.2.1,u.2.2.2.2.1)
  |none=>do
   modify λz=>oV z (u.2.2.2.2.1+1)
   pure (.yield (U,u.2.1,u.2.2.1,u.2.2.2.1,u.2.2.2.2.1+1))
end
theorem kI(x y:Eo Ud):W' x y=(do
    rule "list.sort.merge-lo"
    let tt:=x.size+y.size
    let dn (o:Eo Ud) (i j:Nat):=o++x.extract i x.size++y.extract j y.size
    let ls (o:Eo Ud) (i j:Nat):=o++y.extract j y.size++x.extract i x.size
    let mut o:Eo Ud:=#[<-Xe y 0]
    let mut i:=0
    let mut j:=1
    if j==y.size then return dn o i j
    if i+1==x.size then return ls o i j
    let mut g:=Zm (<-get)
    for _ in [0:tt] do
      let mut ac:=0
      let mut bc:=0
      for _ in [0:tt] do
        let O yw<-lt' (<-Xe y j) (<-Xe x i)|return dn o i j
        if yw then
          o:=o.push (<-Xe y j);j:=j+1;bc:=bc+1;ac:=0
          if j==y.size then return dn o i j
          if bc ≥ g then break
        else
          o:=o.push (<-Xe x i);i:=i+1;ac:=ac+1;bc:=0
          if i+1==x.size then return ls o i j
          if ac ≥ g then break
      rule "list.sort.gallop"
      g:=g+1
      for _ in [0:tt] do
        if g > 1 then g:=g-1
        modify (oV · g)
        let O k<-Kw Er (<-Xe y j) x i (x.size-i) 0|return dn o i j
        ac:=k
        if k > 0 then
          o:=o++x.extract i (i+k);i:=i+k
          if i+1==x.size then return ls o i j
          if i==x.size then return dn o i j
        o:=o.push (<-Xe y j);j:=j+1
        if j==y.size then return dn o i j
        let O k<-Kw Ep (<-Xe x i) y j (y.size-j) 0|return dn o i j
        bc:=k
        if k > 0 then
          o:=o++y.extract j (j+k);j:=j+k
          if j==y.size then return dn o i j
        o:=o.push (<-Xe x i);i:=i+1
        if i+1==x.size then return ls o i j
        if ac<7&&bc<7 then break
      g:=g+1
      modify (oV · g)
    Ug "internal:list.sort.merge-bound"):=rfl
theorem OO(x y:Eo Ud):W' x y=(do
    liftM (rule "list.sort.merge-lo")
    let z<-Xe y 0
    if (1==y.size)=Ep then pure (dn x y #[z] 0 1)
    else if (0+1==x.size)=Ep then pure (ls x y #[z] 0 1)
    else do
      let s<-get
      let v<-forIn [:x.size+y.size] ((U,#[z],0,1,Zm s):Z') λ_ v=>d_ x y v
      match v.1 with
      |some r=>pure r
      |none=>Ug "internal:list.sort.merge-bound"):=by
 rw[kI];dsimp only;refine Ae (bind _)<|funext λ_=>?_;refine Ae (bind _)<|funext λz=>?_;refine congr (Ae _ Z) ?_;refine congr (Ae _ Z) ?_;refine Ae (bind _)<|funext λs=>?_;refine congr (Ae bind ?A) (funext λv=>by obtain⟨r,v⟩:=v;cases r<;>rfl);refine Ae _<|funext λ_=>funext λv=>?_;unfold d_;refine congr (Ae bind Z)<|funext λv=>?_;obtain⟨r,v⟩:=v;cases r with
 |some r=>rfl
 |none=>refine Ae (bind _)<|funext λ_=>?_;refine congr (Ae bind ?A2) (funext λv=>by obtain⟨r,v⟩:=v;cases r<;>rfl);rfl
section
variable {x y o:Eo α}{i j k:Nat}
theorem FU:(x.extract i x.size).toList=x.toList.drop i:=by rw[t6,B5,K3<|by simp]
theorem YL:(x.extract i<|i+k).toList=(x.toList.drop i).take k:=by rw[t6,B5,i4]
theorem OJ(h:v∈x.toList.drop i):∃(n:Nat) (a:n<x.size),i<=n/\v=x[n]:=by obtain⟨n,a,e⟩:=V5 h;rw[J5,W0]at a;refine⟨i+n,Y7 a,W1 _ _,?_⟩;rw[<-e,P8,W4]
theorem KW(h:v∈(x.toList.drop i).take k):∃(n:Nat) (a:n<x.size),i<=n/\n<i+k/\v=x[n]:=by obtain⟨n,a,e⟩:=V5 h;rw[G5,J5,W0]at a;refine⟨i+n,by omega,W1 _ _,by lia,?_⟩;rw[<-e,Q8,P8,W4]
end
theorem lI(x y o:Eo Ud)(i j:Nat):(dn x y o i j).toList=o.toList++x.toList.drop i++y.toList.drop j:=by unfold dn;rw[E4,E4,FU,FU]
theorem mI(x y o:Eo Ud)(i j:Nat):(ls x y o i j).toList=o.toList++y.toList.drop j++x.toList.drop i:=by unfold ls;rw[E4,E4,FU,FU]
section
variable {w:Be}{κ:Wf}{rk:Ud->Nat}{S:Ud->Prop}{x y:Eo Ud}
abbrev gG(rk:Ud->Nat):Ud->Ud->Prop:=λa b=>rk a<=rk b
structure Hy(rk:Ud->Nat)(S:Ud->Prop)(x y:Eo Ud):Prop where
 hx:x.toList.Pairwise (gG rk)
 hy:y.toList.Pairwise (gG rk)
 Sx:∀i (h:i<x.size),S x[i]
 Sy:∀i (h:i<y.size),S y[i]
 x0:0<x.size
 y0:0<y.size
 hl:∀i (h:i<y.size),rk y[i]<=rk x[x.size-1]
 hf:∀i (h:i<x.size),rk y[0]<=rk x[i]
theorem oK(h:x.toList.Pairwise (gG rk)){i j:Nat}(b:j<x.size)(c:i<=j):rk (x[i]'(L1 c b))<=rk x[j]:=by
 rcases B9 i j with a|a
 .have:=B4.mp h i j (by simpa using (by lia:i<x.size)) (by simpa using b) a;simpa using this
 .have:i=j:=j4 c a;subst this;exact P0 _
def Po(rk:Ud->Nat)(x y r:Eo Ud):Prop:=r.toList.Perm (x.toList++y.toList)/\r.toList.Pairwise (gG rk)
theorem ND(H:Hy rk S x y){o:Eo Ud}{i j:Nat}(m:Mg (gG rk) x.toList y.toList o.toList i j)(h:y.size<=j\/x.size<=i):Po rk x y (dn x y o i j):=by
 unfold Po;rw[lI];refine m.fin H.hx H.hy λv a u b=>?_;obtain⟨n,c,d,_⟩:=OJ a;obtain⟨k,e,g,_⟩:=OJ b
 lia
theorem ix(H:Hy rk S x y){o:Eo Ud}{i j:Nat}(m:Mg (gG rk) x.toList y.toList o.toList i j)(h:i+1=x.size):Po rk x y (ls x y o i j):=by
 unfold Po;rw[mI];refine m.finC H.hx H.hy λv a u b=>?_;obtain⟨n,c,d,rfl⟩:=OJ a;obtain⟨k,e,g,rfl⟩:=OJ b;have:k=x.size-1:=by lia
 subst this;exact H.hl n c
theorem IG(o:Eo α)(z:α):(o.push z).toList=o.toList++[z]:=c8
structure J(rk:Ud->Nat)(x y:Eo Ud)(N:Nat)(o:Eo Ud)(i j:Nat):Prop where
 m:Mg (gG rk) x.toList y.toList o.toList i j
 hi:i+1<x.size
 hj:j<y.size
 hN:N<=i+j
theorem J.pushX(H:Hy rk S x y){N:Nat}{o:Eo Ud}{i j:Nat}(m:Mg (gG rk) x.toList y.toList o.toList i j)(hi:i<x.size)(h:∀n (a:n<y.size),j<=n->rk x[i]<=rk y[n]):Mg (gG rk) x.toList y.toList (o.push x[i]).toList (i+1) j:=by
 rw[IG];have:=m.oneA H.hx (by simpa using hi) λv b=>by obtain⟨n,a,c,rfl⟩:=OJ b;simpa using h n a c
 simpa using this
theorem J.pushY(H:Hy rk S x y){N:Nat}{o:Eo Ud}{i j:Nat}(m:Mg (gG rk) x.toList y.toList o.toList i j)(b:j<y.size)(h:∀n (a:n<x.size),i<=n->rk y[j]<=rk x[n]):Mg (gG rk) x.toList y.toList (o.push y[j]).toList i (j+1):=by
 rw[IG];have:=m.comm.oneA H.hy (by simpa using b) λv c=>by obtain⟨n,a,d,rfl⟩:=OJ c;simpa using h n a d
 have:=this.comm;simpa using this
def RT(rk:Ud->Nat)(x y:Eo Ud)(N:Nat)(c:jI):Prop:=(∃t,c.1=O t/\Po rk x y t)\/(c.1=U/\J rk x y N c.2.1 c.2.2.1 c.2.2.2.1)
def Gs(z a:Vd):Prop:=∃g,a=oV z g
theorem Gs.refl(z:Vd):Gs z z:=⟨Zm z,Z⟩
theorem Gs.set{z:Vd}(h:Gs z z')(g:Nat):Gs z (oV z' g):=by obtain⟨_,rfl⟩:=h;exact⟨g,Z⟩
theorem Gs.kind{z:Vd}(h:Gs z z'):kindOf z'=kindOf z:=by obtain⟨_,rfl⟩:=h;rfl
def e_(rk:Ud->Nat)(x y:Eo Ud)(N:Nat)(st:Vd)(r:ForInStep jI)(a:Vd):Prop :=
 Gs st a/\match r with
  | .done c=>RT rk x y N c
  | .yield c=>c.1=U/\J rk x y N c.2.1 c.2.2.1 c.2.2.2.1
theorem ZL(H:Hy rk S x y){N:Nat}{o:Eo Ud}{i j g ac c:Nat}{st d:Vd}(b:Gs st d)(m:Mg (gG rk) x.toList y.toList o.toList i j)(hi:i+1<x.size)(q:j<y.size)(hN:N<=i+j+1)(h:∀n (t:n<y.size),j<=n->rk (x[i]'(T3 hi))<=rk y[n]):wpS (Md prog w) A E s (a_ x y o i j g ac c) (e_ rk x y N st) d:=by
 unfold a_;have e:=J.pushX H (N:=N) m (R7 hi) h;refine Nd<|SZ (by lia) ?_;by_cases a:i+1+1=x.size
 .rw[Jd<|by simpa using a];exact Td ⟨b,.inl ⟨_,Z,ix H e a⟩⟩
 .rw[Gd<|by simpa using a];have k:J rk x y N (o.push<|x[i]'(T3 hi)) (i+1) j:=⟨e,W3 hi a,q,K0 hN<|V0<|Nat.add_right_comm _ _ _⟩;by_cases l:(Es (ac<7)&&Es (c<7))=Ep
  .rw[Jd l];exact Td ⟨b,.inr ⟨Z,k⟩⟩
  .rw[Gd l];exact Td ⟨b,Z,k⟩
theorem aM(q:sK prog w A s κ rk S)(H:Hy rk S x y){N:Nat}{o:Eo Ud}{i j g ac M:Nat}{st F:Vd}(P:kindOf st=κ)(d:Gs st F)(m:Mg (gG rk) x.toList y.toList o.toList i j)(hi:i+1<x.size)(hj:j<y.size)(hN:N<=i+j+1)
  (h:∀n (c:n<x.size),i<=n->rk (y[j]'(by omega))<=rk x[n]):wpS (Md prog w) A E s (b_ x y o i j g ac M) (e_ rk x y N st) F:=by
 unfold b_;have t:=J.pushY H (N:=N) m hj h;refine Nd<|SZ hj ?_;by_cases e:j+1=y.size
 .rw[Jd<|by simpa using e];exact Td ⟨d,.inl ⟨_,Z,ND H t<|.inl<|V0 e.symm⟩⟩
 .rw[Gd<|by simpa using e];refine Nd<|SZ (by lia) ?_;refine Nd<|TK q (d.kind.trans P) (H.Sx _ _) H.Sy (V0<|P3 hj) (λa b R Y _ _=>oK H.hy R Y) (R8<|W3 hj e) λk kn k1 G=>?_;dsimp only;by_cases l:k > 0
  .rw[Jd l];have L:Mg (gG rk) x.toList y.toList (o.push (y[j]'hj)++y.extract (j+1) (j+1+k)).toList i (j+1+k):=by
    rw[E4,YL];refine(t.comm.takeA H.hy k λv hv u hu=>?_).comm;obtain⟨n,c,B,n2,rfl⟩:=KW hv;obtain⟨p,hp,p1,rfl⟩:=OJ hu;have:=k1 n c B n2;rw[Jd Z]at this;have:=oK H.hx hp p1;show rk _<=rk _;exact K0 (Y0 ‹_›) this
   by_cases C:j+1+k=y.size
   .rw[Jd<|by simpa using C];exact Td ⟨d,.inl ⟨_,Z,ND H L<|.inl<|V0 C.symm⟩⟩
   .rw[Gd<|by simpa using C];refine ZL H d L hi (by omega) (by lia) λn c B=>?_;have:=G n c (by omega)<|Z6.1<|O6 c _;rw[Jd Z]at this;exact this
  .rw[Gd l];refine ZL H d t hi (W3 hj e) (X5 hN) λn c B=>?_;have:=G n c (by lia)<|Z6.1<|O6 c _;rw[Jd Z]at this;exact this
theorem bM(q:sK prog w A s κ rk S)(H:Hy rk S x y){N:Nat}{o:Eo Ud}{i j g ac P:Nat}{st L:Vd}(l:kindOf st=κ)(R:Gs st L)(m:Mg (gG rk) x.toList y.toList o.toList i j)(hi:i+1<x.size)(t:j<y.size)(hN:N<=i+j+1):wpS (Md prog w) A E s (c_ x y o i j g ac P) (e_ rk x y N st) L:=by
 unfold c_;refine Nd<|Zf ?_;have d:=R.set g;refine Nd<|SZ t ?_;refine Nd<|TK q (d.kind.trans l) (H.Sy _ _) H.Sx (by lia) (λa b Y sf _ _=>oK H.hx Y sf) (R8<|T3 hi) λk kn k1 M=>?_;dsimp only;by_cases e:k > 0
 .rw[Jd e];have B:Mg (gG rk) x.toList y.toList (o++x.extract i (i+k)).toList (i+k) j:=by
   rw[E4,YL];refine m.takeA H.hx k λv hv u hu=>?_;obtain⟨n,c,C,n2,rfl⟩:=KW hv;obtain⟨p,hp,p1,rfl⟩:=OJ hu;have:=k1 n c C n2;rw[Gd<|by decide]at this;have:=oK H.hy hp p1;show rk _<=rk _;exact K0 ‹_› this
  by_cases F:i+k+1=x.size
  .rw[Jd<|by simpa using F];exact Td ⟨d,.inl ⟨_,Z,ix H B F⟩⟩
  .rw[Gd<|by simpa using F];by_cases G:i+k=x.size
   .rw[Jd<|by simpa using G];exact Td ⟨d,.inl ⟨_,Z,ND H B<|.inr<|V0 G.symm⟩⟩
   .rw[Gd<|by simpa using G];refine aM q H l d B (by lia) t (by lia) λn c C=>?_;have:=M n c (by omega)<|Z6.1<|O6 c _;rw[Gd<|by decide]at this;exact Y0 this
 .rw[Gd e];refine aM q H l d m hi t (by omega) λn c C=>?_;have:=M n c (by lia)<|Z6.1<|O6 c _;rw[Gd<|by decide]at this;exact Y0 this
theorem SS(q:sK prog w A s κ rk S)(H:Hy rk S x y){N:Nat}{c:jI}{st b:Vd}(d:kindOf st=κ)(e:Gs st b)(a:J rk x y N c.2.1 c.2.2.1 c.2.2.2.1):wpS (Md prog w) A E s (ja x y c) (e_ rk x y (N+1) st) b:=by
 unfold ja;have:=a.hN;split
 .exact bM q H d e a.m a.hi a.hj (l8 this)
 .exact bM q H d e a.m a.hi a.hj (l8 this)
theorem US(q:sK prog w A s κ rk S)(H:Hy rk S x y){N g:Nat}{c:Y'}{st:Vd}(j:kindOf st=κ)(k:J rk x y N c.2.1 c.2.2.1 c.2.2.2.1) :
  wpS (Md prog w) A E s (ka x y g c) (λr l=>l=st/\match r with
    | .done c=>(∃t,c.1=O t/\Po rk x y t)\/(c.1=U/\J rk x y (N+1) c.2.1 c.2.2.1 c.2.2.2.1)
    | .yield c=>c.1=U/\J rk x y (N+1) c.2.1 c.2.2.1 c.2.2.2.1) st:=by
 unfold ka;obtain⟨m,hi,hj,hN⟩:=k;refine Nd<|SZ hj ?_;refine Nd<|SZ (T3 hi) ?_;refine Nd<|w_lt q j (H.Sy _ _) (H.Sx _ _) ?_;dsimp only;by_cases ge:rk (y[c.2.2.2.1]'hj)<rk (x[c.2.2.1]'(R7 hi))
 .rw[Jd<|by simpa using ge];have b:=J.pushY H (N:=N) m hj λn e i=>by have:=oK H.hx e i;exact Y0<|u0 ge this
  refine Nd<|SZ hj ?_;by_cases a:c.2.2.2.1+1=y.size
  .rw[Jd<|by simpa using a];exact Td ⟨Z,.inl ⟨_,Z,ND H b<|.inl<|V0 a.symm⟩⟩
  .rw[Gd<|by simpa using a];have d:J rk x y (N+1) (c.2.1.push<|y[c.2.2.2.1]'hj) c.2.2.1 (c.2.2.2.1+1):=⟨b,hi,W3 hj a,K0 (kX hN _)<|V0<|o5 _ _ _⟩;split
   .exact Td ⟨Z,.inr ⟨Z,d⟩⟩
   .exact Td ⟨Z,Z,d⟩
 .rw[Gd<|by simpa using ge];have b:=J.pushX H (N:=N) m (by lia) λn e i=>by have:=oK H.hy e i;exact K0 (E1 ge) this
  refine Nd<|SZ (by lia) ?_;by_cases a:c.2.2.1+1+1=x.size
  .rw[Jd<|by simpa using a];exact Td ⟨Z,.inl ⟨_,Z,ix H b a⟩⟩
  .rw[Gd<|by simpa using a];have d:J rk x y (N+1) (c.2.1.push<|x[c.2.2.1]'(T3 hi)) (c.2.2.1+1) c.2.2.2.1:=⟨b,W3 hi a,hj,K0 (kX hN _)<|V0<|Nat.add_right_comm _ _ _⟩;split
   .exact Td ⟨Z,.inr ⟨Z,d⟩⟩
   .exact Td ⟨Z,Z,d⟩
theorem VS(q:sK prog w A s κ rk S)(H:Hy rk S x y){N:Nat}{c:Z'}{st b:Vd}(i:kindOf st=κ)(g:Gs st b)(k:J rk x y N c.2.1 c.2.2.1 c.2.2.2.1) :
  wpS (Md prog w) A E s (d_ x y c) (λr b=>Gs st b/\match r with
    | .done c=>∃t,c.1=O t/\Po rk x y t
    | .yield c=>c.1=U/\J rk x y (N+1) c.2.1 c.2.2.1 c.2.2.2.1) b:=by
 unfold d_;refine Nd<|Af (Me (I:=λn c a=>a=b/\c.1=U/\J rk x y (N+n) c.2.1 c.2.2.1 c.2.2.2.1)
   (Q:=λc a=>a=b/\((∃t,c.1=O t/\Po rk x y t)\/(c.1=U/\J rk x y N c.2.1 c.2.2.1 c.2.2.2.1))) ?step ?fin ⟨Z,Z,k⟩) ?post
 case fin =>
  rintro c a ⟨rfl,_,h⟩;have l:=h.hi;have v:=h.hj;have B:=h.hN
  lia
 case step =>
  rintro n c a _ _ ⟨rfl,_,h⟩;refine Af (US q H (g.kind.trans i) h) ?_;rintro r C ⟨rfl,h⟩;cases r with
  |done c=>refine⟨Z,h.imp id λh=>⟨h.1,h.2.m,h.2.hi,h.2.hj,?_⟩⟩;have:=h.2.hN;exact Y0<|L1 (W1 _ _) this
  |yield c=>exact⟨Z,h.1,h.2⟩
 case post =>
  rintro c a ⟨rfl,h⟩;obtain⟨r,c⟩:=c;rcases h with⟨t,e,h⟩|⟨e,h⟩
  .cases e;exact Td ⟨g,_,Z,h⟩
  .cases e;dsimp only;refine Nd<|Si<|Ve ⟨Z,?_⟩;refine Nd<|Af (Me (I:=λn c a=>Gs st a/\c.1=U/\J rk x y (N+n) c.2.1 c.2.2.1 c.2.2.2.1)
     (Q:=λc a=>Gs st a/\RT rk x y (N+1) c) ?step2 ?fin2 ⟨g,Z,h⟩) ?post2
   case fin2 =>
    rintro c a ⟨_,_,h⟩;have l:=h.hi;have v:=h.hj;have B:=h.hN
    lia
   case step2 =>
    rintro n c a _ _ ⟨d,_,h⟩;refine Af (SS q H i d h) ?_;rintro r C ⟨j,h⟩;cases r with
    |done c=>refine⟨j,Or.imp id (λh=>⟨h.1,h.2.m,h.2.hi,h.2.hj,?_⟩) h⟩;have:=h.2.hN;exact L1 (W1 _ _) this
    |yield c=>exact⟨j,h.1,h.2⟩
   case post2 =>
    rintro c a ⟨d,h⟩;obtain⟨r,c⟩:=c;rcases h with⟨t,e,h⟩|⟨e,h⟩
    .cases e;exact Td ⟨d,_,Z,h⟩
    .cases e;exact Nd<|Zf<|Td ⟨d.set _,Z,h⟩
theorem XS(q:sK prog w A s κ rk S)(H:Hy rk S x y){st:Vd}{Q:Eo Ud->Vd->Prop}(v:kindOf st=κ)(h:∀r l,Gs st l->Po rk x y r->Q r l):wpS (Md prog w) A E s (W' x y) Q st:=by
 rw[OO];refine Nd<|Si<|Ve ⟨Z,?_⟩;refine Nd<|SZ H.y0 ?_;have B:Mg (gG rk) x.toList y.toList (#[]:Eo Ud).toList 0 0:=⟨by simp,by simp,by simp,by simp⟩;have g:=J.pushY H (N:=0) B H.y0 λn C _=>H.hf n C;have F:(#[]:Eo Ud).push (y[0]'H.y0)=#[y[0]'H.y0]:=rfl;rw[F]at g;have i:=H.y0;have j:=H.x0;by_cases b:1=y.size
 .rw[Jd<|by simpa using b];exact Td<|h _ _ (Gs.refl _)<|ND H g<|.inl<|V0 b.symm
 .rw[Gd<|by simpa using b];by_cases d:0+1=x.size
  .rw[Jd<|by simpa using d];exact Td<|h _ _ (Gs.refl _)<|ix H g d
  .rw[Gd<|by simpa using d];refine Nd<|Wh ?_;refine Nd<|Af (Me (I:=λn c a=>Gs st a/\c.1=U/\J rk x y n c.2.1 c.2.2.1 c.2.2.2.1)
     (Q:=λc a=>Gs st a/\∃t,c.1=O t/\Po rk x y t) ?step ?fin ⟨Gs.refl _,Z,g,by show 0+1<x.size;exact W3 j d,by show 1<y.size;exact W3 i b,v4 _⟩) ?post
   case fin =>
    rintro c a ⟨_,_,h⟩;have b:=h.hi;have d:=h.hj;have G:=h.hN
    lia
   case step =>
    rintro n c a _ _ ⟨k,_,h⟩;refine Af (VS q H v k h) ?_;rintro r L ⟨m,h⟩;cases r with
    |done c=>exact⟨m,h⟩
    |yield c=>exact⟨m,h⟩
   case post=>rintro c a ⟨k,t,e,hP⟩;obtain⟨r,c⟩:=c;cases e;exact Td<|h _ _ k hP
end
noncomputable abbrev oI:=Do (Eo Ud)×Nat×Nat×Eo Ud×Nat×Nat×Nat
noncomputable abbrev f_:=Do (Eo Ud)×Nat×Nat×Eo Ud×Nat×Nat
noncomputable abbrev g_:=Do (Eo Ud)×Nat×Nat×Eo Ud×Nat
section
variable (x y:Eo Ud)
noncomputable def EC(o:Eo Ud)(i j:Nat):Eo Ud:=x.extract 0 i++y.extract 0 j++o.reverse
noncomputable def dR(o:Eo Ud)(i j:Nat):Eo Ud:=y.extract 0 j++x.extract 0 i++o.reverse
noncomputable def hi2(i j:Nat)(o:Eo Ud)(g ac a:Nat):StateT Vd Sem (ForInStep oI):=do
 let z<-Xe x (i-1)
 if (i-1==0)=Ep then pure (.done (O<|EC x y (o.push z) (i-1) j,i-1,j,o.push z,g,ac,a))
 else if (Es (ac<7)&&Es (a<7))=Ep then pure (.done (U,i-1,j,o.push z,g,ac,a))
 else pure (.yield (U,i-1,j,o.push z,g,ac,a))
noncomputable def hi1(i j:Nat)(o:Eo Ud)(g ac a:Nat):StateT Vd Sem (ForInStep oI):=do
 let z<-Xe y (j-1)
 if (j-1==1)=Ep then pure (.done (O<|dR x y (o.push z) i<|j-1,i,j-1,o.push z,g,ac,a))
 else do
  let u<-Xe x (i-1)
  let O p<-Kw Ep u y 0 (j-1) (j-1-1)|pure (.done (O<|EC x y (o.push z) i<|j-1,i,j-1,o.push z,g,ac,a))
  if j-1-p > 0 then
   if (p==1)=Ep then pure (.done (O<|dR x y (o.push z++(y.extract p<|j-1).reverse) i p,i,p,o.push z++(y.extract p<|j-1).reverse,g,ac,j-1-p))
   else if (p==0)=Ep then pure (.done (O<|EC x y (o.push z++(y.extract p<|j-1).reverse) i p,i,p,o.push z++(y.extract p<|j-1).reverse,g,ac,j-1-p))
   else hi2 x y i p (o.push z++(y.extract p<|j-1).reverse) g ac (j-1-p)
  else hi2 x y i (j-1) (o.push z) g ac (j-1-p)
noncomputable def h_(i j:Nat)(o:Eo Ud)(g ac a:Nat):StateT Vd Sem (ForInStep oI):=do
 modify λv=>oV v g
 let z<-Xe y (j-1)
 let O p<-Kw Er z x 0 i (i-1)|pure (.done (O<|EC x y o i j,i,j,o,g,ac,a))
 if i-p > 0 then
   if (p==0)=Ep then pure (.done (O<|EC x y (o++(x.extract p i).reverse) p j,p,j,o++(x.extract p i).reverse,g,i-p,a))
   else hi1 x y p j (o++(x.extract p i).reverse) g (i-p) a
 else hi1 x y i j o g (i-p) a
noncomputable def ma(t:oI):StateT Vd Sem (ForInStep oI) :=
 if t.2.2.2.2.1 > 1 then h_ x y t.2.1 t.2.2.1 t.2.2.2.1 (t.2.2.2.2.1-1) t.2.2.2.2.2.1 t.2.2.2.2.2.2
 else h_ x y t.2.1 t.2.2.1 t.2.2.2.1 t.2.2.2.2.1 t.2.2.2.2.2.1 t.2.2.2.2.2.2
noncomputable def qa(g:Nat)(t:f_):StateT Vd Sem (ForInStep f_):=do
 let z<-Xe y (t.2.2.1-1)
 let u<-Xe x (t.2.1-1)
 let O xw<-lt' z u|pure (.done (O<|EC x y t.2.2.2.1 t.2.1 t.2.2.1,t.2.1,t.2.2.1,t.2.2.2.1,t.2.2.2.2.1,t.2.2.2.2.2))
 if xw=Ep then do
   let z<-Xe x (t.2.1-1)
   if (t.2.1-1==0)=Ep then pure (.done (O<|EC x y (t.2.2.2.1.push z) (t.2.1-1) t.2.2.1,t.2.1-1,t.2.2.1,t.2.2.2.1.push z,t.2.2.2.2.1+1,0))
   else if t.2.2.2.2.1+1 ≥ g then pure (.done (U,t.2.1-1,t.2.2.1,t.2.2.2.1.push z,t.2.2.2.2.1+1,0))
   else pure (.yield (U,t.2.1-1,t.2.2.1,t.2.2.2.1.push z,t.2.2.2.2.1+1,0))
 else do
   let z<-Xe y (t.2.2.1-1)
   if (t.2.2.1-1==1)=Ep then pure (.done (O<|dR x y (t.2.2.2.1.push z) t.2.1<|t.2.2.1-1,t.2.1,t.2.2.1-1,t.2.2.2.1.push z,0,t.2.2.2.2.2+1))
   else if t.2.2.2.2.2+1 ≥ g then pure (.done (U,t.2.1,t.2.2.1-1,t.2.2.2.1.push z,0,t.2.2.2.2.2+1))
   else pure (.yield (U,t.2.1,t.2.2.1-1,t.2.2.2.1.push z,0,t.2.2.2.2.2+1))
noncomputable def i_(t:g_):StateT Vd Sem (ForInStep g_):=do
 let v<-forIn [:x.size+y.size] ((U,t.2.1,t.2.2.1,t.2.2.2.1,0,0):f_) λ_ v=>qa x y t.2.2.2.2 v
 match v.1 with
 |some r=>pure<|.done (O r,v.2.1,v.2.2.1,v.2.2.2.1,t.2.2.2.2)
 |none=>do
  liftM (rule "list.sort.gallop")
  let u<-forIn [:x.size+y.size] ((U,v.2.1,v.2.2.1,v.2.2.2.1,t.2.2.2.2+1,v.2.2.2.2.1,v.2.2.2.2.2):oI) λ_ u=>ma x y u
  match u.1 with
  |some r=>pure<|.done (O r,u.2.1,u.2.2.1,u.2.2.2.1,u.2.2.2.2.1)
  |none=>do
   modify λz=>oV z (u.2.2.2.2.1+1)
   pure (.yield (U,u.2.1,u.2.2.1,u.2.2.2.1,u.2.2.2.2.1+1))
end
theorem pI(x y:Eo Ud):X' x y=(do
    rule "list.sort.merge-hi"
    let tt:=x.size+y.size
    let dn (o:Eo Ud) (i j:Nat):=x.extract 0 i++y.extract 0 j++o.reverse
    let fs (o:Eo Ud) (i j:Nat):=y.extract 0 j++x.extract 0 i++o.reverse
    let mut i:=x.size-1
    let mut j:=y.size
    let mut o:Eo Ud:=#[<-Xe x i]
    if i==0 then return dn o i j
    if j==1 then return fs o i j
    let mut g:=Zm (<-get)
    for _ in [0:tt] do
      let mut ac:=0
      let mut bc:=0
      for _ in [0:tt] do
        let O xw<-lt' (<-Xe y (j-1)) (<-Xe x (i-1))|return dn o i j
        if xw then
          i:=i-1;o:=o.push (<-Xe x i);ac:=ac+1;bc:=0
          if i==0 then return dn o i j
          if ac ≥ g then break
        else
          j:=j-1;o:=o.push (<-Xe y j);bc:=bc+1;ac:=0
          if j==1 then return fs o i j
          if bc ≥ g then break
      rule "list.sort.gallop"
      g:=g+1
      for _ in [0:tt] do
        if g > 1 then g:=g-1
        modify (oV · g)
        let O p<-Kw Er (<-Xe y (j-1)) x 0 i (i-1)|return dn o i j
        let k:=i-p
        ac:=k
        if k > 0 then
          o:=o++(x.extract p i).reverse;i:=p
          if i==0 then return dn o i j
        j:=j-1;o:=o.push (<-Xe y j)
        if j==1 then return fs o i j
        let O p<-Kw Ep (<-Xe x (i-1)) y 0 j (j-1)|return dn o i j
        let k:=j-p
        bc:=k
        if k > 0 then
          o:=o++(y.extract p j).reverse;j:=p
          if j==1 then return fs o i j
          if j==0 then return dn o i j
        i:=i-1;o:=o.push (<-Xe x i)
        if i==0 then return dn o i j
        if ac<7&&bc<7 then break
      g:=g+1
      modify (oV · g)
    Ug "internal:list.sort.merge-bound"):=rfl
theorem QO(x y:Eo Ud):X' x y=(do
    liftM (rule "list.sort.merge-hi")
    let z<-Xe x (x.size-1)
    if (x.size-1==0)=Ep then pure (EC x y #[z] (x.size-1) y.size)
    else if (y.size==1)=Ep then pure (dR x y #[z] (x.size-1) y.size)
    else do
      let s<-get
      let v<-forIn [:x.size+y.size] ((U,x.size-1,y.size,#[z],Zm s):g_) λ_ v=>i_ x y v
      match v.1 with
      |some r=>pure r
      |none=>Ug "internal:list.sort.merge-bound"):=by
 rw[pI];dsimp only;refine Ae (bind _)<|funext λ_=>?_;refine Ae (bind _)<|funext λz=>?_;refine congr (Ae _ Z) ?_;refine congr (Ae _ Z) ?_;refine Ae (bind _)<|funext λs=>?_;refine congr (Ae bind ?A) (funext λv=>by obtain⟨r,v⟩:=v;cases r<;>rfl);refine Ae _<|funext λ_=>funext λv=>?_;unfold i_;refine congr (Ae bind Z)<|funext λv=>?_;obtain⟨r,v⟩:=v;cases r with
 |some r=>rfl
 |none=>refine Ae (bind _)<|funext λ_=>?_;refine congr (Ae bind ?A2) (funext λv=>by obtain⟨r,v⟩:=v;cases r<;>rfl);rfl
section
variable {x:Eo α}{i j k:Nat}
theorem UK(hi:i<=x.size):x.toList.reverse.drop (x.size-i)=(x.toList.take i).reverse:=by rw[List.drop_reverse,W0,lQ hi]
theorem VY(hi:i<=x.size)(h:v∈x.toList.reverse.drop (x.size-i)):∃(n:Nat) (a:n<x.size),n<i/\v=x[n]:=by rw[UK hi,List.mem_reverse]at h;obtain⟨n,a,e⟩:=V5 h;rw[G5,W0]at a;refine⟨n,u0 a<|K7 _ _,u0 a<|t7 _ _,?_⟩;rw[<-e,Q8,W4]
theorem CF(a:k<=i)(hi:i<=x.size):(x.extract k i).reverse.toList=(x.toList.reverse.drop<|x.size-i).take (i-k):=by rw[g8,t6,B5,UK hi,List.take_reverse,G5,W0,E5 hi,lQ a,List.drop_take]
theorem jx:(x.extract 0 i).toList=x.toList.take i:=by rw[t6,B5,List.drop_zero,Nat.sub_zero]
end
section
variable {w:Be}{κ:Wf}{rk:Ud->Nat}{S:Ud->Prop}{x y:Eo Ud}
abbrev Bb(rk:Ud->Nat):Ud->Ud->Prop:=λa b=>rk b<=rk a
structure MH(rk:Ud->Nat)(x y:Eo Ud)(o:Eo Ud)(i j:Nat):Prop where
 m:Mg (Bb rk) x.toList.reverse y.toList.reverse o.toList (x.size-i) (y.size-j)
 hi:i<=x.size
 hj:j<=y.size
theorem MH.comm{o:Eo Ud}(h:MH rk x y o i j):MH rk y x o j i:=⟨h.m.comm,h.hj,h.hi⟩
theorem MH.chunk(hx:x.toList.Pairwise (gG rk)){o:Eo Ud}{i j p:Nat}(h:MH rk x y o i j)(a:p<=i)(b:∀n (c:n<x.size) k (b:k<y.size),p<=n->n<i->k<j->rk y[k]<=rk x[n]):MH rk x y (o++(x.extract p i).reverse) p j:=by
 have hi:=h.hi;refine⟨?_,K0 a hi,h.hj⟩;rw[E4,CF a hi];have e:x.size-p=x.size-i+(i-p):=Eq.symm<|Nat.sub_add_sub_cancel hi a;rw[e];refine h.m.takeA (G6.mpr hx) (i-p) λv d u g=>?_;obtain⟨k,l,q,rfl⟩:=VY h.hj g;rw[<-CF a hi,g8,List.mem_reverse,t6,B5]at d;obtain⟨n,c,t,B,rfl⟩:=KW d;exact b n c k l t (u0 B<|V0<|P3 a) q
theorem MH.push(hx:x.toList.Pairwise (gG rk)){o:Eo Ud}{i j:Nat}(h:MH rk x y o i j)(h0:0<i)(a:∀k (a:k<y.size),k<j->rk y[k]<=rk (x[i-1]'(by have:=h.hi;exact O3 h0<|N4 this))) :
  MH rk x y (o.push<|x[i-1]'(by have:=h.hi;exact u0 (V6 h0<|by decide) this)) (i-1) j:=by
 have hi:=h.hi;have e:o.push (x[i-1]'(O3 h0<|N4 hi))=o++(x.extract (i-1) i).reverse:=by apply Array.toList_inj.mp;rw[c8,E4,CF (e8 _ _) hi,show i-(i-1)=1 by lia,A5<|by simp;exact V6 (u0 h0 hi) h0];simp only[List.take_succ_cons,List.take_zero,List.getElem_reverse,W4,W0];congr 3;exact Jc hi
 rw[e];refine h.chunk hx (e8 _ _) λn l k b c d g=>?_;have:n=i-1:=j4 (Q1 d) c;subst this;exact a k b g
theorem kx{o r:List Ud}(h:(o++a++b).Perm (x.toList.reverse++y.toList.reverse)/\(o++a++b).Pairwise (Bb rk))(e:r=(o++a++b).reverse):r.Perm (x.toList++y.toList)/\r.Pairwise (gG rk):=by subst e;exact⟨((aQ _).trans h.1).trans<|(aQ _).append<|aQ _,G6.mpr h.2⟩
theorem pH(H:Hy rk S x y){o:Eo Ud}{i j:Nat}(m:MH rk x y o i j)(h:i=0\/j=0):Po rk x y (EC x y o i j):=by
 refine kx (m.m.finC (G6.mpr H.hx) (G6.mpr H.hy) λv a u b=>?_) ?_
 .obtain⟨n,c,d,_⟩:=VY m.hj a;obtain⟨k,e,g,_⟩:=VY m.hi b
  lia
 .unfold EC;rw[E4,E4,jx,jx,UK m.hi,UK m.hj,g8];simp
theorem DF(H:Hy rk S x y){o:Eo Ud}{i j:Nat}(m:MH rk x y o i j)(h:j=1):Po rk x y (dR x y o i j):=by
 refine kx (m.m.fin (G6.mpr H.hx) (G6.mpr H.hy) λv a u b=>?_) ?_
 .obtain⟨n,c,e,rfl⟩:=VY m.hi a;obtain⟨k,g,d,rfl⟩:=VY m.hj b;have:k=0:=xQ (u5<|Nat.succ_pos _)<|u0 d<|V0 h;subst this;exact H.hf n c
 .unfold dR;rw[E4,E4,jx,jx,UK m.hi,UK m.hj,g8];simp
structure JH(rk:Ud->Nat)(x y:Eo Ud)(N:Nat)(i j:Nat)(o:Eo Ud):Prop where
 m:MH rk x y o i j
 hi:1<=i
 hj:2<=j
 hN:N+i+j<=x.size+y.size
def RH(rk:Ud->Nat)(x y:Eo Ud)(N:Nat)(c:oI):Prop:=(∃t,c.1=O t/\Po rk x y t)\/(c.1=U/\JH rk x y N c.2.1 c.2.2.1 c.2.2.2.1)
def j_(rk:Ud->Nat)(x y:Eo Ud)(N:Nat)(st:Vd)(r:ForInStep oI)(a:Vd):Prop :=
 Gs st a/\match r with
  | .done c=>RH rk x y N c
  | .yield c=>c.1=U/\JH rk x y N c.2.1 c.2.2.1 c.2.2.2.1
theorem cM(H:Hy rk S x y){N:Nat}{o:Eo Ud}{i j g ac c:Nat}{st d:Vd}(b:Gs st d)(m:MH rk x y o i j)(hi:1<=i)(t:2<=j)(hN:N+i+j<=x.size+y.size+1)
  (h:∀n (v:n<y.size),n<j->rk y[n]<=rk (x[i-1]'(by have:=m.hi;exact O3 hi<|N4 this))):wpS (Md prog w) A E s (hi2 x y i j o g ac c) (j_ rk x y N st) d:=by
 unfold hi2;have e:=m.hi;have k:=m.push H.hx hi h;refine Nd<|SZ (O3 hi<|N4 e) ?_;by_cases a:i-1=0
 .rw[Jd<|by simpa using a];exact Td ⟨b,.inl ⟨_,Z,pH H k<|.inl a⟩⟩
 .rw[Gd<|by simpa using a];have l:JH rk x y N (i-1) j (o.push<|x[i-1]'(u0 (V6 hi<|by decide) e)):=⟨k,S7.2 a,t,by lia⟩;by_cases q:(Es (ac<7)&&Es (c<7))=Ep
  .rw[Jd q];exact Td ⟨b,.inr ⟨Z,l⟩⟩
  .rw[Gd q];exact Td ⟨b,Z,l⟩
theorem dM(q:sK prog w A s κ rk S)(H:Hy rk S x y){N:Nat}{o:Eo Ud}{i j g ac M:Nat}{st L:Vd}(P:kindOf st=κ)(e:Gs st L)(m:MH rk x y o i j)(hi:1<=i)(l:2<=j)(hN:N+i+j<=x.size+y.size+1)
  (h:∀n (c:n<x.size),n<i->rk x[n]<=rk (y[j-1]'(by have:=m.hj;exact O3 (Y0 l)<|N4 this))):wpS (Md prog w) A E s (hi1 x y i j o g ac M) (j_ rk x y N st) L:=by
 unfold hi1;have ze:=m.hi;have R:=m.hj;have B:=(m.comm.push H.hy (T3 l) h).comm;refine Nd<|SZ (O3 (Y0 l)<|N4 R) ?_;by_cases t:j-1=1
 .rw[Jd<|by simpa using t];exact Td ⟨e,.inl ⟨_,Z,DF H B t⟩⟩
 .rw[Gd<|by simpa using t];refine Nd<|SZ (by lia) ?_;refine Nd<|TK q (e.kind.trans P) (H.Sx _ _) H.Sy (by lia) (λa b Y sf _ _=>oK H.hy Y sf) (V6 (Nat.lt_sub_of_add_lt l)<|S2 _) λp pn k1 k2=>?_;dsimp only;have np:∀n (c:n<y.size),n<p->rk y[n]<rk (x[i-1]'(by lia)):=λn c hp=>by
   have:=k1 n c (v4 _)<|U7 _ hp;rw[Jd Z]at this;exact this
  by_cases d:j-1-p > 0
  .rw[Jd d];have C:=(B.comm.chunk H.hy (p:=p) pn λn c k uf v n2 n3=>by
     have:=k2 n c (lX v<|v4 _)<|U7 _ n2;rw[Jd Z]at this;have:=oK H.hx (i:=k) (j:=i-1) (by lia)<|Q1 n3;exact K0 this ‹_›).comm;by_cases F:p=1
   .rw[Jd<|by simpa using F];exact Td ⟨e,.inl ⟨_,Z,DF H C F⟩⟩
   .rw[Gd<|by simpa using F];by_cases G:p=0
    .rw[Jd<|by simpa using G];exact Td ⟨e,.inl ⟨_,Z,pH H C<|.inr G⟩⟩
    .rw[Gd<|by simpa using G];exact cM H e C hi (by lia) (Rc hN d) λn c v=>Y0<|np n c v
  .rw[Gd d];exact cM H e B hi (Ya l t) (K0 (U0 (e8 _ _) _) hN) λn c v=>Y0 (np n c<|by omega)
theorem eM(q:sK prog w A s κ rk S)(H:Hy rk S x y){N:Nat}{o:Eo Ud}{i j g ac F:Nat}{st B:Vd}(t:kindOf st=κ)(G:Gs st B)(m:MH rk x y o i j)(hi:1<=i)(v:2<=j)(hN:N+i+j<=x.size+y.size+1):wpS (Md prog w) A E s (h_ x y i j o g ac F) (j_ rk x y N st) B:=by
 unfold h_;have L:=m.hi;have M:=m.hj;refine Nd<|Zf ?_;have e:=G.set g;refine Nd<|SZ (O3 (Y0 v)<|N4 M) ?_;refine Nd<|TK q (e.kind.trans t) (H.Sy _ _) H.Sx (lX L<|v4 _) (λa b P R _ _=>oK H.hx P R) (V6 hi<|S2 _) λp Y k1 k2=>?_;dsimp only;have np:∀n (c:n<x.size),n<p->rk x[n]<=rk (y[j-1]'(by lia)):=λn c hp=>by have:=k1 n c (v4 _)<|U7 _ hp;rw[Gd<|by decide]at this;exact this
 by_cases d:i-p > 0
 .rw[Jd d];have C:=m.chunk H.hx (p:=p) Y λn c k uf n1 n2 n3=>by
   have:=k2 n c (by lia) (by lia);rw[Gd<|by decide]at this;have:=oK H.hy (i:=k) (j:=j-1) (by lia)<|Q1 n3;exact K0 this<|Y0 ‹_›
  by_cases l:p=0
  .rw[Jd<|by simpa using l];exact Td ⟨e,.inl ⟨_,Z,pH H C<|.inl l⟩⟩
  .rw[Gd<|by simpa using l];exact dM q H t e C (S7.2 l) v (by lia) np
 .rw[Gd d];exact dM q H t e m hi v (by omega) λn c n1=>np n c (by lia)
theorem YS(q:sK prog w A s κ rk S)(H:Hy rk S x y){N:Nat}{c:oI}{st b:Vd}(d:kindOf st=κ)(e:Gs st b)(a:JH rk x y N c.2.1 c.2.2.1 c.2.2.2.1):wpS (Md prog w) A E s (ma x y c) (j_ rk x y (N+1) st) b:=by
 unfold ma;have:=a.hN;split
 .exact eM q H d e a.m a.hi a.hj (by lia)
 .exact eM q H d e a.m a.hi a.hj (by lia)
theorem ZS(q:sK prog w A s κ rk S)(H:Hy rk S x y){N g:Nat}{c:f_}{st:Vd}(B:kindOf st=κ)(C:JH rk x y N c.2.1 c.2.2.1 c.2.2.2.1) :
  wpS (Md prog w) A E s (qa x y g c) (λr F=>F=st/\match r with
    | .done c=>(∃t,c.1=O t/\Po rk x y t)\/(c.1=U/\JH rk x y (N+1) c.2.1 c.2.2.1 c.2.2.2.1)
    | .yield c=>c.1=U/\JH rk x y (N+1) c.2.1 c.2.2.1 c.2.2.2.1) st:=by
 unfold qa;obtain⟨m,hi,b,hN⟩:=C;have l:=m.hi;have v:=m.hj;refine Nd<|SZ (O3 (Y0 b)<|N4 v) ?_;refine Nd<|SZ (O3 hi<|N4 l) ?_;refine Nd<|w_lt q B (H.Sy _ _) (H.Sx _ _) ?_;dsimp only;by_cases ge:rk (y[c.2.2.1-1]'(O3 (Y0 b)<|N4 v))<rk (x[c.2.1-1]'(u0 (V6 hi<|by decide) l))
 .rw[Jd<|by simpa using ge];have d:=m.push H.hx hi λn G k=>by have:=oK H.hy (i:=n) (j:=c.2.2.1-1) (by lia)<|Q1 k;exact Y0<|L1 this ge
  refine Nd<|SZ (by lia) ?_;by_cases a:c.2.1-1=0
  .rw[Jd<|by simpa using a];exact Td ⟨Z,.inl ⟨_,Z,pH H d<|.inl a⟩⟩
  .rw[Gd<|by simpa using a];have e:JH rk x y (N+1) (c.2.1-1) c.2.2.1 (c.2.2.2.1.push<|x[c.2.1-1]'(by lia)):=⟨d,S7.2 a,b,by lia⟩;split
   .exact Td ⟨Z,.inr ⟨Z,e⟩⟩
   .exact Td ⟨Z,Z,e⟩
 .rw[Gd<|by simpa using ge];have d:=(m.comm.push H.hy (T3 b) λn G k=>by have:=oK H.hx (i:=n) (j:=c.2.1-1) (by lia)<|Q1 k;exact K0 this<|E1 ge).comm;refine Nd<|SZ (by lia) ?_;by_cases a:c.2.2.1-1=1
  .rw[Jd<|by simpa using a];exact Td ⟨Z,.inl ⟨_,Z,DF H d a⟩⟩
  .rw[Gd<|by simpa using a];have e:JH rk x y (N+1) c.2.1 (c.2.2.1-1) (c.2.2.2.1.push<|y[c.2.2.1-1]'(by lia)):=⟨d,by omega,Ya b a,by lia⟩;split
   .exact Td ⟨Z,.inr ⟨Z,e⟩⟩
   .exact Td ⟨Z,Z,e⟩
theorem JH.false{N:Nat}{o:Eo Ud}(h:JH rk x y N i j o)(hN:x.size+y.size<=N):Fo:=by
 have a:=h.hi;have b:=h.hj;have c:=h.hN
 lia
theorem aT(q:sK prog w A s κ rk S)(H:Hy rk S x y){N:Nat}{c:g_}{st b:Vd}(i:kindOf st=κ)(g:Gs st b)(k:JH rk x y N c.2.1 c.2.2.1 c.2.2.2.1) :
  wpS (Md prog w) A E s (i_ x y c) (λr b=>Gs st b/\match r with
    | .done c=>∃t,c.1=O t/\Po rk x y t
    | .yield c=>c.1=U/\JH rk x y (N+1) c.2.1 c.2.2.1 c.2.2.2.1) b:=by
 unfold i_;refine Nd<|Af (Me (I:=λn c a=>a=b/\c.1=U/\JH rk x y (N+n) c.2.1 c.2.2.1 c.2.2.2.1)
   (Q:=λc a=>a=b/\((∃t,c.1=O t/\Po rk x y t)\/(c.1=U/\JH rk x y N c.2.1 c.2.2.1 c.2.2.2.1))) ?step ?fin ⟨Z,Z,k⟩) ?post
 case fin=>rintro c a ⟨rfl,_,h⟩;exact(h.false<|K0 (c9 _ _)<|X2 _ _).elim
 case step =>
  rintro n c a _ _ ⟨rfl,_,h⟩;refine Af (ZS q H (g.kind.trans i) h) ?_;rintro r l ⟨rfl,h⟩;cases r with
  |done c =>
   refine⟨Z,h.imp id λh=>⟨h.1,h.2.m,h.2.hi,h.2.hj,?_⟩⟩;have:=h.2.hN
   lia
  |yield c=>exact⟨Z,h.1,h.2⟩
 case post =>
  rintro c a ⟨rfl,h⟩;obtain⟨r,c⟩:=c;rcases h with⟨t,e,h⟩|⟨e,h⟩
  .cases e;exact Td ⟨g,_,Z,h⟩
  .cases e;dsimp only;refine Nd<|Si<|Ve ⟨Z,?_⟩;refine Nd<|Af (Me (I:=λn c a=>Gs st a/\c.1=U/\JH rk x y (N+n) c.2.1 c.2.2.1 c.2.2.2.1)
     (Q:=λc a=>Gs st a/\RH rk x y (N+1) c) ?step2 ?fin2 ⟨g,Z,h⟩) ?post2
   case fin2=>rintro c a ⟨_,_,h⟩;exact(h.false<|K0 (c9 _ _)<|X2 _ _).elim
   case step2 =>
    rintro n c a _ _ ⟨d,_,h⟩;refine Af (YS q H i d h) ?_;rintro r l ⟨j,h⟩;cases r with
    |done c =>
     refine⟨j,Or.imp id (λh=>⟨h.1,h.2.m,h.2.hi,h.2.hj,?_⟩) h⟩;have:=h.2.hN
     lia
    |yield c=>exact⟨j,h.1,h.2⟩
   case post2 =>
    rintro c a ⟨d,h⟩;obtain⟨r,c⟩:=c;rcases h with⟨t,e,h⟩|⟨e,h⟩
    .cases e;exact Td ⟨d,_,Z,h⟩
    .cases e;exact Nd<|Zf<|Td ⟨d.set _,Z,h⟩
theorem bT(q:sK prog w A s κ rk S)(H:Hy rk S x y){st:Vd}{Q:Eo Ud->Vd->Prop}(m:kindOf st=κ)(h:∀r k,Gs st k->Po rk x y r->Q r k):wpS (Md prog w) A E s (X' x y) Q st:=by
 rw[QO];have v:=H.y0;have a:=H.x0;refine Nd<|Si<|Ve ⟨Z,?_⟩;refine Nd<|SZ (V6 a<|S2 _) ?_;have B:MH rk x y #[] x.size y.size:=⟨⟨by simp,by simp,by simp,by simp⟩,P0 _,P0 _⟩;have d:=B.push H.hx a λn C _=>H.hl n C;have F:(#[]:Eo Ud).push (x[x.size-1]'(Q6 _ _ a))=#[x[x.size-1]'(by lia)]:=rfl;rw[F]at d;by_cases g:x.size-1=0
 .rw[Jd<|by simpa using g];exact Td<|h _ _ (Gs.refl _)<|pH H d<|.inl g
 .rw[Gd<|by simpa using g];by_cases i:y.size=1
  .rw[Jd<|by simpa using i];exact Td<|h _ _ (Gs.refl _)<|DF H d i
  .rw[Gd<|by simpa using i];refine Nd<|Wh ?_;refine Nd<|Af (Me (I:=λn c b=>Gs st b/\c.1=U/\JH rk x y n c.2.1 c.2.2.1 c.2.2.2.1)
     (Q:=λc b=>Gs st b/\∃t,c.1=O t/\Po rk x y t) ?step ?fin ⟨Gs.refl _,Z,d,by show 1<=x.size-1;exact S7.2 g,by show 2<=y.size;lia,by show 0+(x.size-1)+y.size<=_;lia⟩) ?post
   case fin=>rintro c b ⟨_,_,h⟩;exact(h.false<|c9 _ _).elim
   case step =>
    rintro n c b _ _ ⟨j,_,h⟩;refine Af (aT q H m j h) ?_;rintro r G ⟨l,h⟩;cases r with
    |done c=>exact⟨l,h⟩
    |yield c=>exact⟨l,h⟩
   case post=>rintro c b ⟨j,t,e,hP⟩;obtain⟨r,c⟩:=c;cases e;exact Td<|h _ _ j hP
end
noncomputable def KR(a:Ud->Nat)(b:Eo Ud)(i:Nat):Nat:=match b[i]? with
 |some p=>a p
 |none=>0
theorem KR_at(h:i<xs.size):KR rk xs i=rk xs[i]:=by unfold KR;rw[getElem?_pos xs i h]
theorem xJ{ys:Eo Ud}(h:xs[i]?=ys[j]?):KR rk xs i=KR rk ys j:=by unfold KR;rw[h]
theorem SV(b:j<=xs.size)(k:Nat):KR rk (Ji xs i j<|(j-i) / 2) k=if i<=k/\k<j then KR rk xs (i+j-1-k) else KR rk xs k:=by
 have e:=Zl (i:=i) b k;split
 .rename_i a;rw[Jd a]at e;exact xJ e
 .rename_i a;rw[Gd a]at e;exact xJ e
theorem JG(g:c<xs.size)(hd:d<=c)(k:Nat):KR rk (bubble xs c d) k=if k=c-d then KR rk xs c else if c-d<k/\k<=c then KR rk xs (k-1) else KR rk xs k:=by
 have e:=getElem?_bubble g d hd k;split
 .rename_i a;rw[Jd a]at e;exact xJ e
 .rename_i a;rw[Gd a]at e;split
  .rename_i b;rw[Jd b]at e;exact xJ e
  .rename_i b;rw[Gd b]at e;exact xJ e
def Sg(a:Ud->Nat)(b:Eo Ud)(lo n:Nat):Prop:=∀i j,lo<=i->i<=j->j<lo+n->KR a b i<=KR a b j
def Dg(a:Ud->Nat)(b:Eo Ud)(lo n:Nat):Prop:=∀i j,lo<=i->i<=j->j<lo+n->KR a b j<=KR a b i
structure Bs(κ:Wf)(st:Vd)(lo n:Nat)(ce:Vd):Prop where
 perm:(arrOf ce).Perm (arrOf st)
 kind:kindOf ce=κ
 failed:Rg ce=U
 pend:Wd ce=Wd st
 keep:∀i,i<lo\/lo+n<=i->(arrOf ce)[i]?=(arrOf st)[i]?
theorem Bs.size{st:Vd}{lo:Nat}(h:Bs κ st lo n ce):(arrOf ce).size=(arrOf st).size:=h.perm.size_eq
theorem Bs.mir{st:Vd}{lo:Nat}(h:Bs κ st lo n ce)(a:j<=(arrOf st).size)(c:lo<=i)(d:j<=lo+n):Bs κ st lo n (Sn ce<|Ji (arrOf ce) i j<|(j-i) / 2) :=
 ⟨(mirror_perm _ _ _ _).trans h.perm,h.kind,h.failed,h.pend,λk b=>by show (Ji (arrOf ce) i j<|(j-i) / 2)[k]?=_;rw[Zl (by rw[h.size];exact a),Gd<|by lia];exact h.keep k b⟩
section
variable {w:Be}{κ:Wf}{rk:Ud->Nat}{S:Ud->Prop}{st:Vd}
abbrev AllS(S:Ud->Prop)(a:Eo Ud):Prop:=∀p,p∈a.toList->S p
theorem Bs.inS{lo:Nat}(a:AllS S (arrOf st))(h:Bs κ st lo n ce){i:Nat}(hi:i<(arrOf ce).size):S (arrOf ce)[i]:=a _ ((k7.mp h.perm).mem_iff.mp<|by simp)
theorem qH(q:sK prog w A s κ rk S){a:Vd}{lo n i j:Nat}{Q:Do Bool->Vd->Prop}(b:AllS S (arrOf st))(hB:Bs κ st lo n a)(hi:i<(arrOf st).size)(e:j<(arrOf st).size)(h:Q (O<|decide<|KR rk (arrOf a) i<KR rk (arrOf a) j) a):wpS (Md prog w) A E s (ltAt' i j) Q a:=by
 have c:i<(arrOf a).size:=by rw[hB.size];exact hi
 have d:j<(arrOf a).size:=by rw[hB.size];exact e
 rw[ltAt'_eq];refine Nd<|Wh ?_;refine Nd<|SZ c<|Nd<|SZ d ?_;refine w_lt q hB.kind (hB.inS b _) (hB.inS b _) ?_;rw[KR_at c,KR_at d]at h;exact h
noncomputable def Lw(lo a b:Nat):StateT Vd Sem AscSt :=
 forIn [a:b] ((U,a):AscSt) λ_ z=>do
  let O sm<-ltAt' (lo+z.2) (lo+z.2-1)|pure (.done (O U,z.2))
  if sm=Ep then pure (.done (U,z.2)) else pure (.yield (U,z.2+1))
noncomputable def eR(lo n a:Nat):StateT Vd Sem (Do Nat):=do
 Yg lo (lo+n)
 let z<-Lw lo n a
 match z.1 with
 |some r=>pure r
 |none=>pure<|O z.2
noncomputable def ox(lo n a:Nat):StateT Vd Sem DescSt :=
 forIn [n:a] ((U,n,0):DescSt) λ_ z=>do
  let O sm<-ltAt' (lo+z.2.1) (lo+z.2.1-1)|pure (.done (O U,z.2.1,z.2.2))
  if sm=Ep then
   if z.2.2 > 0 then do
    Yg (lo+z.2.1-(z.2.2+1)) (lo+z.2.1)
    pure (.yield (U,z.2.1+1,0))
   else pure (.yield (U,z.2.1+1,0))
  else do
   let O la<-ltAt' (lo+z.2.1-1) (lo+z.2.1)|pure (.done (O U,z.2.1,z.2.2))
   if la=Ep then pure (.done (U,z.2.1,z.2.2)) else pure (.yield (U,z.2.1+1,z.2.2+1))
noncomputable def cT(lo n a:Nat):StateT Vd Sem (Do Nat):=do
 liftM (rule "list.sort.descending-run")
 let z<-ox lo (n+1) a
 match z.1 with
 |some r=>pure r
 |none =>
  if z.2.2 > 0 then do
   Yg (lo+z.2.1-(z.2.2+1)) (lo+z.2.1)
   eR lo z.2.1 a
  else eR lo z.2.1 a
theorem RO(lo a:Nat):countRun' lo a=(do
    let z<-Lw lo 1 a
    match z.1 with
    |some r=>pure r
    | none =>
      if (z.2==a)=Ep then pure (O z.2)
      else if z.2 > 1 then do
        let O b<-ltAt' lo (lo+z.2-1)|pure U
        if b=Ep then pure (O z.2) else do
          Yg lo (lo+z.2)
          cT lo z.2 a
      else cT lo z.2 a):=by
 have c:∀m,(do
     Yg lo (lo+m)
     let z<-Lw lo m a
     match z.1 with
     |some r=>pure r
     |none=>pure<|O z.2)=eR lo m a:=λm=>rfl;rw[countRun'_eq];unfold cT eR ox Lw;refine congr (Ae bind Z)<|funext λz=>?_;obtain⟨r,n⟩:=z;cases r with
 |some r=>rfl
 |none =>
  dsimp only;have d:∀z:AscSt,(match z.1 with|some r=>pure r|none=>pure (O z.2):StateT Vd Sem (Do Nat))=match z.1 with|some r=>pure r|none=>pure (O z.2):=λz=>rfl
  split
  .rfl
  .split
   .congr 1;funext x;cases x with
    |none=>rfl
    |some b =>
     dsimp only;split
     .rfl
     .congr 1;funext _;congr 1;funext _;congr 1;funext z;obtain⟨r,m,q⟩:=z;cases r with
      |some r=>rfl
      |none =>
       dsimp only;split
       .congr 1;funext _;congr 1;funext _;congr 1;funext z;obtain⟨r,k⟩:=z;cases r<;>rfl
       .congr 1;funext _;congr 1;funext z;obtain⟨r,k⟩:=z;cases r<;>rfl
   .congr 1;funext _;congr 1;funext z;obtain⟨r,m,q⟩:=z;cases r with
    |some r=>rfl
    |none =>
     dsimp only;split
     .congr 1;funext _;congr 1;funext _;congr 1;funext z;obtain⟨r,k⟩:=z;cases r<;>rfl
     .congr 1;funext _;congr 1;funext z;obtain⟨r,k⟩:=z;cases r<;>rfl
theorem qx{Q:Unit->Vd->Prop}(h:Q () (Sn ce<|Ji (arrOf ce) i j<|(j-i) / 2)):wpS (Md prog w) A E s (Yg i j) Q ce:=by rw[reverseSlice'_eq];exact Zf h
theorem fM(q:sK prog w A s κ rk S){b:Vd}{lo N a d:Nat}{Q:AscSt->Vd->Prop}(y:AllS S (arrOf st))(B:lo+d<=(arrOf st).size)(C:1<=a)(g:a<=d)(hB:Bs κ st lo N b)(F:Sg rk (arrOf b) lo a)(h:∀n,a<=n->n<=d->Sg rk (arrOf b) lo n->(n=d\/KR rk (arrOf b) (lo+n)<KR rk (arrOf b) (lo+n-1))->Q (U,n) b):wpS (Md prog w) A E s (Lw lo a d) Q b:=by
 unfold Lw;refine Me (I:=λx c z=>z=b/\c=(U,x)/\Sg rk (arrOf b) lo x) ?step ?fin ⟨Z,Z,F⟩
 case fin=>rintro c z ⟨rfl,rfl,e⟩;rw[show max a d=d by exact Nat.max_eq_right g]at e ⊢;exact h d g (P0 _) e<|.inl rfl
 case step =>
  rintro x c z k l ⟨rfl,rfl,e⟩;dsimp only;refine Nd<|qH q y hB (u0 (Z4 l _) B) (by lia) ?_;dsimp only;by_cases hl:KR rk (arrOf z) (lo+x)<KR rk (arrOf z) (lo+x-1)
  .rw[Jd<|by simpa using hl];exact Td<|h x k (Y0 l) e<|.inr hl
  .rw[Gd<|by simpa using hl];refine Td ⟨Z,Z,λi j hi t G=>?_⟩;by_cases m:j<lo+x
   .exact e i j hi t m
   .have:j=lo+x:=xQ (E1 m) G;subst this;by_cases v:i=lo+x
    .subst v;exact P0 _
    .have:=e i (lo+x-1) hi (Q1<|W3 t v)<|p_ C k;exact K0 this<|E1 hl
theorem eT(q:sK prog w A s κ rk S){c:Vd}{lo n a:Nat}{Q:Do Nat->Vd->Prop}(v:AllS S (arrOf st))(e:lo+a<=(arrOf st).size)(k:1<=n)(d:n<=a)(hB:Bs κ st lo a c)(x:Dg rk (arrOf c) lo n)(h:∀m z,Bs κ st lo a z->1<=m->m<=a->Sg rk (arrOf z) lo m->Q (O m) z):wpS (Md prog w) A E s (eR lo n a) Q c:=by
 unfold eR;refine Nd<|qx ?_;have l:lo+n<=(arrOf c).size:=by rw[hB.size];exact K0 (U0 d _) e
 have b:=hB.mir (i:=lo) (j:=lo+n) (K0 (U0 d _) e) (P0 _)<|U0 d _;refine Nd<|fM q v e k d b (λi j hi g t=>?_) λm y B C _=>Td<|h m _ b (K0 k y) B C;show KR rk (Ji _ _ _ _) i<=KR rk (Ji _ _ _ _) j;rw[SV l,SV l,Jd<|⟨hi,L1 g t⟩,Jd<|⟨K0 hi g,t⟩];exact x _ _ (by omega) (pX g _) (by omega)
theorem WY(b:j<=xs.size)(a:∀k,i<=k->k<j->KR rk xs k=KR rk xs (j-1))(k:Nat):KR rk (Ji xs i j<|(j-i) / 2) k=KR rk xs k:=by
 rw[SV b];split
 .rw[a _ (by omega)<|by omega,a k (by lia)<|by lia]
 .rfl
theorem SO(q:sK prog w A s κ rk S){G:Vd}{lo n a:Nat}{Q:DescSt->Vd->Prop}(P:AllS S (arrOf st))(hn:lo+a<=(arrOf st).size)(h1:1<=n)(R:n<=a)(hB:Bs κ st lo a G)(hs:Dg rk (arrOf G) lo n)(h:∀m e z,Bs κ st lo a z->n<=m->m<=a->Dg rk (arrOf z) lo m->e+1<=m->(∀i,lo+m-(e+1)<=i->i<lo+m->KR rk (arrOf z) i=KR rk (arrOf z) (lo+m-1))->Q (U,m,e) z):wpS (Md prog w) A E s (ox lo n a) Q G:=by
 unfold ox;refine Me (I:=λx c z=>∃e,c=(U,x,e)/\Bs κ st lo a z/\Dg rk (arrOf z) lo x/\e+1<=x/\∀i,lo+x-(e+1)<=i->i<lo+x->KR rk (arrOf z) i=KR rk (arrOf z) (lo+x-1)) ?step ?fin
  ⟨0,Z,hB,hs,by omega,λi i1 i2=>by congr 1;exact j4 (Q1 i2) i1⟩
 case fin=>rintro c z ⟨e,rfl,b,d,l,t⟩;rw[show max n a=a by exact Nat.max_eq_right R]at d l t ⊢;exact h a e z b R (P0 _) d l t
 case step =>
  rintro x c z v y ⟨e,rfl,b,d,l,t⟩;dsimp only;have hz:lo+x<=(arrOf z).size:=by rw[b.size];lia
  refine Nd<|qH q P b (by lia) (by lia) ?_;dsimp only;by_cases hl:KR rk (arrOf z) (lo+x)<KR rk (arrOf z) (lo+x-1)
  .rw[Jd<|by simpa using hl];have Y:∀L:Eo Ud,(∀k,KR rk L k=KR rk (arrOf z) k)->Dg rk L lo (x+1):=λL hk i j hi C hj=>by
    rw[hk,hk];by_cases g:j<lo+x
    .exact d i j hi C g
    .have:j=lo+x:=by lia
     subst this;by_cases F:i=lo+x
     .subst F;exact P0 _
     .have:=d i (lo+x-1) hi (Q1<|W3 C F)<|p_ h1 v;exact Y0<|u0 hl this
   by_cases he:e > 0
   .rw[Jd he];exact Nd<|qx<|Td ⟨0,Z,b.mir (by lia) (Q1<|U0 l _)<|Y0<|Z4 y _,Y _<|WY hz t,X2 _ _,λi i1 i2=>by congr 1;exact j4 (Q1 i2) i1⟩
   .rw[Gd he];exact Td ⟨0,Z,b,Y _<|λ_=>rfl,X2 _ _,λi i1 i2=>by congr 1;exact n_ (X7 i1)<|Q1 i2⟩
  .rw[Gd<|by simpa using hl];refine Nd<|qH q P b (by lia) (by lia) ?_;dsimp only;by_cases M:KR rk (arrOf z) (lo+x-1)<KR rk (arrOf z) (lo+x)
   .rw[Jd<|by simpa using M];exact Td<|h x e z b v (Y0 y) d l t
   .rw[Gd<|by simpa using M];refine Td ⟨e+1,Z,b,λi j hi C hj=>?_,l8 l,λi i1 i2=>?_⟩
    .by_cases g:j<lo+x
     .exact d i j hi C g
     .have:j=lo+x:=by lia
      subst this;by_cases F:i=lo+x
      .subst F;exact P0 _
      .have:=d i (lo+x-1) hi (by lia) (by lia);exact K0 (E1 M) this
    .rw[show lo+(x+1)-1=lo+x by rfl];by_cases B:i=lo+x
     .subst B;rfl
     .have:=t i (by lia)<|W3 (u5 i2) B
      lia
theorem iT(q:sK prog w A s κ rk S){k:Vd}{lo n a:Nat}{Q:Do Nat->Vd->Prop}(l:AllS S (arrOf st))(c:lo+a<=(arrOf st).size)(B:n+1<=a)(hB:Bs κ st lo a k)(C:Dg rk (arrOf k) lo (n+1))(h:∀m z,Bs κ st lo a z->1<=m->m<=a->Sg rk (arrOf z) lo m->Q (O m) z):wpS (Md prog w) A E s (cT lo n a) Q k:=by
 unfold cT;refine Nd<|Si<|Ve ⟨Z,?_⟩;refine Nd<|SO q l c (X2 _ _) B hB C λm e z b L g d t v=>?_;dsimp only;have x:lo+m<=(arrOf z).size:=by rw[b.size];exact K0 (U0 g _) c
 by_cases y:e > 0
 .rw[Jd y];refine Nd<|qx<|eT q l c (c6 t) g (b.mir (K0 (U0 g _) c) (Q1<|U0 t _)<|U0 g _) (λi j hi F G=>?_) h;show KR rk (Ji _ _ _ _) j<=KR rk (Ji _ _ _ _) i;rw[WY x v,WY x v];exact d i j hi F G
 .rw[Gd y];exact eT q l c (c6 t) g b d h
theorem ua(q:sK prog w A s κ rk S){lo a:Nat}{Q:Do Nat->Vd->Prop}(v:AllS S (arrOf st))(d:lo+a<=(arrOf st).size)(F:1<=a)(hB:Bs κ st lo a st)(h:∀m z,Bs κ st lo a z->1<=m->m<=a->Sg rk (arrOf z) lo m->Q (O m) z):wpS (Md prog w) A E s (countRun' lo a) Q st:=by
 rw[RO];refine Nd<|fM q v d (P0 1) F hB (λi j hi e G=>by have:i=j:=(by lia);subst this;exact P0 _) λn g b x B=>?_;dsimp only;by_cases l:n=a
 .rw[Jd<|by simpa using l];exact Td<|h n st hB g b x
 .rw[Gd<|by simpa using l];have ge:=B.resolve_left l;by_cases c:n > 1
  .rw[Jd c];refine Nd<|qH q v hB (K0 (U0 F _) d) (u0 (V6 (U7 _ g)<|S2 _)<|K0 (U0 b _) d) ?_;dsimp only;by_cases C:KR rk (arrOf st) lo<KR rk (arrOf st) (lo+n-1)
   .rw[Jd<|by simpa using C];exact Td<|h n st hB g b x
   .rw[Gd<|by simpa using C];have L:lo+n<=(arrOf st).size:=K0 (U0 b _) d;have all:∀k,lo<=k->k<lo+n->KR rk (arrOf st) k=KR rk (arrOf st) (lo+n-1):=λk M P=>by
     have R:=x lo k (V0 Z) M P;have Y:=x k (lo+n-1) M (Q1 P)<|V6 (U7 _ g)<|S2 _;exact j4 Y<|K0 (E1 C) R
    refine Nd<|qx<|iT q v d (W3 b l) (hB.mir (by omega) (V0 Z)<|U0 b _) (λi j hi e G=>?_) h;show KR rk (Ji _ _ _ _) j<=KR rk (Ji _ _ _ _) i;rw[WY L all,WY L all];by_cases t:j<lo+n
    .have:=all i hi<|L1 e t;have:=all j (K0 hi e) t
     lia
    .have:j=lo+n:=by lia
     subst this;by_cases y:i=lo+n
     .subst y;exact P0 _
     .have:=all i hi<|W3 e y;exact le_of_le_of_eq (Y0 ge) this.symm
  .rw[Gd c];have:n=1:=j4 (E1 c) g;subst this;refine iT q v d (W3 b l) hB (λi j hi e G=>?_) h;by_cases y:i=j
   .subst y;exact P0 _
   .have e1:i=lo:=by lia
    have e2:j=lo+1:=by lia
    subst e1;subst e2;exact Y0 ge
theorem UO(q:sK prog w A s κ rk S){M:Vd}{lo N n ok:Nat}{Q:Bool->Vd->Prop}(Y:AllS S (arrOf st))(hn:lo+n<=(arrOf st).size)(hnN:n<=N)(hok:ok<=n)(hB:Bs κ st lo N M)(hs:Sg rk (arrOf M) lo ok)(h:∀z,Bs κ st lo N z->Sg rk (arrOf z) lo n->Q Ep z):wpS (Md prog w) A E s (binarySort' lo n ok) Q M:=by
 rw[binarySort'_eq];refine Nd<|Af (Me (I:=λk c z=>c=(U,())/\Bs κ st lo N z/\Sg rk (arrOf z) lo (min k n)) (Q:=λc z=>c=(U,())/\Bs κ st lo N z/\Sg rk (arrOf z) lo n) ?step ?fin ?init) ?post
 case post=>rintro c z ⟨rfl,b,g⟩;exact Td<|h z b g
 case init =>
  refine⟨Z,hB,λi j hi R hj=>?_⟩;by_cases e:ok=0
  .have:i=j:=by lia
   subst this;exact P0 _
  .exact hs i j hi R (by lia)
 case fin=>rintro c z ⟨hc,b,g⟩;refine⟨hc,b,?_⟩;rwa [show min (max (max ok 1) n) n=n by exact J7<|c9 _ _]at g
 case step =>
  rintro k c z hak P ⟨rfl,b,g⟩;rw[show min k n=k by exact E5<|Y0 P]at g;refine Nd<|Af (Me (I:=λx c a=>a=z/\∃l r,c=(U,l,r)/\l<=r/\r<=k/\r-l<=k-x/\(∀i,i<l->KR rk (arrOf z) (lo+i)<=KR rk (arrOf z) (lo+k))/\(∀i,r<=i->i<k->KR rk (arrOf z) (lo+k)<KR rk (arrOf z) (lo+i)))
    (Q:=λc a=>a=z/\∃l r,c=(U,l,r)/\l<=k/\(∀i,i<l->KR rk (arrOf z) (lo+i)<=KR rk (arrOf z) (lo+k))/\(∀i,l<=i->i<k->KR rk (arrOf z) (lo+k)<KR rk (arrOf z) (lo+i))) ?istep ?ifin ?iinit) ?ipost
  case iinit=>exact⟨Z,0,k,Z,v4 _,by lia,V0 rfl,λi hi=>by lia,λi e B=>by lia⟩
  case ifin=>rintro c a ⟨rfl,l,r,rfl,m,t,L,C,d⟩;have:l=r:=fb L m;subst this;exact⟨Z,l,l,Z,t,C,d⟩
  case istep =>
   rintro x c a _ hxk ⟨rfl,l,r,rfl,m,t,L,C,d⟩;dsimp only;by_cases v:l ≥ r
   .rw[Jd v];have:l=r:=j4 m v;subst this;exact Td ⟨Z,l,l,Z,t,C,d⟩
   .rw[Gd v];refine Nd<|qH q Y b (by lia) (by lia) ?_;dsimp only;by_cases hl:KR rk (arrOf a) (lo+k)<KR rk (arrOf a) (lo+(l+r) / 2)
    .rw[Jd<|by simpa using hl];refine Td ⟨Z,l,(l+r) / 2,Z,by lia,by lia,Ic L,C,λi e B=>?_⟩;have:=g (lo+(l+r) / 2) (lo+i) (W1 _ _) (U0 e _)<|Z4 B _;exact u0 hl this
    .rw[Gd<|by simpa using hl];refine Td ⟨Z,(l+r) / 2+1,r,Z,by lia,by omega,arg L,λi e=>?_,d⟩;have:=g (lo+i) (lo+(l+r) / 2) (W1 _ _) (Nat.add_le_add (V0 Z)<|u5 e) (by lia);exact K0 this<|E1 hl
  case ipost =>
   rintro c a ⟨rfl,l,r,rfl,hlk,C,d⟩;show wpS _ _ _ _ (do moveDown' (lo+k) (lo+l);pure (ForInStep.yield (U,()))) _ _;rw[moveDown'_eq];have y:lo+k<(arrOf a).size:=by rw[b.size];lia
   refine Nd<|Zf<|Td ⟨Z,⟨(bubble_perm _ _ _).trans b.perm,b.kind,b.failed,b.pend,λi hi=>?_⟩,?_⟩
   .show (bubble (arrOf a) _ _)[i]?=_;rw[getElem?_bubble y _<|by omega,Gd<|by omega,Gd<|by lia];exact b.keep i hi
   .rw[show min (k+1) n=k+1 by lia];intro i j hi R hj;show KR rk (bubble (arrOf a) (lo+k)<|lo+k-(lo+l)) i<=KR rk (bubble (arrOf a) (lo+k)<|lo+k-(lo+l)) j;rw[JG y<|by lia,JG y<|by lia,show lo+k-(lo+k-(lo+l))=lo+l by lia];have F:∀i,lo<=i->i<lo+l->KR rk (arrOf a) i<=KR rk (arrOf a) (lo+k):=λi e B=>by
     have:=C (i-lo)<|A6 e B;rwa [show lo+(i-lo)=i by lia]at this
    have G:∀i,lo+l<=i->i<lo+k->KR rk (arrOf a) (lo+k)<KR rk (arrOf a) i:=λi e B=>by have:=d (i-lo) (ZQ e)<|A6 (N1 e) B;rwa [show lo+(i-lo)=i by lia]at this
    repeat' split
    all_goals first
     |(exfalso;lia)
     |exact P0 _
     |exact F _ (by omega) (by lia)
     |exact Y0 (G _ (by lia)<|by omega)
     |exact g _ _ (by omega) (by lia) (by lia)
end
noncomputable def wb(d:Eo Ud)(c:Nat)(m:List Ud)(n:Nat):Eo Ud:=(m.zipIdx n).foldl (λa b=>a.setIfInBounds (c+b.2) b.1) d
theorem VO(i:Nat):mergeAt' i=(do
    let z<-get
    let (O (sa,na,pw),O (sb,nb,_)):=((Wd z)[i]?,(Wd z)[i+1]?)|Ug "internal:list.sort.pending"
    set (El z<|((Wd z).setIfInBounds i (sa,na+nb,pw)).eraseIdxIfInBounds<|i+1)
    let O k<-Kw Er (<-Xe (arrOf z) sb) (arrOf z) sa na 0|return Er
    let (sa,na):=(sa+k,na-k)
    if na==0 then return Ep
    let O nb<-Kw Ep (<-Xe (arrOf z) (sa+na-1)) (arrOf z) sb nb (nb-1)|return Er
    if nb==0 then return Ep
    let x:=(arrOf z).extract sa sb
    let y:=(arrOf z).extract sb<|sb+nb
    let r<-if na<=nb then W' x y else X' x y
    modify λv=>Sn v (wb (arrOf v) sa r.toList 0)
    return (Rg (<-get)).isNone):=rfl
theorem Qz:∀(m:List Ud) (n c:Nat) (a:Eo Ud),c+n+m.length<=a.size->∀k,(wb a c m n)[k]?=if c+n<=k/\k<c+n+m.length then m[k-(c+n)]? else a[k]?
 |[],n,c,a,_,k=>by show a[k]?=_;rw[Gd<|by simp]
 |p::m,n,c,a,h,k=>by
  have hl:(p::m).length=m.length+1:=rfl;show (wb (a.setIfInBounds (c+n) p) c m<|n+1)[k]?=_;rw[Qz m (n+1) c _ (by rw[eQ];lia),Array.getElem?_setIfInBounds];by_cases d:c+n=k
  .subst d;rw[Gd<|by lia,Jd Z,Jd<|by lia,Jd<|by lia];simp
  .by_cases b:c+(n+1)<=k/\k<c+(n+1)+m.length
   .rw[Jd b,Jd<|⟨Y0<|Nat.lt_of_succ_le b.1,lt_of_lt_of_eq b.2<|fQ _ _⟩];have e:k-(c+n)=(k-(c+(n+1)))+1:=Mc b.1;rw[e,B3]
   .rw[Gd b,Gd d,Gd<|by lia]
theorem qI(h:c+m.length<=xs.size):(wb xs c m 0).toList=xs.toList.take c++m++xs.toList.drop (c+m.length):=by
 apply List.ext_getElem?;intro k;rw[E3,Qz m 0 c xs<|by omega];have hl:(xs.toList.take c).length=c:=by rw[G5,W0];exact E5<|N1 h
 rw[V2];by_cases a:k<c
 .rw[Gd<|by lia,A4<|u0 a<|V0 hl.symm,dQ a,E3]
 .rw[W2<|le_of_eq_of_le hl<|E1 a,hl];by_cases b:k-c<m.length
  .rw[Jd<|by lia,A4 b];rfl
  .rw[Gd<|by lia,W2<|E1 b,yX,E3];congr 1;exact Nc b a
section
variable {w:Be}{κ:Wf}{rk:Ud->Nat}{S:Ud->Prop}{st:Vd}
theorem ext_at{c:Eo Ud}{a b i:Nat}(d:b<=c.size)(hi:i<(c.extract a b).size):(c.extract a b)[i]=c[a+i]'(by rw[y8]at hi;lia):=by rw[Array.getElem_extract]
theorem Du(c:b<=xs.size)(h:∀i j,a<=i->i<=j->j<b->KR rk xs i<=KR rk xs j):(xs.extract a b).toList.Pairwise (gG rk):=by
 rw[B4];intro i j hi d e;rw[W0]at hi d;rw[W4,W4,ext_at c,ext_at c];have g:(xs.extract a b).size=b-a:=by rw[y8];lia
 have:=h (a+i) (a+j) (W1 _ _) (Y0<|Z4 e _)<|Y7<|lt_of_lt_of_eq d g;rwa [KR_at<|by lia,KR_at<|by lia]at this
structure Mt(κ:Wf)(rk:Ud->Nat)(st:Vd)(i sa na nb pw:Nat)(ce:Vd):Prop where
 perm:(arrOf ce).Perm (arrOf st)
 kind:kindOf ce=κ
 failed:Rg ce=U
 pend:Wd ce=((Wd st).setIfInBounds i (sa,na+nb,pw)).eraseIdxIfInBounds (i+1)
 keep:∀j,j<sa\/sa+(na+nb)<=j->(arrOf ce)[j]?=(arrOf st)[j]?
 sg:Sg rk (arrOf ce) sa (na+nb)
theorem jT(q:sK prog w A s κ rk S){i c d L pw pw':Nat}{Q:Bool->Vd->Prop}(hS:AllS S (arrOf st))(hk:kindOf st=κ)(hF:Rg st=U)(p1:(Wd st)[i]?=O (c,d,pw))(p2:(Wd st)[i+1]?=O (c+d,L,pw'))(x:c+d+L<=(arrOf st).size) (n1:1<=d) (n2:1<=L) (s1:Sg rk (arrOf st) c d) (s2:Sg rk (arrOf st) (c+d) L) (h:∀ce,Mt κ rk st i c d L pw ce->Q Ep ce):wpS (Md prog w) A E s (mergeAt' i) Q st:=by
 rw[VO];refine Nd<|Wh ?_;rw[p1,p2];dsimp only;refine Nd<|Zf (f:=λ_=>El st<|((Wd st).setIfInBounds i (c,d+L,pw)).eraseIdxIfInBounds<|i+1) ?_;generalize y:El st (((Wd st).setIfInBounds i (c,d+L,pw)).eraseIdxIfInBounds<|i+1)=G;have uf:kindOf G=κ:=by rw[<-y];exact hk
 have M:Rg G=none:=by rw[<-y];exact hF
 have xr:arrOf G=arrOf st:=by rw[<-y]
 have hP1:Wd G=((Wd st).setIfInBounds i (c,d+L,pw)).eraseIdxIfInBounds (i+1):=by rw[<-y]
 have B:∀j (hj:j<(arrOf st).size),S (arrOf st)[j]:=λj hj=>hS _ (by simp);have kr:∀a b,c<=a->a<=b->b<c+d->KR rk (arrOf st) a<=KR rk (arrOf st) b:=s1;have P:∀a b,c+d<=a->a<=b->b<c+d+L->KR rk (arrOf st) a<=KR rk (arrOf st) b:=s2;refine Nd<|SZ (K0 (U0 n2 _) x) ?_;refine Nd<|TK q uf (B _ _) B (N1 x) (λa b C R t m=>by
   have:=kr a b t R m;rwa [KR_at<|L1 R C,KR_at C]at this) n1 λk kn k1 k2=>?_;dsimp only;have np:∀a,c<=a->a<c+k->KR rk (arrOf st) a<=KR rk (arrOf st) (c+d):=λa t m=>by
  have:=k1 a (u0 m<|K0 (U0 kn _)<|N1 x) t m;rw[Gd<|by decide]at this;rwa [KR_at<|by lia,KR_at<|K0 (U0 n2 _) x]
 have k2':∀a,c+k<=a->a<c+d->KR rk (arrOf st) (c+d)<KR rk (arrOf st) a:=λa t m=>by have:=k2 a (u0 m<|N1 x) t m;rw[Gd<|by decide]at this;rwa [KR_at<|by lia,KR_at<|u0 m<|N1 x]
 by_cases h0:d-k=0
 .rw[Jd<|by simpa using h0];refine Td<|h G ⟨by rw[xr],uf,M,hP1,λj _=>by rw[xr],λa b t m h3=>?_⟩;rw[xr];by_cases C:b<c+d
  .exact kr a b t m C
  .by_cases F:a<c+d
   .exact K0 (np a t<|by lia) (P (c+d) b (V0 Z) (E1 C)<|by lia)
   .exact P a b (E1 F) m (by lia)
 .rw[Gd<|by simpa using h0];refine Nd<|SZ (q_ x h0) ?_;refine Nd<|TK q uf (B _ _) B (by omega) (λa b C R t m=>by
    have:=P a b t R m;rwa [KR_at<|L1 R C,KR_at C]at this) (V6 n2<|S2 _) λl ln l1 l2=>?_;dsimp only;have l1':∀a,c+d<=a->a<c+d+l->KR rk (arrOf st) a<KR rk (arrOf st) (c+k+(d-k)-1):=λa t m=>by
   have:=l1 a (u0 m<|K0 (U0 ln _) x) t m;rw[Jd Z]at this;rwa [KR_at<|by lia,KR_at<|q_ x h0]
  have l2':∀a,c+d+l<=a->a<c+d+L->KR rk (arrOf st) (c+k+(d-k)-1)<=KR rk (arrOf st) a:=λa t m=>by have:=l2 a (u0 m x) t m;rw[Jd Z]at this;rwa [KR_at<|by lia,KR_at<|by lia]
  have el:c+k+(d-k)-1=c+d-1:=Lc h0;rw[el]at l1' l2';by_cases hl0:l=0
  .rw[Jd<|by simpa using hl0];refine Td<|h G ⟨by rw[xr],uf,M,hP1,λj _=>by rw[xr],λa b t m h3=>?_⟩;rw[xr];by_cases C:b<c+d
   .exact kr a b t m C
   .by_cases F:a<c+d
    .exact K0 (kr a (c+d-1) t (Q1 F)<|V6 (U7 _ n1)<|S2 _) (l2' b (by lia)<|by lia)
    .exact P a b (by lia) m (by lia)
  .rw[Gd<|by simpa using hl0];have hxz:((arrOf st).extract (c+k)<|c+d).size=d-k:=by rw[y8];exact Gc x
   have hyz:((arrOf st).extract (c+d)<|c+d+l).size=l:=by rw[y8];lia
   have H:Hy rk S ((arrOf st).extract (c+k)<|c+d) ((arrOf st).extract (c+d)<|c+d+l):=by
    refine⟨Du (N1 x) λa b t m h3=>kr a b (N1 t) m h3,Du (K0 (U0 ln _) x) λa b t m h3=>P a b t m<|u0 h3<|U0 ln _,λj hj=>?_,λj hj=>?_,by lia,by lia,λj hj=>?_,λj hj=>?_⟩
    .rw[ext_at<|by lia];exact B _ _
    .rw[ext_at<|K0 (U0 ln _) x];exact B _ _
    .rw[ext_at<|by lia,ext_at<|by lia];have:=l1' (c+d+j) (W1 _ _)<|lt_of_lt_of_eq (Z4 hj _)<|Nat.add_left_cancel_iff.2 hyz;rw[KR_at<|by lia,KR_at<|L1 (V0 el.symm)<|q_ x h0]at this;simp only[hxz];have e2:c+k+(d-k-1)=c+d-1:=Hc h0;simp only[e2];exact Y0 this
    .rw[ext_at<|by lia,ext_at<|by lia];have:=k2' (c+k+j) (W1 _ _) (by omega);rw[KR_at<|by lia,KR_at<|by omega]at this;simp only[Nat.add_zero];exact Y0 this
   have go:∀(r:Eo Ud) (qi:Vd),Gs G qi->Po rk ((arrOf st).extract (c+k)<|c+d) ((arrOf st).extract (c+d)<|c+d+l) r->wpS (Md prog w) A E s (do
       modify λv=>Sn v<|wb (arrOf v) (c+k) r.toList 0
       let v<-get
       pure (Rg v).isNone) Q qi:=by
    rintro r qi ⟨g,rfl⟩ ⟨hp,hw⟩;refine Nd<|Zf<|Nd<|Wh ?_;have je:r.toList.length=d-k+l:=by rw[hp.length_eq,T0,W0,W0,hxz,hyz]
    have C:c+k+r.toList.length<=(arrOf st).size:=by omega
    have eA:arrOf (Sn (oV G g)<|wb (arrOf<|oV G g) (c+k) r.toList 0)=wb (arrOf st) (c+k) r.toList 0:=by show wb (arrOf G) _ _ _=_;rw[xr]
    have eF:Rg (Sn (oV G g)<|wb (arrOf<|oV G g) (c+k) r.toList 0)=none:=M;rw[eF];have gt:∀j,(wb (arrOf st) (c+k) r.toList 0)[j]?=if c+k<=j/\j<c+k+r.toList.length then r.toList[j-(c+k)]? else (arrOf st)[j]?:=λj=>Qz r.toList 0 (c+k) (arrOf st) C j;have mid:∀j,c+k<=j->j<c+d+l->∃n,c+k<=n/\n<c+d+l/\KR rk (wb (arrOf st) (c+k) r.toList 0) j=KR rk (arrOf st) n:=λj j1 j2=>by
     have hj:j-(c+k)<r.toList.length:=jb j2 je h0;have e:KR rk (wb (arrOf st) (c+k) r.toList 0) j=rk (r.toList[j-(c+k)]'hj):=by unfold KR;rw[gt,Jd<|by omega,L0 hj]
     have hm:=hp.mem_iff.mp<|S5 hj;rw[e];rcases B2.mp hm with hm|hm
     .obtain⟨n,hn,Y⟩:=V5 hm;rw[W0]at hn;rw[W4,ext_at<|by lia]at Y;refine⟨c+k+n,by lia,Kc hn hxz,?_⟩;rw[<-Y,KR_at<|by lia]
     .obtain⟨n,hn,Y⟩:=V5 hm;rw[W0]at hn;rw[W4,ext_at<|by lia]at Y;refine⟨c+d+n,K0 (U0 kn _)<|W1 _ _,by lia,?_⟩;rw[<-Y,KR_at<|by lia]
    have out:∀j,j<c+k\/c+d+l<=j->(wb (arrOf st) (c+k) r.toList 0)[j]?=(arrOf st)[j]?:=λj hj=>by rw[gt,Gd<|by omega]
    refine Td<|h _ ⟨?_,uf,M,hP1,?_,?_⟩
    .rw[eA,k7,qI C];have e:(arrOf st).toList=(arrOf st).toList.take (c+k)++(((arrOf st).extract (c+k)<|c+d).toList++((arrOf st).extract (c+d)<|c+d+l).toList)++(arrOf st).toList.drop (c+k+r.toList.length):=by
      rw[t6,t6,B5,B5];have e1:(arrOf st).toList.drop (c+d)=((arrOf st).toList.drop<|c+k).drop (d-k):=by rw[gX];congr 1;exact gb h0
      rw[e1,show c+d-(c+k)=d-k by exact hX _ _ _,show c+d+l-(c+d)=l by exact i4 _ _,<-List.take_add,je];have e2:(arrOf st).toList.drop (c+k+(d-k+l))=((arrOf st).toList.drop<|c+k).drop (d-k+l):=by rw[gX]
      rw[e2,V2,Z5,Z5]
     conv=>rhs;rw[e]
     exact(hp.append_left _).append_right _
    .intro j hj;rw[eA];exact out j (by lia)
    .rw[eA];intro a b t m h3;have kA:∀a,a<c+k->KR rk (wb (arrOf st) (c+k) r.toList 0) a=KR rk (arrOf st) a:=λa F=>xJ<|out a<|.inl F;have kB:∀a,c+d+l<=a->KR rk (wb (arrOf st) (c+k) r.toList 0) a=KR rk (arrOf st) a:=λa F=>xJ<|out a<|.inr F;by_cases F:a<c+k
     .rw[kA a F];by_cases yg:b<c+k
      .rw[kA b yg];exact kr a b t m<|u0 yg<|U0 kn _
      .by_cases ng:b<c+d+l
       .obtain⟨n,m1,m2,Y⟩:=mid b (by lia) ng;rw[Y];by_cases hn:n<c+d
        .exact kr a n t (Y0<|u0 F m1) hn
        .exact K0 (np a t F) (P (c+d) n (V0 Z) (by lia)<|u0 m2<|U0 ln _)
       .rw[kB b<|E1 ng];exact K0 (np a t F) (P (c+d) b (by lia) (N1<|E1 ng)<|by lia)
     .by_cases gg:a<c+d+l
      .by_cases ng:b<c+d+l
       .have ha':a-(c+k)<r.toList.length:=jb gg je h0;have hb':b-(c+k)<r.toList.length:=by lia
        have ea:KR rk (wb (arrOf st) (c+k) r.toList 0) a=rk (r.toList[a-(c+k)]'ha'):=by unfold KR;rw[gt,Jd<|by omega,L0 ha']
        have eb:KR rk (wb (arrOf st) (c+k) r.toList 0) b=rk (r.toList[b-(c+k)]'hb'):=by unfold KR;rw[gt,Jd<|by lia,L0 hb']
        rw[ea,eb];rcases B9 a b with R|R
        .exact B4.mp hw _ _ ha' hb' (iX (E1 F) R)
        .have:a=b:=j4 m R;subst this;exact P0 _
       .obtain⟨n,m1,m2,Y⟩:=mid a (by lia) gg;rw[Y,kB b<|E1 ng];by_cases hn:n<c+d
        .exact K0 (kr n (c+d-1) (N1 m1) (Q1 hn)<|p_ n1<|V0 Z) (l2' b (by lia)<|by lia)
        .exact P n b (by lia) (K0 (Y0 m2)<|E1 ng) (by lia)
      .rw[kB a<|by lia,kB b<|K0 (E1 gg) m];exact P a b (by lia) m (by lia)
   by_cases jh:d-k<=l
   .simp only[Jd jh];exact Nd<|XS q H uf λr qi hg hP=>go r qi hg hP
   .simp only[Gd jh];exact Nd<|bT q H uf λr qi hg hP=>go r qi hg hP
end
noncomputable def Ch(a:Ud->Nat)(c:Eo Ud):List (Nat×Nat×Nat)->Nat->Nat->Prop
 |[],b,e=>b=e
 |p::l,b,e=>p.1=b/\1<=p.2.1/\Sg a c b p.2.1/\Ch a c l (b+p.2.1) e
theorem Ch.len{a:Ud->Nat}{c:Eo Ud}:∀{l:List (Nat×Nat×Nat)}{b e:Nat},Ch a c l b e->b+l.length<=e
 |[],b,e,h=>by cases h;simp
 |p::l,b,e,h=>by
  have:=h.2.2.2.len;have:=h.2.1;rw[J2]
  lia
theorem Ch.append{g:Ud->Nat}{i:Eo Ud}:∀{l d:List (Nat×Nat×Nat)}{b e:Nat},Ch g i (l++d) b e ↔ ∃m,Ch g i l b m/\Ch g i d m e
 |[],d,b,e=>⟨λh=>⟨b,Z,h⟩,λ⟨m,a,c⟩=>by cases a;exact c⟩
 |p::l,d,b,e=>⟨λ⟨a,c,j,t⟩=>by obtain⟨m,k,q⟩:=Ch.append.mp t;exact⟨m,⟨a,c,j,k⟩,q⟩,λ⟨m,⟨a,c,j,k⟩,q⟩=>⟨a,c,j,Ch.append.mpr ⟨m,k,q⟩⟩⟩
theorem Ch.congr{d:Ud->Nat}{g ys:Eo Ud}:∀{l:List (Nat×Nat×Nat)}{b e:Nat},(∀i,b<=i->i<e->ys[i]?=g[i]?)->Ch d g l b e->Ch d ys l b e
 |[],_,_,_,h=>h
 |p::l,b,e,k,⟨q,t,v,m⟩=>by have:=m.len;refine⟨q,t,λi j hi a c=>?_,m.congr λi hi w=>k i (N1 hi) w⟩;rw[xJ<|k i hi<|L1 a<|u0 c<|N1 this,xJ<|k j (K0 hi a)<|u0 c<|N1 this];exact v i j hi a c
structure In(κ:Wf)(rk:Ud->Nat)(st:Vd)(lo:Nat)(ce:Vd):Prop where
 perm:(arrOf ce).Perm (arrOf st)
 kind:kindOf ce=κ
 failed:Rg ce=U
 ch:Ch rk (arrOf ce) (Wd ce).toList 0 lo
theorem In.size{st:Vd}{lo:Nat}(h:In κ rk st lo ce):(arrOf ce).size=(arrOf st).size:=h.perm.size_eq
section
variable {w:Be}{κ:Wf}{rk:Ud->Nat}{S:Ud->Prop}{st:Vd}
theorem AllS.perm{ys:Eo Ud}(h:AllS S xs)(p:ys.Perm xs):AllS S ys:=λq a=>h q<|(k7.mp p).mem_iff.mp a
theorem gM(q:sK prog w A s κ rk S){i lo:Nat}{a:Vd}{Q:Bool->Vd->Prop}(hS:AllS S (arrOf st))(hI:In κ rk st lo a)(zp:lo<=(arrOf st).size)(hi:i+1<(Wd a).size)(h:∀d,In κ rk st lo d->(Wd d).size+1=(Wd a).size->(∀j,lo<=j->(arrOf d)[j]?=(arrOf a)[j]?)->Q Ep d):wpS (Md prog w) A E s (mergeAt' i) Q a:=by
 obtain⟨perm,kind,b,ch⟩:=hI;have hl:(Wd a).toList.length=(Wd a).size:=W0;obtain⟨c,p,B,post,e,g⟩:∃c p B post,(Wd a).toList=c++p::B::post/\c.length=i:=by refine⟨(Wd a).toList.take i,(Wd a).toList[i]'(J8 (S2 _)<|u0 hi<|V0 hl.symm),(Wd a).toList[i+1]'(by omega),(Wd a).toList.drop<|i+2,?_,by rw[G5];exact E5<|T6<|Y0 hi⟩;have v:=A5 (l:=(Wd a).toList) (i:=i)<|R7 hi;have x:=A5 (l:=(Wd a).toList) (i:=i+1) (by omega);rw[<-x,<-v,Z5]
 rw[e]at ch;obtain⟨m,c1,c2⟩:=Ch.append.mp ch;obtain⟨k,t,P⟩:=p;obtain⟨sb,y,C⟩:=B;obtain⟨R,F,Y,g1,g2,g3,G⟩:=c2;dsimp only at R F Y g1 g2 g3 G;subst R;subst g1;have je:=G.len;have q1:(Wd a)[i]?=O (k,t,P):=by rw[<-E3,e,W2<|V0 g,g,zQ];rfl
 have q2:(Wd a)[i+1]?=O (k+t,y,C):=by rw[<-E3,e,W2 (by exact X5<|V0 g),g,i4];rfl
 have hz:=perm.size_eq;refine jT q (hS.perm perm) kind b q1 q2 (by lia) F g2 Y g3 λd M=>?_;have el:(Wd d).toList=c++(k,t+y,P)::post:=by rw[M.pend,Array.toList_eraseIdxIfInBounds,Array.toList_setIfInBounds,e,<-g,List.set_append_right _ _<|P0 _,zQ,List.eraseIdx_append_of_length_le<|W1 _ _,i4];rfl
 refine h d ⟨M.perm.trans perm,M.kind,M.failed,?_⟩ ?_ λj L=>M.keep j (.inr<|by lia)
 .rw[el];refine Ch.append.mpr ⟨k,c1.congr λj _ L=>M.keep j<|.inl L,Z,by show 1<=t+y;exact IQ F,M.sg,?_⟩;show Ch rk _ post (k+(t+y)) lo;rw[<-o5];exact G.congr λj L _=>M.keep j (.inr<|by lia)
 .have v:=Ae W5 el;have x:=Ae W5 e;rw[W0]at v x;simp only[T0,J2]at v x
  lia
theorem Ch.modify{a:Eo Ud}(c:Nat):∀{l:List (Nat×Nat×Nat)}{i b e:Nat},Ch rk a l b e->Ch rk a (l.modify i λx=>(x.1,x.2.1,c)) b e
 |[],i,_,_,h=>by cases i<;>exact h
 |p::l,0,_,_,h=>h
 |p::l,i+1,_,_,⟨d,g,j,k⟩=>⟨d,g,j,k.modify c (i:=i)⟩
theorem In.put{lo n:Nat}{z:Vd}(h:In κ rk st lo z):In κ rk st lo (El z<|(Wd z).modify ((Wd z).size-1) λx=>(x.1,x.2.1,pw)) :=
 ⟨h.perm,h.kind,h.failed,by show Ch rk (arrOf z) ((Wd z).modify ((Wd z).size-1) λx=>(x.1,x.2.1,pw)).toList 0 lo;rw[Array.toList_modify];exact h.ch.modify pw⟩
theorem In.push{lo:Nat}{z:Vd}(h:In κ rk st lo z)(a:1<=n)(hs:Sg rk (arrOf z) lo n):In κ rk st (lo+n) (El z<|(Wd z).push (lo,n,0)) :=
 ⟨h.perm,h.kind,h.failed,by show Ch rk (arrOf z) ((Wd z).push (lo,n,0)).toList 0 (lo+n);rw[c8];exact Ch.append.mpr ⟨lo,h.ch,Z,a,hs,Z⟩⟩
theorem In.run{lo:Nat}{z:Vd}(h:In κ rk st lo z)(b:Bs κ z lo n z'):In κ rk st lo z' :=
 ⟨b.perm.trans h.perm,b.kind,b.failed,by rw[b.pend];exact h.ch.congr λi _ hi=>b.keep i<|.inl hi⟩
theorem Sg.congr{ys:Eo Ud}{lo:Nat}(h:Sg rk xs lo n)(k:∀j,lo<=j->ys[j]?=xs[j]?):Sg rk ys lo n:=λi j hi a b=>by rw[xJ<|k i hi,xJ<|k j<|K0 hi a];exact h i j hi a b
theorem w_sort(q:sK prog w A s κ rk S){Q:Unit->Vd->Prop}(hS:AllS S (arrOf st))(hk:kindOf st=κ)(hF:Rg st=U)(hP:Wd st=#[])(h:∀G,(arrOf G).Perm (arrOf st)->Rg G=U->Sg rk (arrOf G) 0 (arrOf st).size->Q () G):wpS (Md prog w) A E s sortRuns' Q st:=by
 rw[sortRuns'_eq];refine Nd<|Wh ?_;dsimp only;have I0:In κ rk st 0 st:=⟨Array.Perm.refl _,hk,hF,by rw[hP];rfl⟩;refine Nd<|Af (Me (I:=λx c z=>∃lo,c=(U,lo)/\In κ rk st lo z/\lo<=(arrOf st).size/\(x<=lo\/lo=(arrOf st).size)) (Q:=λc z=>c=(U,(arrOf st).size)/\In κ rk st (arrOf st).size z) ?step ?fin ⟨0,Z,I0,v4 _,.inl<|P0 _⟩) ?post
 case fin =>
  rintro c z ⟨lo,rfl,e,L,h2⟩;have:lo=(arrOf st).size:=by lia
  subst this;exact⟨Z,e⟩
 case step =>
  rintro x c z _ hx ⟨lo,rfl,e,L,h2⟩;dsimp only;by_cases l:lo ≥ (arrOf st).size
  .rw[Jd l];have:lo=(arrOf st).size:=j4 L l;subst this;exact Td ⟨Z,e⟩
  .rw[Gd l];have hz:=e.size;have F:AllS S (arrOf z):=AllS.perm hS e.perm;refine Nd<|ua q F (by lia) (R8<|e7 l) ⟨Array.Perm.refl _,e.kind,e.failed,Z,λ_ _=>rfl⟩ λn t M P R Y=>?_;dsimp only;have rest:∀(n:Nat) (t:Vd),In κ rk st lo t->1<=n->lo+n<=(arrOf st).size->Sg rk (arrOf t) lo n->∃c,c=n/\In κ rk st lo t/\Sg rk (arrOf t) lo c/\1<=c/\lo+c<=(arrOf st).size:=λn t a b c d=>⟨n,Z,a,d,b,c⟩;by_cases ge:n<minRun' (arrOf st).size (arrOf st).size 0
   case' pos =>
    rw[Jd ge];refine Nd<|Si<|Ve ⟨Z,?_⟩;refine Nd<|UO (N:=(arrOf st).size-lo) q F (n:=min ((arrOf st).size-lo)<|minRun' (arrOf st).size (arrOf st).size 0) (by omega) (t7 _ _) (T5 R<|Y0 ge) M Y λz2 b2 g2=>?_;simp only[W7,J3,if_false];have v:=e.run b2;have m1:1<=min ((arrOf st).size-lo) (minRun' (arrOf st).size (arrOf st).size 0):=T5 (K0 P R)<|c6 ge;have m2:lo+min ((arrOf st).size-lo) (minRun' (arrOf st).size (arrOf st).size 0)<=(arrOf st).size:=by lia
    clear b2 M Y;generalize min ((arrOf st).size-lo) (minRun' (arrOf st).size (arrOf st).size 0)=m at *
   case' neg=>rw[Gd ge];have v:=e.run M;have m1:=P;have m2:lo+n<=(arrOf st).size:=K0 (U0 R _)<|V0<|P3 L;have g2:=Y;clear M Y P R ge;generalize n=m at *;generalize t=z2 at *
   all_goals
    refine Nd<|Wh ?_;cases hb:(Wd z2).back? with
    |none=>exact Nd<|Zf<|Td ⟨lo+m,Z,v.push m1 g2,m2,.inl<|by lia⟩
    |some pb =>
     obtain⟨s1,P,pv⟩:=pb;dsimp only;refine Nd<|Af (Me (I:=λ_ c z=>c=(U,())/\In κ rk st lo z/\∀j,lo<=j->(arrOf z)[j]?=(arrOf z2)[j]?) (Q:=λc z=>c=(U,())/\In κ rk st lo z/\∀j,lo<=j->(arrOf z)[j]?=(arrOf z2)[j]?) ?_ (λ_ _ hh=>hh) ⟨Z,v,λ_ _=>rfl⟩) ?_
     .rintro y c z _ _ ⟨rfl,g,C⟩;refine Nd<|Wh ?_;by_cases k:(Wd z).size > 1
      .rw[Jd k];cases hq:(Wd z)[(Wd z).size-2]? with
       |none=>exact Td ⟨Z,g,C⟩
       |some pq =>
        obtain⟨u1,u2,older⟩:=pq;dsimp only;split
        .exact Td ⟨Z,g,C⟩
        .refine Nd (gM q hS g (by omega) (m9 (T3 k)<|Q6 _ _ k) λz4 B _ k4=>?_);simp only[W7,J3,if_false];exact Td ⟨Z,B,λj hj=>(k4 j hj).trans<|C j hj⟩
      .rw[Gd k];exact Td ⟨Z,g,C⟩
     .rintro c z ⟨rfl,g,C⟩;exact Nd<|Zf<|Nd<|Zf<|Td ⟨lo+m,Z,(g.put (n:=0)).push m1<|g2.congr C,m2,.inl<|by lia⟩
 case post =>
  rintro c z ⟨rfl,e⟩;dsimp only;refine Nd<|Af (Me (I:=λx c z=>c=(U,())/\In κ rk st (arrOf st).size z/\(Wd z).size+x<=(arrOf st).size) (Q:=λc z=>c=(U,())/\In κ rk st (arrOf st).size z/\(Wd z).size<=1) ?_ ?_ ⟨Z,e,?_⟩) ?_
  .rintro x c z _ hx ⟨rfl,e,ym⟩;refine Nd<|Wh ?_;by_cases k:(Wd z).size<=1
   .rw[Jd k];exact Td ⟨Z,e,k⟩
   .rw[Gd k];refine Nd<|gM q hS e (P0 _) (by (repeat' split)<;>lia) λz4 B hs4 _=>?_;simp only[W7,J3,if_false];exact Td ⟨Z,B,by lia⟩
  .rintro c z ⟨rfl,e,ym⟩;exact⟨Z,e,by lia⟩
  .have:=e.ch.len;rw[W0]at this;exact u5<|l8<|c6 this
  .rintro c z ⟨rfl,e,k⟩;refine Td<|h z e.perm e.failed ?_;have hc:=e.ch;have hl:(Wd z).toList.length<=1:=by rw[W0];exact k
   match (Wd z).toList,hc,hl with
   |[],hc,_ =>
    have:0=(arrOf st).size:=hc;intro i j _ _ hj
    lia
   |[p],⟨L,h2,h3,h4⟩,_=>have h4:0+p.2.1=(arrOf st).size:=h4;rw[BQ]at h4;rw[h4]at h3;exact h3
end
end SG
namespace L2
open PySem.W
section
variable {w:Be}{κ:Wf}{vs:Et}{rk:Cd->Nat}
theorem KG{p:Ud}(h:p∈(Dl vs).toList):p.1=p.2/\p.2∈vs:=by have h:p∈(vs.toArray.zip vs.toArray).toList:=h;rw[Array.toList_zip]at h;obtain⟨i,hi,e⟩:=V5 h;rw[g9]at e;subst e;exact⟨Z,S5 _⟩
theorem pV(C:s.heap.get? a=O (Ef "list" vs.toArray n))(Y:vs.length<=sizeLine)(hk:2<=vs.length->∀s':Fd,(∀b o,b≠a->s.heap.get? b=O o->s'.heap.get? b=O o)->∀m:Wf->Fd->Prop,m κ s'->Ed (Md prog w) A (keyKind' vs.toArray) m E s')(ge:∀s':Fd,(∀b o,b≠a->s.heap.get? b=O o->s'.heap.get? b=O o)->∀x y,x∈vs->y∈vs->∀m:Bool->Fd->Prop,m (decide<|rk x<rk y) s'->Ed (Md prog w) A (keyLt' κ x y) m (λ_ _=>Fo) s')(h:∀q:Et,q.Perm vs->q.Pairwise (λx y=>rk x<=rk y)->P (.done<|.ret .none) {s with heap:=Pm s.heap a vs q.toArray}):Ed (Md prog w) A (Builtin.«list.sort» ⟨[.ref a],[]⟩) P E s:=by
 rw[list_sort_plain];have ha:a<s.heap.objs.size:=Q0 C;refine Ad<|listItems_at C Z ?_;refine Ad<|Jm C Z ?_;obtain⟨F,v⟩:∃F,(s.heap.update a<|U3 λ_=>#[]).get? a=O (Ef "list" #[] F):=⟨_,Jl C<|λ_=>#[]⟩;refine Ad<|Nn v Z ?_;refine Ad<|Bi ?_;refine Ad<|Dm ?_;refine Ce ?_;have d:(((s.heap.update a<|U3 λ_=>#[]).push<|Ef "tuple" vs.toArray 0).push<|Ef "list" #[] 0).get? a=O (Ef "list" #[] F):=by rw[S8 _ _ _ (by rw[size_push',pQ];exact X0<|M5 ha),S8 _ _ _<|by rw[pQ];exact X0 ha];exact v
 have kp:∀b o,b≠a->s.heap.get? b=O o->(((s.heap.update a<|U3 λ_=>#[]).push<|Ef "tuple" vs.toArray 0).push<|Ef "list" #[] 0).get? b=O o:=λb o hb e=>by refine j0 _<|j0 _ ?_;rw[A9 _ _ _ _ hb];exact e
 show Ed (Md prog w) A _ P E {s with heap:=((s.heap.update a<|U3 λ_=>#[]).push<|Ef "tuple" vs.toArray 0).push<|Ef "list" #[] 0};dsimp only;have hsz:vs.toArray.size=vs.length:=by simp
 have g:((Dl vs).map (·.2))=vs.toArray:=by apply Array.toList_inj.mp;rw[i9];show (vs.toArray.zip vs.toArray).toList.map (·.2)=_;simp only[Array.toList_zip];exact List.map_snd_zip<|P0 _
 by_cases t:vs.toArray.size<2
 .rw[Jd t,Jd t];refine Ad<|Bd ?_;rw[StateT.run_pure];refine Ad<|Bd ?_;dsimp only;refine Ad<|Nn d Z ?_;refine Ad<|Jm d Z ?_ (hsz2:=by rw[Array.size_map];show (Dl vs).size<=_;rw[pairsOf_size];exact X5 Y);simp only[bne_self_eq_false,J3,if_false];have h':=h vs (List.Perm.refl _) (by
    cases vs with
    |nil=>exact .nil
    | cons x l=>cases l with
      |nil=>exact Q3 _ _
      |cons y z=>simp at t;exact False.elim<|P4 _<|u0 t<|X2 _ _);rw[<-g]at h';exact Bd h'
 .rw[Gd t,Gd t];have G:2<=vs.length:=E1 t;refine Ad<|hk G _ kp _ ?_;have run:=SG.w_sort (prog:=prog) (w:=w) (A:=A) (E:=E) (κ:=κ) (rk:=λp=>rk p.1) (S:=λp=>p.1∈vs) (st:=SortSt.mk' κ (Dl vs) #[] 7 U)
   (s:={s with heap:=((s.heap.update a<|U3 λ_=>#[]).push<|Ef "tuple" vs.toArray 0).push<|Ef "list" #[] 0})
   (Q:=λ_ c=>(arrOf c).Perm (Dl vs)/\Rg c=U/\SG.Sg (λp=>rk p.1) (arrOf c) 0 (Dl vs).size)
   (λx y hx hy m L=>ge _ kp _ _ hx hy m L) (λp B=>by have:=KG B;show p.1∈vs;rw[this.1];exact this.2) Z Z Z λc p1 p2 p3=>⟨p1,p2,p3⟩;refine Ad<|wpAny_mono run ?_ λ_ _ e=>e;rintro⟨⟨⟩,c⟩ s' ⟨rfl,B,hf,hs⟩;dsimp only at B hf hs ⊢;refine Ad<|Nn d Z ?_;have ye:=k7.mp B;have k:∀p∈(arrOf c).toList,p.1=p.2:=λp h=>(KG<|ye.mem_iff.mp h).1;have hO:((arrOf c).map (·.2)).toList.Perm vs:=by
   rw[i9];have e:(Dl vs).toList.map (·.2)=vs:=by rw[<-i9,g]
   have:=ye.map (·.2);rw[e]at this;exact this
  have hL:((arrOf c).map (·.2)).toList.length=vs.length:=hO.length_eq;rw[W0]at hL;refine Ad<|Jm d Z ?_ (hsz2:=by rw[hL];exact X5 Y);rw[hf];simp only[bne_self_eq_false,J3,if_false];refine Bd ?_;have:=h ((arrOf c).map (·.2)).toList hO (by rw[i9,N5,B4];intro i j hi M qf;rw[W0]at hi M;have R:(arrOf c).size=(Dl vs).size:=B.size_eq;have:=hs i j (v4 _) (Y0 qf)<|u0 M<|Nat.le_add_left_of_le<|V0 R;rw[SG.KR_at hi,SG.KR_at M]at this;rw[W4,W4,<-k _ (by simp),<-k _ (by simp)];exact this);rw[Array.toArray_toList]at this;exact this
theorem Mw(hl:s.heap.IsList l vs.toArray)(g:vs.length<=sizeLine)(i:2<=vs.length->∀s':Fd,(∀b o,s.heap.get? b=O o->s'.heap.get? b=O o)->∀(E:Cd->Fd->Prop) (c:Wf->Fd->Prop),c κ s'->Ed (Md prog w) A.in1.in1 (keyKind' vs.toArray) c E s')(ge:∀s':Fd,(∀b o,s.heap.get? b=O o->s'.heap.get? b=O o)->∀x y,x∈vs->y∈vs->∀c:Bool->Fd->Prop,c (decide<|rk x<rk y) s'->Ed (Md prog w) A.in1.in1 (keyLt' κ x y) c (λ_ _=>Fo) s')(h:∀a:Et,a.Perm vs->a.Pairwise (λx y=>rk x<=rk y)->Q (.ref<|s.heap.objs.size+1) {s with heap:=sortedAll s.heap vs a.toArray}):Ed (Md prog w) A (call (.builtin "sorted") [.ref l]) Q E s:=by
 refine Calls.call_function_entry kind_sorted plain_sorted entry_sorted (args_sorted1 _) ?_;unfold Builtin.«sorted»;refine Ad (m:=checkCount "sorted" 1 1 _)<|Bd ?_;refine Ad<|collect_list hl ?_ (hsz:=g);refine Ad<|Dm ?_ g;have hsz:((s.heap.push<|Ef "list" #[] 0).update s.heap.objs.size (U3 (·++vs.toArray))).objs.size=s.heap.objs.size+1:=by rw[pQ,size_push']
 have d:(((s.heap.push<|Ef "list" #[] 0).update s.heap.objs.size (U3 (·++vs.toArray))).push<|Ef "list" vs.toArray 0).get? (s.heap.objs.size+1)=O (Ef "list" vs.toArray 0):=by rw[<-hsz];exact O0 _ Z
 have keep:∀b o,s.heap.get? b=O o->b≠s.heap.objs.size+1/\(((s.heap.push<|Ef "list" #[] 0).update s.heap.objs.size (U3 (·++vs.toArray))).push<|Ef "list" vs.toArray 0).get? b=O o:=λb o q=>by have ge:b<s.heap.objs.size:=Q0 q;refine⟨X0<|M5 ge,?_⟩;rw[S8 _ _ _ (by rw[hsz];exact X0<|M5 ge),A9 _ _ _ _<|X0 ge,S8 _ _ _<|X0 ge];exact q
 show Ed _ _ _ _ _ {s with heap:=((s.heap.push<|Ef "list" #[] 0).update s.heap.objs.size (U3 (·++vs.toArray))).push<|Ef "list" vs.toArray 0};rw[hsz];refine Ad<|Ce<|wpAny_call_entry slot_list_sort ⟨_,d,Z⟩ entry_list_sort (pV (κ:=κ) (rk:=rk) d g (λj s' k c q=>i j s' (λb o e=>k b o (keep b o e).1 (keep b o e).2) _ c q)
   (λs' k x y hx hy c q=>ge s' (λb o e=>k b o (keep b o e).1 (keep b o e).2) x y hx hy c q) λa o1 o2=>⟨_,Z,?_⟩)<|args_list_sort _;exact Bd ⟨_,Z,h a o1 o2⟩
end
end L2
namespace SG
structure Wk{α:Type}(lt:α->α->Bool):Prop where
 irr:∀a,lt a a=Er
 tr:∀a b c,lt a b=Ep->lt b c=Ep->lt a c=Ep
 nt:∀a b c,lt a b=Er->lt b c=Er->lt a c=Er
theorem Rz{α:Type}{p q:α->Bool}:∀{l:List α},(∀a∈l,p a=Ep->q a=Ep)->l.countP p<=l.countP q
 |[],_=>P0 _
 |a::l,h=>by
  have b:=Rz (l:=l) λx hx=>h x<|q0 _ hx;rw[g7,g7];have:=h a G0;cases c:p a
  .simp;exact IQ b
  .rw[this c];simp;omega
theorem Eu{α:Type}{p q:α->Bool}:∀{l:List α},(∀a∈l,p a=Ep->q a=Ep)->(∃a∈l,p a=Er/\q a=Ep)->l.countP p<l.countP q
 |[],_,⟨_,h,_⟩=>by simp at h
 |a::l,h,⟨x,hx,b,c⟩=>by
  rw[g7,g7];rcases R0.mp hx with rfl|hx
  .have:=Rz (l:=l) λx hx=>h x<|q0 _ hx;rw[b,c];simp;exact N4 this
  .have d:=Eu (l:=l) (λx hx=>h x<|q0 _ hx) ⟨x,hx,b,c⟩;have:=h a G0;cases e:p a
   .simp;exact Nat.lt_add_right _ d
   .rw[this e];simp;omega
theorem rank(W:Wk lt){l:List α}{x y:α}(hx:x∈l)(hy:y∈l):Es (l.countP (λa=>lt a x)<l.countP (λa=>lt a y))=lt x y:=by
 cases h:lt x y
 .rw[decide_eq_false_iff_not,Nat.not_lt];refine Rz λa _ b=>?_;cases c:lt a x
  .rw[W.nt a x y c h]at b;cases b
  .rfl
 .rw[decide_eq_true_eq];exact Eu (λa _ b=>W.tr a x y b h) ⟨x,hx,W.irr x,h⟩
theorem lex_wk:Wk HT.lexLt:=by
 refine⟨λa=>?_,λa=>?_,λa=>?_⟩
 .induction a with
  |nil=>rfl
  |cons x a j=>rw[HT.lexLt_cons,Jd Z];exact j
 .induction a with
  |nil =>
   intro b c e d;cases c with
   |nil=>cases b<;>cases d
   |cons z c=>rfl
  |cons x a j =>
   intro b c e d;cases b with
   |nil=>cases e
   |cons y b =>
    cases c with
    |nil=>cases d
    |cons z c =>
     rw[HT.lexLt_cons]at e d ⊢;by_cases i:x=y
     .subst i;rw[Jd Z]at e;by_cases g:x=z
      .subst g;rw[Jd Z]at d ⊢;exact j b c e d
      .rw[Gd g]at d ⊢;exact d
     .rw[Gd i]at e;have e:=Ld e;by_cases g:y=z
      .subst g;rw[Gd i];exact Pd e
      .rw[Gd g]at d;have d:=Ld d;rw[Gd<|Int.ne_of_lt<|Int.lt_trans e d];exact Pd<|Int.lt_trans e d
 .induction a with
  |nil =>
   intro b c e d;cases b with
   |nil=>exact d
   |cons y b=>cases e
  |cons x a j =>
   intro b c e d;cases c with
   |nil=>rfl
   |cons z c =>
    cases b with
    |nil=>cases d
    |cons y b =>
     rw[HT.lexLt_cons]at e d ⊢;by_cases i:x=y
     .subst i;rw[Jd Z]at e;by_cases g:x=z
      .subst g;rw[Jd Z]at d ⊢;exact j b c e d
      .rw[Gd g]at d ⊢;exact d
     .rw[Gd i]at e;have e:=Ig e;by_cases g:y=z
      .subst g;rw[Gd i];exact Ee e
      .rw[Gd g]at d;have d:=Ig d;rw[Gd<|by lia];exact Ee<|J6<|Y1 (K9.1 d)<|K9.1 e
theorem lex_eq:∀{a b:Qo},HT.lexLt a b=Er->HT.lexLt b a=Er->a=b
 |[],[],_,_=>rfl
 |[],_::_,h,_=>by cases h
 |_::_,[],_,h=>by cases h
 |x::a,y::b,c,d=>by
  rw[HT.lexLt_cons]at c d;by_cases e:x=y
  .subst e;rw[Jd Z]at c d;rw[lex_eq c d]
  .rw[Gd e]at c;rw[Gd<|λz=>e z.symm]at d;have c:=Ig c;have d:=Ig d
   lia
theorem sorted_uniq{lt:α->α->Bool}(c:∀a b,lt a b=Er->lt b a=Er->a=b):∀{l m:List α},l.Perm m->l.Pairwise (λa b=>lt b a=Er)->m.Pairwise (λa b=>lt b a=Er)->l=m
 |[],m,p,_,_=>by rw[List.nil_perm.mp p]
 |x::l,[],p,_,_=>by simp at p
 |x::l,y::m,p,d,g=>by
  have e:x=y:=by
   have hx:x∈y::m:=p.mem_iff.mp G0;have hy:y∈x::l:=p.mem_iff.mpr G0;rcases R0.mp hx with e|hx
   .exact e
   .rcases R0.mp hy with e|hy
    .exact e.symm
    .exact c x y ((j6.mp g).1 x hx) ((j6.mp d).1 y hy)
  subst e;rw[sorted_uniq c (List.perm_cons x |>.mp p) (j6.mp d).2 (j6.mp g).2]
end SG
namespace L2
open PySem.W
section
variable {X:Cx}{α:Type}[Inhabited α]
def LW(K:M0)(e:Hp->Hd->α->Prop)(fn:Hp->V->α)(lt:α->α->Bool):List V->Hp->VK->Prop:=λg H Q=>∃(a:Hd) (us:List V),g=[.ref a]/\SqL K H a us/\us.length<=sizeLine /\
 (∀v∈us,∃c x,v=.ref c/\e H c x)/\∀(p:Hd) (d:List V),H p=U->d.Perm us->(d.map<|fn H).Pairwise (λa b=>lt b a=Er)->Q (.ref p) (gJ H p<|.lst d)
theorem Nw{us:List V}:∀{a:Et},a.Perm be->Vals us be->∃b:List V,b.Perm us/\Vals b a:=by
 intro a p;induction p generalizing us with
 |nil=>intro h;exact⟨us,List.Perm.refl _,h⟩
 |cons x _ e =>
  intro h;cases h with
  |cons h t=>obtain⟨b,p,r⟩:=e t;exact⟨_,p.cons _,.cons h r⟩
 |swap x y l =>
  intro h;cases h with
  |cons g t=>cases t with|cons i t=>exact⟨_,List.Perm.swap _ _ _,.cons i<|.cons g t⟩
 |trans _ _ c d=>intro h;obtain⟨w,j,k⟩:=d h;obtain⟨m,q,v⟩:=c k;exact⟨m,q.trans j,v⟩
end
section
variable {X:Cx}{α:Type}[Inhabited α]{qr:Hp->Hd->α->Prop}{fn:Hp->V->α}{lt:α->α->Bool}{κ:Wf}
theorem OD(h:RelV (.ref c) u):u=.ref c:=h
noncomputable def XY(fn:Hp->V->α)(H:Hp):Cd->α
 | .ref c=>fn H<|.ref c
 |_=>default
theorem rH(W:SG.Wk lt)(hf:∀H c a,qr H c a->fn H (.ref c)=a)(gn:∀{ae:Op}{s:Fd}{σ:St}{H:Hp},Inv X ae σ H s->∀be:Et,2<=be.length->(∀u∈be,∃c x,u=.ref c/\qr H c x)->∀(s':Fd),(∀b o,s.heap.get? b=O o->s'.heap.get? b=O o)->∀(E:Cd->Fd->Prop) (l:Wf->Fd->Prop),l κ s'->Ed (Md X.prog X.w) X.A.in1.in1 (keyKind' be.toArray) l E s')(C:∀{ae:Op}{s:Fd}{σ:St}{H:Hp},Inv X ae σ H s->∀(c d:Hd) (x y:α),qr H c x->qr H d y->∀(s':Fd),(∀b o,s.heap.get? b=O o->s'.heap.get? b=O o)->∀l:Bool->Fd->Prop,l (lt x y) s'->Ed (Md X.prog X.w) X.A.in1.in1 (keyLt' κ (.ref c)<|.ref d) l (λ_ _=>Fo) s'):VZ X (.builtin "sorted") (LW X.K qr fn lt):=by
 intro ae s σ H xs us Q I r h;obtain⟨a,vs,rfl,hs,hz,nh,q⟩:=h;obtain⟨u,rfl,B⟩:=yK r;cases B;obtain⟨be,S,⟨o,n,e,c,d1,d2⟩,hz'⟩:=I.list hs;have hl:=S.length;have Y:∀u∈be,∃c x,u=.ref c/\qr H c x:=λu t=>by obtain⟨i,hi,rfl⟩:=V5 t;have hi2:i<vs.length:=u0 hi<|V0 hl.symm;obtain⟨c,x,hv,hr⟩:=nh _<|S5 hi2;obtain⟨u,t,B⟩:=S.get<|L0 hi2;rw[hv]at B;rw[L0 hi]at t;have:be[i]=u:=O2 t;rw[this];exact⟨c,x,OD B,hr⟩
 have F:∀x∈be,∀y∈be,Es ((be.map<|XY fn H).countP (λa=>lt a<|XY fn H x)<(be.map<|XY fn H).countP (λa=>lt a<|XY fn H y))=lt (XY fn H x) (XY fn H y):=λx hx y hy=>SG.rank W (o8 hx)<|o8 hy;refine Mw (κ:=κ) (rk:=λv=>(be.map<|XY fn H).countP<|λa=>lt a<|XY fn H v) (vs:=be) ⟨o,e,c,n,by first|exact d2|exact d1⟩ (by lia) (λh2 s' k E' l G=>?_) (λs' k x y hx hy l G=>?_)<|λg o1 o2=>?_
 .exact gn I be h2 Y s' k E' l G
 .rw[F x hx y hy]at G;obtain⟨c,x',rfl,ll⟩:=Y x hx;obtain⟨d,y',rfl,L⟩:=Y y hy;refine C I c d x' y' ll L s' k l ?_;have e1:XY fn H (.ref c)=x':=hf H c x' ll;have e2:XY fn H (.ref d)=y':=hf H d y' L;rw[e1,e2]at G;exact G
 .obtain⟨ep,he⟩:=sortedAll_at s.heap be g.toArray;have hn:H (s.heap.objs.size+1)=none:=I.hok.fresh<|k6 _;obtain⟨P,p',r'⟩:=Nw o1 S;refine⟨.ref<|s.heap.objs.size+1,gJ H (s.heap.objs.size+1)<|.lst P,I.laid (t':=s.toks) (λb u e=>sortedAll_old e) (k6 _) ?_,Z,q _ P hn p' ?_⟩
  .exact⟨by rw[p'.length_eq];exact hz,g,ep,r',by rw[he]⟩
  .rw[N5,B4];intro i j hi hj qf;have R:=r'.length;have o3:=B4.mp o2 i j (u0 hi<|V0 R) (lt_of_lt_of_eq hj R) qf;have hxm:g[i]'(by lia)∈be:=o1.mem_iff.mp<|S5 _;have hym:g[j]'(by lia)∈be:=o1.mem_iff.mp<|S5 _;have k2:=F _ hym _ hxm;rw[Ee<|Nat.not_lt.mpr o3]at k2;have ev:∀(m:Nat) (M:m<P.length),fn H P[m]=XY fn H (g[m]'(u0 M<|V0 R)):=λm M=>by
    obtain⟨c,x,hv,hr⟩:=nh _<|p'.mem_iff.mp<|S5 M;obtain⟨u,t,B⟩:=r'.get<|L0 M;rw[L0<|lt_of_lt_of_eq M R]at t;have t:g[m]'(by lia)=u:=O2 t;rw[hv]at B ⊢;rw[t,OD B];rfl
   rw[ev i hi,ev j hj];exact k2.symm
end
section
variable {w:Be}
theorem sI(b:Bool){n m:Int}{t u:Tok}{Q:Bool->Fd->Prop}{E:Cd->Fd->Prop}(h:Q (decide<|n<m) s):Ed (Md prog w) A (oneLt' b (.int n t)<|.int m u) Q E s:=by
 cases b with
 |true=>exact oneLt_int h
 |false=>exact kat_one _ _<|lt_int h
theorem PD{b:Bool}{Q:Bool->Fd->Prop}:∀{ns c:Qo}{a ys:Et} (i:Nat),Qe a ns->Qe ys c->Q (HT.lexLt ns c) s->KatLex prog w A b (decide<|a.length<ys.length) Q (a.zip ys) i s
 |_,_,_,_,i,.nil,.nil,h=>h
 |_,_,_,_,i,.nil,.cons m u r,h=>h
 |_,_,_,_,i,.cons n t r,.nil,h=>h
 |_,_,_,_,i,.cons (vs:=a) (ns:=ns) n t r,.cons (vs:=ys) (ns:=c) m u d,h=>by
  have e:Es ((A8 n t::a).length<(A8 m u::ys).length)=Es (a.length<ys.length):=by simp
  rw[e];rw[HT.lexLt_cons]at h;show KatLex prog w A b _ Q ((A8 n t,A8 m u)::a.zip ys) i s;refine kat_cons<|SeqAt.EqAt.int_int n t m u _ _ _ _ ?_;refine kat_go (λq=>kat_yes ?_)<|λq=>kat_no ?_
  .rw[Jd<|by simpa using q]at h;exact PD (i+1) r d h
  .rw[Gd<|by simpa using q]at h;exact sI _ h
end
def Ow(H:Hp)(c:Hd)(r:Qo):Prop:=H c=O (.tup<|r.map V.int)/\r≠[]
noncomputable def fD(H:Hp):V->Qo
 | .ref c=>match H c with
  |some (.tup a)=>a.map MS
  |_=>[]
 |_=>[]
theorem EF(H:Hp)(c:Hd)(r:Qo)(h:Ow H c r):fD H (.ref c)=r:=by show (match H c with|some (.tup a)=>a.map MS|_=>[])=r;rw[h.1];exact UY r
theorem Sz:VZ X (.builtin "sorted") (LW X.K Ow fD HT.lexLt):=by
 refine rH (κ:=tuples' Ep) SG.lex_wk EF (λ{ae s σ H} I be h2 F s' k E' B g=>?_)<|λ{ae s σ H} I c d x y hx hy s' k B g=>?_
 .have i:∀(l:Et),(∀v∈l,∃(c:Hd) (r:Qo),v=.ref c/\Ow H c r)->∃fs:Et,KatTups s'.heap l fs/\fs.length=l.length/\∀v∈fs,Looks (Md X.prog X.w) s'.heap (Km v) (.type "int"):=by
   intro l;induction l with
   |nil=>intro _;exact⟨[],.nil,Z,λv a=>by simp at a⟩
   |cons v l G =>
    intro hl;obtain⟨fs,j,C,q⟩:=G λx hx=>hl x<|q0 _ hx;obtain⟨c,r,rfl,L,M⟩:=hl v G0;obtain⟨_,P,e,ob,R,S,m,Y,_⟩:=(show ObjOk X.prog X.w H s.heap c (.tup<|r.map V.int) from I.hok c _ L);cases r with
    |nil=>exact absurd Z M
    |cons n r =>
     rw[G2]at e;cases e with
     |cons h1 e =>
      obtain⟨t,rfl⟩:=h1;refine⟨.int n t::fs,.cons (k _ _ R) S Y Z j,by simp[C],λv a=>?_⟩;rcases R0.mp a with rfl|a
      .exact Looks.of_pure Z
      .exact q v a
  obtain⟨fs,j,C,q⟩:=i be F;exact kat_kind (T:=.type "int") j (by lia) q (by decide) g
 .obtain⟨_,ic,e,oc,c1,c2,m1,c3,_⟩:=(show ObjOk X.prog X.w H s.heap c (.tup<|x.map V.int) from I.hok c _ hx.1);obtain⟨_,id',rd,od,d1,d2,m2,d3,_⟩:=(show ObjOk X.prog X.w H s.heap d (.tup<|y.map V.int) from I.hok d _ hy.1);refine kat_lt (k _ _ c1) c3 (k _ _ d1) d3 ?_;have:=PD (prog:=X.prog) (w:=X.w) (A:=X.A.in1.in1) (s:=s') (b:=Ep) (Q:=B) 0 (EZ e) (EZ rd) g;simpa using this
end L2
namespace L3
open L2
noncomputable def WO:D->(Sl->Prop)->Prop
 | .list e,Q=>∃d:List Qo,e=d.map (λr=>.tuple<|r.map n0)/\d.length<=sizeLine/\(∀r∈d,r≠[])/\∀c:List Qo,c.Perm d->c.Pairwise (λa b=>HT.lexLt b a=Er)->Q (.ow<|.list<|c.map λr=>.tuple<|r.map n0)
 |_,_=>Fo
theorem DaAll.mem{K:Fg}{us:List V}(h:DaAll K F us b):∀v∈us,∃d∈b,Da K F v d:=by
 induction h using DaAll.ind with
 |h0=>intro v h;cases h
 |h1 a t c =>
  intro v h;rcases R0.mp h with rfl|h
  .exact⟨_,G0,a⟩
  .obtain⟨d,h1,e⟩:=c v h;exact⟨d,q0 _ h1,e⟩
theorem DaAll.map_of{K:Fg}{F:Hp}{f:V->D}:∀{us:List V},(∀v∈us,Da K F v<|f v)->DaAll K F us (us.map f)
 |[],_=>.nil
 |v::us,h=>.cons (h v G0)<|DaAll.map_of λx hx=>h x<|q0 _ hx
theorem DaAll.map_eq{K:Fg}{F:Hp}{g:α->D}{f:V->α}(b:∀v a,Da K F v (g a)->f v=a):∀{us:List V}{as:List α},DaAll K F us (as.map g)->us.map f=as
 |[],[],_=>rfl
 |_::_,[],h=>by cases h
 |[],_::_,h=>by cases h
 |v::us,a::as,h=>by
  cases h with
  |cons h t=>rw[G2,b v a h,DaAll.map_eq b t]
theorem YY{K:Fg}{r:Qo}(h:Da K F v (.tuple<|r.map n0)):∃c,v=.ref c/\F c=O (.tup<|r.map V.int):=by
 cases h with
 |tup h t=>have:=t.ints_of;subst this;exact⟨_,Z,h⟩
theorem QD{K:Fg}:JZ K (LW K Ow fD HT.lexLt) (o1 WO):=GD λG F σ H ρ x d Q Qd R L w k=>by
 cases d<;>first|exact w.elim|skip
 case list ds =>
  obtain⟨y,e,M,P,w⟩:=w;subst e;obtain⟨a,us,rfl,S,l⟩:=L.list R.sub;have hl:=l.length;rw[l0]at hl;have m:∀v∈us,∃c r,v=.ref c/\Ow F c r/\r∈y:=λv i=>by obtain⟨d,hd,Y⟩:=l.mem v i;obtain⟨r,B,rfl⟩:=v0.mp hd;obtain⟨c,rfl,b⟩:=YY Y;exact⟨c,r,Z,⟨b,P r B⟩,B⟩
  have q:∀v∈us,fD H v=fD F v:=λv i=>by obtain⟨c,r,rfl,b,_⟩:=m v i;rw[EF F c r b,EF H c r ⟨R.sub _ _ b.1,b.2⟩]
  refine⟨a,us,Z,SqL.of S,le_of_eq_of_le hl M,λv i=>?_,λp j hp t C=>?_⟩
  .obtain⟨c,r,rfl,b,_⟩:=m v i;exact⟨c,r,Z,R.sub _ _ b.1,b.2⟩
  .have em:us.map (fD F)=y:=by
    refine DaAll.map_eq (K:=K) (F:=F) (g:=λr:Qo=>K1<|r.map n0) (λv a h=>?_) l;obtain⟨c,rfl,b⟩:=YY h;show (match F c with|some (.tup xs)=>xs.map MS|_=>[])=a;rw[b];exact UY a
   have ee:j.map (fD H)=j.map (fD F):=A1 λv i=>q v<|t.mem_iff.mp i;rw[ee]at C;have ut:DaAll K F j ((j.map<|fD F).map λr=>K1<|r.map n0):=by rw[A0];refine DaAll.map_of λv i=>?_;obtain⟨c,r,rfl,b,_⟩:=m v<|t.mem_iff.mp i;show Da K F (.ref c) (.tuple<|(fD F<|.ref c).map n0);rw[EF F c r b];exact .tup b.1<|DaAll.ints r
   obtain⟨R',r'⟩:=R.newOw (o:=.lst j) (d:=.list _) hp ut;exact k _ _ F _ (Sub.refl _) R' r'<|w _ (by rw[<-em];exact t.map _) C
theorem kU{K:Fg}(h:X.K=K):VZ X (.builtin "sorted") (LW K Ow fD HT.lexLt):=by subst h;exact Sz
end L3
namespace L2
def iM:V->Hp->VK->Prop:=λx H Q=>∃i:Int,x=.int i/\Q (.int (Y6 i:Nat)) H
theorem uI{o:Ge}{to:TE}{a c:Pos}(d:PE X o to)(e:Hf o "bit_length" X.env (Cf o X.env)=Cf o X.env:=by rfl)(g:(a.endLine==c.line)=true:=by rfl) :
  PE X (.Call (.Attribute o "bit_length" a) [] [] c) (z_ iM to):=by
 intro ae s σ H Q I h;refine Hh e g<|uJ (d ae s σ H _ I h) λv y ⟨x,j,k,l,m⟩=>?_;obtain⟨i,rfl,q⟩:=m;obtain⟨t,rfl⟩:=l;exact⟨"int","int.bit_length",PySem.F.plainAttrs_int,PySem.F.slot_int_bit_length,PySem.F.type_int_bit_length,Om _ _ _,λb w=>(by cases w),Calls.callWith_builtin rfl<|PySem.evalArgs_none<|call_int_bit_length ⟨.int (Y6 i:Nat),j,k.tok _,⟨_,Z⟩,q⟩⟩
end L2
namespace L3
open L2
noncomputable def jM:D->(Sl->Prop)->Prop
 | .int i,Q=>Q<|.fz<|.int (Y6 i:Nat)
 |_,_=>Fo
theorem vI{K:Fg}:JZ K (M_ iM) (o1 jM):=GD λG F σ H ρ x d Q b R a w k=>by
 cases d<;>first|exact w.elim|skip
 case int i=>cases a.int;exact⟨_,Z,i,Z,k _ H F (.fz _) (Sub.refl _) R (Da.int _) w⟩
theorem XO{K:Fg}{o:Ge}{a:AD}{b c:Pos}(d:WE X o (XX K a))(e:Hf o "bit_length" X.env (Cf o X.env)=Cf o X.env:=by rfl)(g:(b.endLine==c.line)=true:=by rfl) :
  WE X (.Call (.Attribute o "bit_length" b) [] [] c) (lift K<|CY [a]<|o1 jM):=⟨yb vI<|uI d.h e g⟩
end L3
namespace L2
theorem sH(k:Nat)(h:b<n):b≠n+k:=X0<|Nat.lt_add_right _ h
theorem RD:Ph (.type "zip") "keys"=pure none:=by rw[Vf,Re];kernel_rfl
theorem tH:Ph (.type "zip") "__getattr__"=pure none:=by rw[Vf,Re];kernel_rfl
theorem rY:Ll table "zip.__getattribute__"=O Builtin.«object.__getattribute__»:=Di (id':="object.__getattribute__") (by kernel_rfl) (by decide +kernel) (by decide +kernel) (by kernel_rfl)
theorem hG(a:Hd)(fs:Eo Cd)(i:Eo (Do Cd))(u:Tok):Meets (Builtin.«object.__getattribute__» ⟨[.ref a,.str "keys" u],[]⟩) (λA R s=>s.heap.get? a=O {cls:=.type "zip",dict:=U,data:=.fields fs,slots:=i}/\raisesAttr (.ref a) "keys" A R s):=.of_wp λprog w A R s c=>by
 obtain⟨j,g,d,k,os⟩:=s;obtain⟨hx,c⟩:=c;have l:(⟨j,g,d,k,os⟩:Fd).TypeIs (.ref a) "zip":=⟨_,hx,Z⟩;have e:=RD;have b:(["__module__","__name__","__qualname__","__doc__","__annotations__"]:Oo).contains "keys"=false:=by decide +kernel
 unfold Builtin.«object.__getattribute__»;repeat (any_goals (first|assumption|wp_step))
 all_goals (try simp only[b,J3,if_false])
 repeat (any_goals (first|assumption|wp_step))
 exact wpAny_raiseAttrError c.1 c.2 (attrMsg_fits (by decide +kernel)<|by size_fits)
section
variable {w:Be}
theorem iG{Q:Do Cd->Fd->Prop}(hx:s.heap.get? a=O {cls:=.type "zip",dict:=U,data:=.fields fs,slots:=l})(m:A.handled=U)(h:∀h' c,(∀b o,s.heap.get? b=O o->h'.get? b=O o)->Q U {s with heap:=h',toks:=c}):Ed (Md prog w) A (Zn (.ref a) "keys") Q E s:=by
 obtain⟨q,g,d,c,os⟩:=s;have i:∀j,(⟨q,g,d,j,os⟩:Fd).TypeIs (.ref a) "zip":=λ_=>⟨_,hx,Z⟩;have t:=sub_AttributeError;have v:=F.slot_zip_getattribute.lookup;have x:=F.slot_zip_getattribute.bind<|.ref a;have y:=tH;unfold Zn getAttrBy? getAttrBy;repeat (any_goals (first|assumption|exact i _|((with_reducible show Ed _ _ (call (uX "zip.__getattribute__") _ _) _ _ _);refine Gg F.slot_zip_getattribute (i _) rY (F.args_zip_getattribute_2 _ _) (hG a fs l _) ⟨hx,m,λh' j e k=>?_⟩)|wp_step))
 obtain⟨t',B,C⟩:=k.there;show Ed _ _ (Fh _ _ _ _ _ _ _) _ _ _;unfold Fh;repeat (any_goals (first|assumption|wp_step))
 exact h _ _ k.keeps
end
section
variable {w:Be}{R:Nm->Fd->Prop}
theorem Pw{TI TO:Hd}(hh:A.handled=U)(D:ZAp2 z TI TO i1 i2 l1 l2)(n1:z≠d)(n2:TI≠d)(n3:TO≠d)(n4:i1≠d)(n5:i2≠d)(n6:l1≠d)(n7:l2≠d)(hn1:n<=xs1.size) (hn2:n<=xs2.size) (mh:xs1[n]?=U\/xs2[n]?=U) (J:Nat->Ke->Prop)(Y:∀i h h',J i h->(∀b o,b≠z->b≠TO->b≠i1->b≠i2->h.get? b=O o->h'.get? b=O o)->J i h')(step:∀(i:Nat) (x y:Cd) (s:Fd) (Q:Unit->Fd->Prop) (E:Cd->Fd->Prop),i<n->xs1[i]?=O x->xs2[i]?=O y->J i s.heap ->(∀h' q,J (i+1) h'->S3 d s.heap h'->Q () {s with heap:=h',toks:=q})->Ed (Md prog w) A.in1 (Xm d x y) Q E s):∀(k i:Nat) (s:Fd) (t:Tok),n-i=k->i<=n->ZSt s.heap z TI TO d i1 i2 l1 l2 k1 k2 i->SqAt k1 s.heap l1 xs1->SqAt k2 s.heap l2 xs2->J i s.heap->d<s.heap.objs.size -> (∀h' q,J n h'->R (.ok<|.ret .none) {s with heap:=h',toks:=q}) -> Ah (Md prog w) A (.builtin "dict.update.loop" ⟨[.ref d,.ref z,.int i t,.none],[]⟩) R s:=by
 intro k;induction k with
 |zero=>intro i s t g hi v l m B hd C;have fh:i=n:=n_ g hi;subst fh;refine Te RJ ?_;rw[Around.under_plainId LZ _];show Ed _ A.in1 (Bf (.ref z) >>= _) _ _ s;refine Ad<|fG (A:=A.in1) hh D v l m mh λh' he=>?_;show Ed _ _ (gQ d [] >>= _) _ _ _;exact Ad<|Bd<|Bd<|C h' s.toks<|Y _ _ _ B he
 |succ k ih=>intro i s t g hi v l m B hd C;have ge:i<n:=YQ g;obtain⟨x,hx⟩:∃p,xs1[i]?=O p:=⟨xs1[i],T4<|by omega⟩;obtain⟨y,hy⟩:∃p,xs2[i]?=O p:=⟨xs2[i],T4<|by omega⟩;refine Te RJ ?_;rw[Around.under_plainId LZ _];show Ed _ A.in1 (Bf (.ref z) >>= _) _ _ s;refine Ad<|Oz (S:=d) D hd v l m hx hy λh' xt F hz G=>?_;have L:=Y _ _ _ B G;show Ed _ A.in1 (Zg [.ref s.heap.objs.size] _ >>= _) _ _ _;refine Ad<|Ce ?_;refine Ad<|wpAny_tryCatch ?_;unfold HQ;refine Ad<|Xf (T:="tuple") ⟨_,F,Z⟩ ?_;rw[Jd<|by decide];refine Ad<|Pe F rfl<|Bd ?_;show Ed _ A.in1 (Zg [x,y]<|Xm d x y) _ _ _;refine Ce<|wpAny_mono (step i x y {s with heap:=h'} (λ_ jl=>∃a c,jl={s with heap:=a,toks:=c}/\J (i+1) a/\S3 d h' a) (λ_ _=>Fo) ge hx hy L λa c j M=>⟨a,c,Z,j,M⟩) (λ_ jl z=>?_) λ_ _ z=>z.elim;obtain⟨a,c,rfl,j,M⟩:=z;have kp:∀b o,b≠d->h'.get? b=O o->a.get? b=O o:=λb o nb e=>(M.2 b nb).trans e;refine Bd ⟨Ag LZ _,?_⟩;refine ih (i+1) {s with heap:=a,toks:=c} 0 (o_ g) ge (xt.keep kp n1 n2 n3 n4 n5) (l.at λo e=>kp _ _ n6<|G _ o D.l1z D.l1TO D.l1i1 D.l1i2 e) (m.at λo e=>kp _ _ n7<|G _ o D.l2z D.l2TO D.l2i1 D.l2i2 e) j ?_ λh3 P j3=>C h3 P j3;have:DJ a s.heap.objs.size x y:=kp _ _ (G4 hd) F;exact J8 hd<|Q0 this
end
theorem jG{TI TO:Hd}(J:Nat->Ke->Prop)(C:A.handled=U)(D:ZAp2 z TI TO i1 i2 l1 l2)(t:n<=xs1.size) (v:n<=xs2.size) (mh:xs1[n]?=U\/xs2[n]?=U) {G L:Cd}(k:Rh s.heap z TI TO .none) (M:DJ s.heap TI (.ref i1) (.ref i2)) (P:DJ s.heap TO G L) (R:ItAt k1 s.heap i1 l1 0) (S:ItAt k2 s.heap i2 l2 0) (df:SqAt k1 s.heap l1 xs1) (ef:SqAt k2 s.heap l2 xs2) (b1:l1<s.heap.objs.size) (b2:l2<s.heap.objs.size)(h0:∀h',(∀b a,s.heap.get? b=O a->h'.get? b=O a)->h'.get? s.heap.objs.size=O {cls:=.type "dict",data:=.dict #[]}->J 0 h')(ag:∀i h h',J i h->(∀b o,b≠z->b≠TO->b≠i1->b≠i2->h.get? b=O o->h'.get? b=O o)->J i h')(step:∀(i:Nat) (x y:Cd) (s':Fd) (Y:Unit->Fd->Prop) (E':Cd->Fd->Prop),i<n->xs1[i]?=O x->xs2[i]?=O y->J i s'.heap ->(∀h' l,J (i+1) h'->S3 s.heap.objs.size s'.heap h'->Y () {s' with heap:=h',toks:=l})->Ed (Md prog w) A.in1.in1 (Xm s.heap.objs.size x y) Y E' s')(h:∀h' l,J n h'->Q (.ref s.heap.objs.size) {s with heap:=h',toks:=l}):Ed (Md prog w) A (call (.type "dict") [.ref z]) Q E s:=by
 refine callType_codes (Q₁:=λobj g=>obj=.ref s.heap.objs.size/\g={s with heap:=s.heap.push {cls:=.type "dict",data:=.dict #[]}}) F.kt_called_dict (F.kt_typeCall_dict_1 _) F.entry_dict_init (kt_code_dict_new _ ⟨Z,Z⟩) ?_;rintro obj g ⟨rfl,rfl⟩;have m:(s.heap.push {cls:=.type "dict",data:=.dict #[]}).get? s.heap.objs.size=O {cls:=.type "dict",data:=.dict #[]}:=O0 _ Z;have q:∀b a,s.heap.get? b=O a->(s.heap.push {cls:=.type "dict",data:=.dict #[]}).get? b=O a:=λb a e=>j0 _ e;refine⟨⟨_,m,Z⟩,F.args_dict_init_2 _ _,?_⟩;unfold Builtin.«dict.__init__»;refine Ad ?_;unfold iQ;refine Ad<|Nh ⟨_,m,Z⟩ ?_;show Ed _ _ (pure (s.heap.objs.size,[T2 z])) _ _ _;refine Bd ?_;show Ed _ _ (M7 "dict.__init__" s.heap.objs.size (.ref z) [] .none) _ _ _;unfold M7;refine Ad<|Xf (T:="zip") ⟨_,q _ _ k,Z⟩ ?_;rw[Jd<|by decide];refine Ad<|iG (q _ _ k) C λc B d=>?_;simp only[zX,if_true];refine Ad<|Ve ?_;refine Ad<|Qh (s:={s with heap:=c,toks:=B}) (d _ _<|q _ _ k) ?_;have kp:∀b a,s.heap.get? b=O a->c.get? b=O a:=λb a e=>d b a<|q b a e;obtain⟨o1,g1,_⟩:=R.obj;obtain⟨o2,g2,_⟩:=S.obj;have ge:s.heap.objs.size<c.objs.size:=Q0<|d _ _ m;refine Bd ⟨Ag LZ _,Pw (A:=A.in1) C D (X0<|Q0 k) (X0<|Q0 M) (X0<|Q0 P) (X0<|Q0 g1) (X0<|Q0 g2) (X0 b1) (X0 b2) t v mh J ag step n 0 _ 0 Z (v4 _)
   ⟨kp _ _ M,R.at λo e=>kp _ _ e,S.at λo e=>kp _ _ e,.inl ⟨kp _ _ k,G,L,kp _ _ P⟩⟩ (df.at λo e=>kp _ _ e) (ef.at λo e=>kp _ _ e) (h0 c kp<|d _ _ m) ge λh' l j=>⟨Z,h h' l j⟩⟩
end L2
namespace L3
open L2
section
variable {K:Fg}{e e1 e2:Ge}{a b:AD}{p pos af p2:Pos}
end
end L3
namespace L2
theorem wI(l:Hd)(items:Eo Cd)(n:Nat)(b:Hd)(a:Eo Cd)(c:Nat)(e:Eo (Do Cd))(m:¬(!items.isEmpty&&e6 (items.size+a.size))=Ep)(i:items.size<=sizeLine)(j:items.size+a.size<=sizeLine+1):Meets (Builtin.«list.extend» ⟨[.ref l,.ref b],[]⟩) (λ_ R s=>s.heap.get? l=O {cls:=.type "list",dict:=U,data:=.seq items n,slots:=#[]}/\s.heap.get? b=O {cls:=.type "tuple",dict:=U,data:=.seq a c,slots:=e}/\R (.ok<|.ret X4) {s with heap:=s.heap.update l<|U3 λx=>x++a}):=.of_wp λprog w A R s h=>by
 obtain⟨q,g,d,t,os⟩:=s;obtain⟨hl,k,h⟩:=h;have v:=AutoSeq1.idx_int;have y:=AutoSeq1.sub_tuple_tuple;have B:=AutoSeq1.sub_list_list;have C:=AutoSeq1.sub_tuple_list;have F:=AutoSeq1.sub_list_tuple;have hz:(items++a).size<=sizeLine+1:=by rw[Array.size_append];exact j
 wp_walk using (Th hl Z (hz:=i) (_hz':=hz)),Lg hl,Lg k
 exact⟨_,Z,h⟩
def SD:V->List V->Hp->VK->Prop:=λx d H Q=>∃l b a c,x=.ref l/\d=[.ref b]/\H l=O (.lst a)/\H b=O (.tup c)/\a.length+c.length<=sizeLine/\Q .non (gJ H l<|.lst<|a++c)
theorem Tz:BR X "list.extend" SD:=by
 intro ae s σ H x S v us Q I m t h;obtain⟨l,b,Y,y,rfl,rfl,d,hB,hz,q⟩:=h;cases m;obtain⟨u,rfl,B⟩:=t.one;cases B;obtain⟨z,be,n,r,hl,e⟩:=I.lstM d;obtain⟨_,c,g,C,G,i,L,j,k⟩:=(show ObjOk X.prog X.w H s.heap b (.tup y) from I.hok b _ hB);obtain⟨oc,od,M,P⟩:=C;simp only at i j k;subst i j k;have ef:=g.length;have a:be.toArray.size+c.toArray.size<=sizeLine:=by rw[S0,S0];lia
 have R:¬(!be.toArray.isEmpty&&e6 (be.toArray.size+c.toArray.size))=true:=by rw[UU a,Bool.and_false];exact P1
 refine Gg F.slot_list_extend ⟨_,e,Z⟩ F.entry_list_extend (F.args_list_extend_2 _ _) (wI l be.toArray n b c.toArray L P R (by rw[S0];exact K0 (V0 hl.symm) z)<|X5 a) ⟨e,G,?_⟩;refine⟨.non,_,I.lset (its':=be++c) d e (by simp) (r.append g) ?_,Z,q⟩;rw[T0];omega
end L2
namespace L3
open L2
noncomputable def Fu:List D->List D->(D->D->Prop)->Prop
 |a,[.tuple ys],k=>a.length+ys.length<=sizeLine/\k (.list<|a++ys) .none
 |_,_,_=>Fo
theorem Uz{K:Fg}:DC K SD Fu:=by
 intro F H a b i m c Q k s e g j w q;rcases c with _|⟨d,_|⟨v,c⟩⟩<;>first|exact w.elim|skip
 .cases d<;>first|exact w.elim|skip
  cases j with
  |cons h t =>
   cases t;cases h with
   |tup l t=>exact⟨a,_,b,_,Z,Z,e,s _ _ l,by rw[g.length,t.length];exact w.1,q _ (.lst<|b++_) (.list<|i++_) _ (g.append t) .non w.2⟩
 .cases d<;>exact w.elim
theorem xZ{u:sW}{E:DE}(J:Ev->Prop)(b:∀N:Ev->Prop,(∀a,J a->N a)->t {nx:=N,rt:=E.rt,bk:=E.bk,ct:=E.ct} ρ)(c:∀a,J a->u E a):oE t u E ρ:=b _ c
theorem kT{Q:Ev->Prop}(h:BC i d ρ Q=Q (ρ.set i<|O<|.fz d))(w:Q (ρ.set i<|O<|.fz d)):BC i d ρ Q:=by rw[h];exact w
end L3
namespace L2
def gD(c:Eo Nat):Prop:=∀a b,a<b->b<c.size->∀d,c.getD a d<c.getD b d
theorem sx{a:Eo Nat}(h:i<a.size):a.getD i d=a.getD i d':=by simp[x8,h]
theorem FF(b:Eo Nat)(j:Nat)(R:gD b):∀(a lo hi:Nat),hi-lo<=a->lo<=hi->hi<=b.size->(∀i,i<lo->b.getD i j<j)->(∀i,hi<=i->i<b.size->¬b.getD i j<j) -> SetTable.below.go b j a lo hi<=b.size/\(∀i,i<SetTable.below.go b j a lo hi->b.getD i j<j)/\∀i,SetTable.below.go b j a lo hi<=i->i<b.size->¬b.getD i j<j
 |0,lo,hi,hf,hl,c,d,g=>by
  have:lo=hi:=by omega
  subst this;exact⟨c,d,g⟩
 |a+1,lo,hi,hf,hl,c,d,g=>by
  unfold SetTable.below.go;by_cases ge:lo<hi
  .rw[Jd ge];dsimp only;by_cases k:b.getD ((lo+hi) / 2) j<j
   .rw[Jd k];refine FF b j R a _ hi (by omega) (by omega) c (λi l=>?_) g;by_cases e:i=(lo+hi) / 2
    .rw[e];exact k
    .have:=R i ((lo+hi) / 2) (by omega) (by omega) j;omega
   .rw[Gd k];refine FF b j R a lo _ (by omega) (by omega) (by omega) d<|λi l m=>?_;by_cases e:i=(lo+hi) / 2
    .rw[e];exact k
    .have:=R ((lo+hi) / 2) i (by omega) m j;omega
  .rw[Gd ge];have:lo=hi:=by omega
   subst this;exact⟨c,d,g⟩
theorem MW(R:gD xs)(j:Nat):SetTable.below xs j<=xs.size/\(∀i,i<SetTable.below xs j->xs.getD i j<j)/\∀i,SetTable.below xs j<=i->i<xs.size->¬xs.getD i j<j:=FF xs j R xs.size 0 xs.size (by omega) (v4 _) (P0 _) (λi h=>absurd h<|u9 _) (λi b a=>absurd a<|by omega)
theorem Vz(R:gD a){i:Nat}(h:i<a.size):SetTable.below a (a.getD i 0+1)=i+1:=by
 obtain⟨e,b,c⟩:=MW R<|a.getD i 0+1;have g:¬SetTable.below a (a.getD i 0+1)<=i:=λz=>by have:=c i z h;rw[sx (d':=0) h]at this;omega
 by_cases z:i+1<SetTable.below a (a.getD i 0+1)
 .have d:=b (i+1) z;have b2:=R i (i+1) (by omega) (by omega) 0;rw[sx (d':=0)<|by omega]at d;omega
 .omega
theorem Wz(R:gD xs):SetTable.below xs 0=0:=by
 obtain⟨b,a,c⟩:=MW R 0;by_cases z:0<SetTable.below xs 0
 .exact absurd (a 0 z) (u9 _)
 .omega
theorem ris_iff:gD xs↔xs.toList.Pairwise (· < ·):=by
 rw[B4];constructor
 .intro R i j hi c k;have:=R i j k (by simpa using c) 0;simpa [x8,show i<xs.size by simpa using hi,show j<xs.size by simpa using c]using this
 .intro P a b l e d;have g:a<xs.size:=by omega
  have:=P a b (by simpa using g) (by simpa using e) l;simpa [x8,g,e]using this
theorem Xz(R:gD c){j:Nat}(q:c[SetTable.below c j]?≠O j):gD (SetTable.insertAt c (SetTable.below c j) j):=by
 obtain⟨C,t,m⟩:=MW R j;have P:=ris_iff.mp R;rw[ris_iff,SetTable.toList_insertAt];have e:c.toList.take (SetTable.below c j)++c.toList.drop (SetTable.below c j)=c.toList:=Z5 _ _;rw[<-e,o6]at P;obtain⟨v,w,x⟩:=P;have lo:∀a∈c.toList.take (SetTable.below c j),a<j:=λa d=>by obtain⟨i,hi,rfl⟩:=l6.mp d;rw[G5]at hi;have:=t i (by omega);rw[Q8];simpa [x8,show i<c.size by simp at hi;omega]using this
 have y:∀a∈c.toList.drop (SetTable.below c j),j<a:=λa d=>by
  obtain⟨i,hi,rfl⟩:=l6.mp d;rw[J5]at hi;have k:SetTable.below c j+i<c.size:=by simp at hi;omega
  have:=m (SetTable.below c j+i) (by omega) k;rw[P8];have g:c.getD (SetTable.below c j+i) j=c.toList[SetTable.below c j+i]'(by simpa using k):=by simp[x8,k]
  rw[g]at this;by_cases z:c.toList[SetTable.below c j+i]'(by simpa using k)=j
  .exfalso;by_cases B:i=0
   .subst B;apply q;rw[T4<|by simpa using k];simpa using z
   .have r:=R (SetTable.below c j) (SetTable.below c j+i) (by omega) k j;have:=m (SetTable.below c j) (P0 _) (by omega);rw[g,z]at r;exact this r
  .exact(Nat.lt_or_gt_of_ne z).resolve_left this
 rw[o6];refine⟨v,j6.mpr ⟨y,w⟩,λa d b l=>?_⟩;rcases R0.mp l with rfl|l
 .exact lo a d
 .exact x a d b l
def NL(t:SetTable)(j:Nat):Prop:=t.place[SetTable.below t.place j]?≠O j
theorem ux(h:∀i,t.slot j≠.live i):NL t j:=λz=>by unfold SetTable.slot at h;dsimp only at h;rw[Jd<|by rw[z];simp]at h;exact h _ Z
theorem yW(t:SetTable)(p:SetTable.Probe):(t.advance p).dummy=p.dummy:=by unfold SetTable.advance;split<;>rfl
theorem uH(t:SetTable)(g:Nat->Int)(h:Int):∀(a:Nat) (p:SetTable.Probe),(∀d,p.dummy=O d->NL t d)->∀j b,SetTable.probe.go t g h a p=O (.empty j b)->NL t j/\∀d,b=O d->NL t d
 |0,p,_,j,b,e=>by cases e
 |a+1,p,k,j,b,e=>by
  unfold SetTable.probe.go at e;cases c:t.slot p.j with
  |empty=>rw[c]at e;cases e;exact⟨ux (λi z=>by rw[c]at z;cases z),k⟩
  |dummy=>rw[c]at e;refine uH t g h a _ (λd hd=>?_) j b e;rw[yW]at hd;cases hd;exact ux λi z=>by rw[c]at z;cases z
  |live i =>
   rw[c]at e;dsimp only at e;split at e
   .cases e
   .exact uH t g h a _ (λd hd=>by rw[yW]at hd;exact k d hd) j b e
theorem xI{h:Int}(e:t.freeSlot h=O (j,wd)):NL t j:=by
 unfold SetTable.freeSlot at e;split at e
 .rename_i b a c;have:=uH t _ h _ _ (λd hd=>by cases hd) b a c;cases e;cases a with
  |none=>exact this.1
  |some d=>exact this.2 d Z
 .cases e
theorem HK(t:SetTable)(n:Nat):gD (t.standIn n).place:=by show gD (Array.range n);rw[ris_iff,Array.toList_range];exact JQ
theorem kG{t:SetTable}(R:gD t.place):gD (t.orStandIn n).place:=by
 unfold SetTable.orStandIn;split
 .exact R
 .exact HK t n
theorem Yz{h:Int}(R:gD t.place):gD (layNew t es h x).2.1.place:=by
 unfold layNew;cases e:t.freeSlot h with
 |none=>exact HK t _
 |some p=>obtain⟨j,a⟩:=p;exact kG<|Xz R<|xI e
theorem Gu{plain:Bool}{o:Eo Nat}(e:SetTable.laid mask finger moves led plain hs=O (t,o)):gD t.place:=by
 unfold SetTable.laid at e;cases i:SetTable.layClean mask hs with
 |none=>rw[i]at e;cases e
 |some c =>
  rw[i]at e;cases e;rw[ris_iff];dsimp only;have d:∀(g:Nat->Do Nat) (l:Os),(l.filterMap λj=>(g j).map (j,·)).map (·.1)=l.filter λj=>(g j).isSome:=by
   intro g l;induction l with
   |nil=>rfl
   |cons a l k =>
    cases m:g a with
    |none=>simp[m,k]
    |some b=>simp[m,k]
  rw[d];exact List.Pairwise.sublist List.filter_sublist JQ
theorem GF:gD (relayAll t es wanted).2.1.place:=by
 unfold relayAll;cases e:t.relaid (es.map (·.1)) wanted with
 |none=>exact HK t _
 |some p =>
  obtain⟨t',o⟩:=p;dsimp only;split
  .exact Gu e
  .exact HK t _
theorem Zz(t:SetTable)(es:Eo (Int×Cd))(h:Int)(x:Cd):(layNew t es h x).2.1.led=t.led:=by
 unfold layNew;cases e:t.freeSlot h with
 |none=>rfl
 |some p=>obtain⟨j,a⟩:=p;show (SetTable.orStandIn _ _).led=t.led;unfold SetTable.orStandIn;split<;>rfl
theorem HF(t:SetTable)(es:Eo (Int×Cd))(wanted:Nat):(relayAll t es wanted).2.1.led=t.led:=by
 unfold relayAll;cases e:t.relaid (es.map (·.1)) wanted with
 |none=>rfl
 |some p =>
  obtain⟨t',o⟩:=p;dsimp only;split
  .show t'.led=t.led;unfold SetTable.relaid SetTable.laid at e;cases b:SetTable.layClean (SetTable.sizeAbove wanted-1) (es.map (·.1)) with
   |none=>rw[b]at e;cases e
   |some a=>rw[b]at e;cases e;rfl
  .rfl
noncomputable def yJ:Cd->Int
 | .int n _=>n
 |_=>0
def IS(P:De)(w:Be)(ld:Bool)(h:Ke)(a:Hd)(σ:Qo):Prop:=∃o b c t,h.get? a=O o/\o.ExactSet/\o.data=.set b c t/\Ym (intKind P w) b.toList/\(b.toList.map λe=>yJ e.2).Perm σ/\b.size<Tf/\t.fits b.size=Ep/\gD t.place/\t.led=ld
section
variable {P:De}{w:Be}{a:Hd}{σ:Qo}{ld:Bool}
theorem UD(h:Ym (intKind P w) l){e:Int×Cd}(c:e∈l):∃b,e.2=.int (yJ e.2) b:=by obtain⟨⟨k,d,_⟩,_⟩:=h e c;obtain⟨b,z⟩:=W9 d;rw[z];exact⟨b,Z⟩
theorem Qw(hl:Ym (intKind P w) l)(c:(l.map λe=>yJ e.2).Perm σ)(hf:l.findIdx? (λe=>(intKind P w).is k e.2)=U):σ.any (·==k)=false:=by
 rw[u6];intro z;obtain⟨m,d,g⟩:=qQ.mp z;obtain rfl:m=k:=by simpa using g
 obtain⟨e,b,rfl⟩:=v0.mp<|c.mem_iff.mpr d;have:=List.findIdx?_eq_none_iff.mp hf e b;obtain⟨i,q⟩:=UD hl b;rw[q]at this;rw[show yJ (A8 (yJ e.2) i)=yJ e.2 from Z,Sm]at this;cases this
theorem Rw{l:List (Int×Cd)}(b:(l.map λe=>yJ e.2).Perm σ)(hf:l.findIdx? (λe=>(intKind P w).is k e.2)=O j):σ.any (·==k)=true:=by obtain⟨c,d,_⟩:=List.findIdx?_eq_some_iff_getElem.mp hf;obtain⟨g,q⟩:=W9 d;refine qQ.mpr ⟨k,b.mem_iff.mp<|v0.mpr ⟨_,S5 c,?_⟩,by simp⟩;rw[q];rfl
theorem VD(l:h.get? a=O o)(b:o.ExactSet)(m:o.data=.set es ep t){fs:Eo (Int×Cd)}{u:SetTable}{c:Qo}(d:Ym (intKind P w) fs.toList) (q:(fs.toList.map λe=>yJ e.2).Perm c) (i:fs.size<Tf) (j:u.fits fs.size=Ep) (v:gD u.place) (x:u.led=ld):(h.update a<|Obj.putSet fs u).get? a=O {o with data:=.set fs (ep+1) u}/\IS P w ld (h.update a<|Obj.putSet fs u) a c:=by
 have g:=(SetOf_store (knd:=intKind P w) (S':=λk=>Es (∃e∈fs.toList,(intKind P w).is k e.2=Ep)) l b m d (λk=>by rw[decide_eq_true_eq]) i j).1;exact⟨g,_,fs,ep+1,u,g,b,Z,d,q,i,j,v,x⟩
end
section
variable {P:De}{w:Be}{a:Hd}{σ:Qo}{ld:Bool}
theorem vH(b:Bool){c:Fd}{R:Unit->Fd->Prop}(r:R () c):Ed (Md P w) A (match b with|true=>rule "set.scan.the-table-gave-way" | false=>pure ()) R E c:=by
 cases b
 .exact Bd r
 .exact Ve r
theorem vx{g:Bool->Sem Unit}(hg:∀(b:Bool) (c:Fd) (R:Unit->Fd->Prop),R () c->Ed (Md P w) A (g b) R E c){o:Obj}{es:Eo (Int×Cd)}{ep:Nat}{t:SetTable}
  (q:s.heap.get? a=O o) (v:o.ExactSet) (x:o.data=.set es ep t) {fs:Eo (Int×Cd)}{u:SetTable}{y:Qo} (B:Ym (intKind P w) fs.toList) (C:(fs.toList.map λe=>yJ e.2).Perm y)
  (i:fs.size<Tf) (r4:u.fits fs.size=Ep) (r5:gD u.place) (F:u.led=ld) {G:Bool}{R:Do Bool->Fd->Prop} (k:∀h',S3 a s.heap h'->IS P w ld h' a y->R (O Ep) {s with heap:=h'}) :
  Ed (Md P w) A (do
    storeSet a fs u
    if (!G&&u.tooFull)=Ep then do
      g (relayAll u fs<|SetTable.grown fs.size).2.2
      storeSet a (relayAll u fs<|SetTable.grown fs.size).1 (relayAll u fs<|SetTable.grown fs.size).2.1
      pure (O Ep)
    else pure (O Ep)) R E s:=by
 obtain⟨M,g2⟩:=VD q v x B C i r4 r5 F;have S:=K5 s.heap a<|Obj.putSet fs u;refine Ad<|wpAny_storeSet_of q x ?_<|Qg i;by_cases Y:(!G&&u.tooFull)=Ep
 .rw[Jd Y];have d:=relayAll_perm u fs<|SetTable.grown fs.size;have j:=relayAll_fits u fs<|SetTable.grown fs.size;have l:=GF (t:=u) (es:=fs) (wanted:=SetTable.grown fs.size);have m:=HF u fs<|SetTable.grown fs.size;revert d j l m;generalize relayAll u fs (SetTable.grown fs.size)=L;intro d j l m;have sz:L.1.size=fs.size:=by have:=d.length_eq;simpa using this
  refine Ad<|hg _ _ _ ?_;refine Ad (wpAny_storeSet_of M Z ?_<|Qg<|by rw[sz];exact i);obtain⟨_,z⟩:=VD (P:=P) (w:=w) M v Z (B.perm d) ((d.map _).trans C) (by rw[sz];exact i) j l<|m.trans F;exact Bd<|k _ (S.trans<|K5 _ a _) z
 .rw[Gd Y];exact Bd<|k _ S g2
theorem YO{Q:Bool->Fd->Prop}(Y:IS P w ld s.heap a σ)(F:σ.length+1<Tf)(q:∀h' b,S3 a s.heap h'->IS P w ld h' a (Zh σ k)->Q b {s with heap:=h'}):Ed (Md P w) A (setAddHashed a (.int k c)<|(intKind P w).hash k) Q E s:=by
 have G:=Y;obtain⟨o,es,ep,t,v,q2,y,B,C,q6,q7,q8,q9⟩:=Y;have hsz:es.size=σ.length:=by have:=C.length_eq;simpa using this
 unfold setAddHashed setAddHashedIn;refine Ce<|Ad<|Mf v y q7 ?_;dsimp only;rw[byScan_of (knd:=intKind P w) (x:=.int k c) Z q6 B];simp only[↓reduceIte];unfold setAddByScan;refine Ad<|Ad<|Ve ?_;refine Ad<|wpAny_setScan_of (knd:=intKind P w) (Sm P w k c) v y q7 B ?_;cases hr:es.toList.findIdx? (λe=>(intKind P w).is k e.2) with
 |some j =>
  dsimp only;refine Bd<|Bd ?_;have e:Zh σ k=σ:=by unfold Zh;rw[Jd<|Rw C hr]
  have z:=q s.heap Er (S3.refl a s.heap) (by rw[e];exact G);cases s;exact z
 |none =>
  dsimp only;have e:Zh σ k=σ++[k]:=by unfold Zh;rw[Qw B C hr];rfl
  rw[e]at q;have d:=layNew_perm t es ((intKind P w).hash k)<|.int k c;have g:=layNew_fits t es ((intKind P w).hash k)<|.int k c;have i:=Yz (es:=es) (h:=(intKind P w).hash k) (x:=.int k c) q8;have l:=(Zz t es ((intKind P w).hash k)<|.int k c).trans q9;revert d g i l;generalize layNew t es ((intKind P w).hash k) (.int k c)=L;intro d g i l;obtain⟨fs,u,wd,gv⟩:=L;dsimp only at d g i l ⊢;rw[c8]at d;have r1:Ym (intKind P w) fs.toList:=(B.push (Sm P w k c) Z).perm d;have M:(fs.toList.map λe=>yJ e.2).Perm (σ++[k]):=(d.map _).trans (by rw[u4];exact C.append_right _);have r3:fs.size<Tf:=by have:=M.length_eq;simp at this;omega
  refine Ad<|vH _ ?_;by_cases hp:u.plain=Ep
  .rw[Jd hp,hashByValue_scannable 8 Z];refine Ad<|Bd ?_;refine vx (λb m R r=>vH b r) v q2 y r1 M r3 ?_ ?_ ?_ λh' S z=>Bd<|q h' _ S z
   .split
    .exact g
    .exact SetTable.fits_plain_off g
   .split
    .exact i
    .exact i
   .split
    .exact l
    .exact l
  .rw[Gd hp];refine Ad<|Bd ?_;simp only[↓reduceIte];exact vx (λb m R r=>vH b r) v q2 y r1 M r3 g i l λh' S z=>Bd<|q h' _ S z
end
theorem IS.keeps{ld:Bool}{σ:Qo}(x:IS P w ld h a σ)(k:∀o,h.get? a=O o->h'.get? a=O o):IS P w ld h' a σ:=by obtain⟨o,b,c,t,d,r⟩:=x;exact⟨o,b,c,t,k o d,r⟩
section
variable {P:De}{w:Be}{R:Nm->Fd->Prop}{wr:List Hd}{G:Eo GenState->Eo GenState->Prop}{Pv:Nat->Cd->Prop}{St:Nat->Fd->Prop}{ld:Bool}
theorem yI(W:WalksS P w A.in1 I fp wr G n Pv St){S:Hd}(B:S∉fp){a:Nat->Int}(M:∀i v,Pv i v->∃j,v=.int (a i) j)(hb:n+1<Tf):∀(m i:Nat) (s:Fd),i+m=n->St i s->IS P w ld s.heap S (Pf a i)->(∀s',Moved (S::wr) G s s'->IS P w ld s'.heap S (Pf a n)->R (.ok<|.ret .none) s') -> Ah (Md P w) A (.builtin "set.update.loop" ⟨[.ref S,.ref I],[]⟩) R s:=by
 have C:S∉wr:=λz=>B<|W.sub _ z;have up:∀b∈wr,b∈S::wr:=λb z=>q0 _ z;intro m;induction m with
 |zero =>
  intro i s e st x k;obtain rfl:i=n:=by omega
  refine Te F.entry_set_update_loop ?_;rw[Around.under_plainId F.plain_set_update_loop _];show Ed _ A.in1 (Bf (.ref I) >>= _) _ _ s;refine Ad<|W.done s _ _ st λs' d=>?_;show Ed _ A.in1 (ret X4) _ _ s';exact Bd<|k s' (d.mono up)<|x.keeps λo q=>d.heap S o C q
 |succ m Y =>
  intro i s e st x k;refine Te F.entry_set_update_loop ?_;rw[Around.under_plainId F.plain_set_update_loop _];show Ed _ A.in1 (Bf (.ref I) >>= _) _ _ s;refine Ad<|W.item i s _ _ (by omega) st λv c hp mi d=>?_;obtain⟨j,rfl⟩:=M i v hp;have x1:IS P w ld c.heap S (Pf a i):=x.keeps λo q=>d.heap S o C q;show Ed _ A.in1 (Zg [A8 (a i) j] (setAdd S<|.int (a i) j) >>= _) _ _ c;refine Ad<|Ce ?_;unfold setAdd;refine Ce<|Ad<|(intKind P w).pyHash (k:=a i) (Sm _ _ _ _) ?_;have rm:(Pf a i).length+1<Tf:=by have:=firstMet_length_le a i;omega
  refine YO (s:={c with toks:=c.toks+1}) x1 rm λh' b sb L=>?_;rw[<-firstMet_succ]at L;have g:∀b o,b≠S->c.heap.get? b=O o->h'.get? b=O o:=λb o l q=>(sb.2 b l).trans q;refine Bd ⟨Ag F.plain_set_update_loop _,Y (i+1) _ (by omega) (W.frame _ c h' _ mi (k6 _) λb z o q=>g b o (λy=>B<|y ▸ z) q) L λs2 t x3=>?_⟩;exact k s2 (((d.mono up).then_heap (k6 _) λb o l q=>g b o (λy=>l<|y ▸ G0) q).trans W.gtrans t) x3
end
noncomputable abbrev TV(led:Bool):Obj:={cls:=.type "set",dict:=U,data:=.set #[] 0 (.fresh 0 0 led)}
theorem ZO(e:h.get? a=O (TV led)):IS P w led h a []:=⟨_,#[],0,_,e,⟨Z,Z,Z⟩,Z,(λx z=>by simp at z),List.Perm.refl _,by decide,Z,λa b _ z=>absurd z<|u9 _,Z⟩
section
variable {P:De}{w:Be}
theorem AI(B:A.handled=U)(hl:s.heap.IsList l items)(hi:Qe items.toList ns)(C:items.size+1<Tf)(k:∀h' c,IS P w led h' s.heap.objs.size (Pf (λi=>ns.getD i 0) items.size)->(∀b o,b<s.heap.objs.size->s.heap.get? b=O o->h'.get? b=O o)->Q .none {s with heap:=h',toks:=c}):Ah (Md P w) A (.call (.builtin "set.__init__") ⟨[.ref s.heap.objs.size,.ref l],[]⟩) (wants Q E) {s with heap:=s.heap.push<|TV led}:=by
 have m:(s.heap.push<|TV led).get? s.heap.objs.size=O (TV led):=O0 _ Z;refine codeAny_call_builtin F.called_set.init.plain F.entry_set_init<|check_set_init_1 ⟨_,m,Z⟩ ?_;have d:(s.heap.push<|TV led).IsList l items:=hl.push _;have a:l<s.heap.objs.size:=by obtain⟨ol,q,_⟩:=hl;exact Q0 q
 have z1:=F.sub_list_set;have z2:=F.sub_list_frozenset;have z3:(O7 "list"==O7 "dict")=false:=by decide
 have G:=d;obtain⟨⟨L,M,e,cm⟩,q1,R,nl,S⟩:=G;obtain rfl:L=.type "list":=R;obtain rfl:e=.seq items nl:=S;unfold Builtin.«set.__init__» noKeywords Builtin.Frozenset.updateFrom;generalize g:Lm=PI
 wp_walk
 subst g;refine Pg d ?_;refine Ad<|wpAny_runValue ?_;have sz:(s.heap.push<|TV led).objs.size=s.heap.objs.size+1:=Z1 ..;have Y:l≠(s.heap.push<|TV led).objs.size:=X0 (by rw[sz];exact M5 a);have n2:s.heap.objs.size∉[(s.heap.push<|TV led).objs.size,l]:=by rw[sz];simp only[R0,h7,or_false,not_or];exact⟨X0<|S2 _,G4 a⟩
 have vi:∀(i:Nat) (v:Cd),items[i]?=O v->∃c,v=.int ((λi=>ns.getD i 0) i) c:=λi v hv=>IntsAre.int_at hi i v (by rw[E3];exact hv);refine yI (ld:=led) ((Walks.list (by simp[B]) _ l Y items).toS) n2 vi C items.size 0 _ (BQ _) ⟨⟨_,O0 _ Z,Z,Z⟩,d.push _⟩ ?x ?y
 case x=>rw[firstMet_zero];exact ZO<|j0 _ m
 case y=>intro s' mv x;obtain⟨h',g',d',lh,j⟩:=s';obtain rfl:g'=s.gens:=mv.gens;obtain rfl:d'=s.drawn:=mv.drawn;obtain rfl:j=s.os:=mv.os;show Ed _ _ _ _ _ _;refine Bd ?_;show Ed _ _ (ret X4) _ _ _;refine Bd<|k h' lh x λb o t q=>mv.heap b o ?_<|j0 _<|j0 _ q;rw[sz];simp only[R0,h7,or_false,not_or];exact⟨X0 t,X0<|M5 t⟩
theorem aP(a:Cd){Q:Cd->Fd->Prop}(k:Q (.ref s.heap.objs.size) {s with heap:=s.heap.push<|TV<|!w.params.followText "set-order"}):Ah (Md P w) A (.call (.builtin "set.__new__") ⟨[.type "set",a],[]⟩) (wants Q E) s:=by
 refine codeAny_of_tree ?_;show Ed _ A.in1 (do checkBuiltinCall "set.__new__" ⟨[.type "set",a],[]⟩;again (.builtin "set.__new__" ⟨[.type "set",a],[]⟩)) _ _ s;refine Ad<|Ml (F.newCall_set_1 a)<|Bd ⟨Ag F.plain_set_new _,Te F.entry_set_new ?_⟩;rw[Around.under_plainId F.plain_set_new _];unfold Builtin.«set.__new__» Builtin.Frozenset.newClass;have y:=sub_set_self;cases s;dsimp only
 wp_walk
 refine Cg<|Bd ?_;dsimp only;simp only[newObj];exact Ad<|wpAny_alloc<|Bd<|Bd k
theorem WD(q:A.handled=U)(hl:s.heap.IsList l items)(hi:Qe items.toList ns)(t:items.size+1<Tf)(k:∀h' g,IS P w (!w.params.followText "set-order") h' s.heap.objs.size (Pf (λi=>ns.getD i 0) items.size)->(∀b o,b<s.heap.objs.size->s.heap.get? b=O o->h'.get? b=O o)->Q (.ref s.heap.objs.size) {s with heap:=h',toks:=g}):Ed (Md P w) A (call (.type "set") [.ref l]) Q E s:=by
 obtain⟨c,S,Y⟩:=F.called_set.mro;have y2:=F.called_set.made;have y3:=F.called_set.sub;have y4:=F.called_set.notType;have y5:=F.called_set.canCreate;have y6:=F.typeCall_set_1<|.ref l;refine wpAny_call<|codeAny_of_tree ?_;show Ed _ _ (callAny (.type "set") _) _ _ _;refine Bd ⟨Code.quiet_builtin _ (by decide +kernel),Te F.entry_type_call ?_⟩;rw[Around.under_plain (weight_type_call_type "set" [.ref l] []) Z];repeat (any_goals (first|assumption|wp_step))
 refine Hg (aP (.ref l) (E:=E) (Q:=λv j=>v=.ref s.heap.objs.size/\j={s with heap:=s.heap.push<|TV<|!w.params.followText "set-order"}) ⟨Z,Z⟩) λr j a=>?_;match r,a with
 | .error e,a=>exact a
 | .ok (.ret v),⟨y,B⟩ =>
  subst y;subst B;generalize C:(!w.params.followText "set-order")=led at *;have G:(s.heap.push<|TV led).get? s.heap.objs.size=O (TV led):=O0 _ Z;have T:Shared.TypeIs {s with heap:=s.heap.push<|TV led} (.ref s.heap.objs.size) "set":=⟨_,G,Z⟩;have i1:=F.called_set.init.lookup;have i2:=F.called_set.init.bind<|.ref s.heap.objs.size;repeat (any_goals (first|assumption|wp_step))
  refine Hg (AI (s:=s) (led:=led) (E:=E) (Q:=λv m=>v=.none/\∃h' g,m={s with heap:=h',toks:=g}/\IS P w led h' s.heap.objs.size (Pf (λi=>ns.getD i 0) items.size)/\∀b o,b<s.heap.objs.size->s.heap.get? b=O o->h'.get? b=O o)
    (by simp[q]) hl hi t λh' g x kp=>⟨Z,h',g,Z,x,kp⟩) λL m d=>?_;match L,d with
  | .error e,d=>exact d
  | .ok (.ret v),⟨M,h',g,R,x,kp⟩ =>
   subst M;subst R;repeat (any_goals (first|assumption|wp_step))
   exact k _ _ x kp
  | .ok .next,d=>exact d.elim
  | .ok .brk,d=>exact d.elim
  | .ok .cont,d=>exact d.elim
 | .ok .next,a=>exact a.elim
 | .ok .brk,a=>exact a.elim
 | .ok .cont,a=>exact a.elim
end
theorem NW:∀(l:List α) (i:Nat) (h:i<l.length),(l[i]::l.eraseIdx i).Perm l
 |a::l,0,h=>List.Perm.refl _
 |a::l,i+1,h=>by rw[wQ,List.getElem_cons_succ];exact(List.Perm.swap a _ _).trans<|(NW l i<|by simpa using h).cons a
theorem xx(next:Nat->Nat):∀(a k:Nat) (left:List α) (b:Eo α),left.length=a->(pickOrder.go next a k left b).toList.Perm (b.toList++left)
 |0,k,left,b,e=>by have:left=[]:=U6.mp e;subst this;rw[E2];exact List.Perm.refl _
 |a+1,k,left,b,e=>by
  have ge:next k % left.length<left.length:=Nat.mod_lt _ (by omega)
  unfold pickOrder.go;rw[L0 ge];dsimp only;refine(xx next a (k+1) _ _ (by rw[S9 ge];omega)).trans ?_;rw[c8,V2];refine List.Perm.append_left _ ?_;exact NW left _ ge
theorem LG(next:Nat->Nat)(a:Eo α):(Yl next a).toList.Perm a.toList:=by
 have z:=xx next a.size 0 a.toList #[] (by simp)
 exact z
section
variable {M:Model}
theorem aj{Q:Nat->Fd->Prop}(a:n≠0)(h:∀i d,i<n->Q i {s with drawn:=d}):Ed M A (choose src n) Q E s:=λΓ p hΓ=>⟨a,h _ _<|Nat.mod_lt _<|Nat.pos_of_ne_zero a⟩
theorem XD:∀(n:Nat) (a:List α) {s:Fd}{Q:List α->Fd->Prop},a.length=n->(∀ys d,ys.Perm a->Q ys {s with drawn:=d})->Ed M A (drawOrder n a) Q E s
 |0,a,s,Q,e,h=>by have:a=[]:=U6.mp e;subst this;unfold drawOrder;exact Bd<|h [] s.drawn<|List.Perm.refl _
 |n+1,[],s,Q,e,h=>by cases e
 |n+1,x::a,s,Q,e,h=>by unfold drawOrder;refine Ad<|aj (by simp) λi d hi=>?_;rw[L0 hi];dsimp only;refine Ad<|XD n _ (by rw[S9 hi];simp at e ⊢;omega) λys b c=>?_;exact Bd<|h _ b<|(c.cons _).trans<|NW _ i hi
end
theorem wH:Slot "set" "__iter__" "set.__iter__":=.of (owner:="set") (n:="__iter__") (by rw[Vf,Re];kernel_rfl) (by decide +kernel) (by decide +kernel) (by decide +kernel) (by first|exact .inl (by decide +kernel)|exact .inr<|by decide +kernel) (by rw[Ci];kernel_rfl)
theorem slot_snext:Slot "set_iterator" "__next__" "set_iterator.__next__":=.of (owner:="set_iterator") (n:="__next__") (by rw[Vf,Re];kernel_rfl) (by decide +kernel) (by decide +kernel) (by decide +kernel) (by first|exact .inl (by decide +kernel)|exact .inr<|by decide +kernel) (by rw[Ci];kernel_rfl)
theorem YD:Ll table "set.__iter__"=O Builtin.«frozenset.__iter__»:=Di (id':="frozenset.__iter__") (by kernel_rfl) Z (by decide +kernel) (by kernel_rfl)
theorem IK:Ll table "set_iterator.__next__"=O Builtin.«set_iterator.__next__»:=entryFor_of_fast (by kernel_rfl)
theorem bj(a:Cd):Mm "set.__iter__" ⟨[a],[]⟩:=by unfold Mm;kernel_rfl
theorem sY(a:Cd):Mm "set_iterator.__next__" ⟨[a],[]⟩:=by unfold Mm;kernel_rfl
noncomputable abbrev lG(first:Cd)(i:Nat)(S:Hd)(n a:Nat):Obj:={cls:=.type "set_iterator",data:=.fields #[first,He i,.ref S,He n,He a]}
section
variable {P:De}{w:Be}{S:Hd}{σ:Qo}{ld:Bool}
theorem Hu(c:s.heap.get? S=O o)(C:o.ExactSet)(j:o.data=.set a ep t)(k:t.fits a.size=Ep)(F:a.size<Tf)(G:(!w.params.followText "set-order"&&(!t.plain&&Es (a.size > 1)))=Er->Q (.ref s.heap.objs.size) {s with heap:=s.heap.push<|lG (He 0) 0 S a.size ep})(L:(!w.params.followText "set-order"&&(!t.plain&&Es (a.size > 1)))=Ep->∀(ys:Os) d,ys.Perm (S1 a.size) -> Q (.ref<|s.heap.objs.size+1) {s with heap:=(s.heap.push {cls:=.type "tuple",data:=.seq (ys.map λ(i:Nat)=>He i).toArray}).push (lG (.ref s.heap.objs.size) 0 S a.size ep),drawn:=d}):Ed (Md P w) A (Lm<|.ref S) Q E s:=by
 have q:s.TypeIs (.ref S) "set":=⟨o,c,C.1⟩;refine Jh q wH<|wpAny_call_entry wH q YD ?_<|bj _;unfold Builtin.«frozenset.__iter__»;show Ed _ _ (jQ S >>= _) _ _ s;refine Ad ?_;unfold jQ;refine Ad<|Bg c j k<|Bd ?_;refine Ad ?_;unfold setDrawn setsByText;refine Ad<|Mf c j k ?_;refine Ad<|Ad<|Cg<|Bd ?_;refine Bd ?_;show Ed _ _ (if (!w.params.followText "set-order"&&(!t.plain&&Es (a.size > 1)))=Ep then _ else _) _ _ s;have ne:∀(l:Cd) (b:Fd) (o1:b.heap.get? S=O o) (x:Q (.ref b.heap.objs.size) {b with heap:=b.heap.push<|lG l 0 S a.size ep}),
   Ed (Md P w) A.in1 (do let e<-setEpoch S;let v<-newFields "set_iterator" [l,He 0,T2 S,He (a.size:Nat),He (e:Nat)];ret v)
    (λfin s'=>∃v,fin=Fin.done (Flow.ret v)/\∃y r,s'.TypeIs v y/\Ph (O7 y) (Str.ofString "__next__")=pure (O r)/\Q v s') E b:=λl b o1 x=>by
  unfold setEpoch newFields;refine Ad<|Ad<|Mf o1 j k<|Bd ?_;refine Ad<|Fe<|Bd ⟨_,Z,"set_iterator",_,⟨_,O0 _ Z,Z⟩,slot_snext.lookup,x⟩
 by_cases g:(!w.params.followText "set-order"&&(!t.plain&&Es (a.size > 1)))=Ep
 .rw[Jd g];refine Ad<|XD _ _ (v5) λys d B=>?_;unfold Yn;have m:(ys.map λ(i:Nat)=>He i).toArray.size=a.size:=by have:=B.length_eq;simpa using this
  refine Ad (Fe ?_<|by unfold sizeOk;dsimp only;rw[m];exact Qg F);have z:=ne (.ref s.heap.objs.size) {s with heap:=s.heap.push {cls:=.type "tuple",data:=.seq (ys.map λ(i:Nat)=>He i).toArray},drawn:=d}<|j0 _ c;refine z ?_;have M:(s.heap.push {cls:=.type "tuple",data:=.seq (ys.map λ(i:Nat)=>He i).toArray}).objs.size=s.heap.objs.size+1:=Z1 ..;rw[M];exact L g ys d B
 .rw[Gd g];exact ne (He 0) s c<|G<|u6.mpr g
end
section
variable {P:De}{w:Be}{S:Hd}{σ:Qo}{ld:Bool}{es:Eo (Int×Cd)}{ep:Nat}{t:SetTable}
theorem MG{Q:Do (Cd×Nat)->Fd->Prop}(a:s.heap.get? S=O o)(b:o.data=.set es ep t)(c:t.fits es.size=Ep)(d:w.params.followText "set-order"=Ep)(k:Q ((Yl (w.params.setOrder S ep) es)[i]?.map λe=>(e.2,slot)) s):Ed (Md P w) A (Xh S slot i ep) Q E s:=by
 unfold Xh setWalk setsByText;refine Ad<|Mf a b c ?_;refine Ad<|Ad<|Cg<|Bd ?_;show Ed _ _ (if w.params.followText "set-order"=Ep then _ else _) _ _ s;rw[Jd d];show Ed _ _ (if (ep != ep)=Ep then _ else _) _ _ s;rw[Gd<|by simp];refine Ad<|Ad<|Mf a b c ?_;refine Ad<|Ad<|Cg<|Bd ?_;show Ed _ _ (if w.params.followText "set-order"=Ep then _ else _) _ _ s;rw[Jd d];refine Ad<|Cg<|Bd ?_;exact Bd k
theorem xH{Q:Do (Cd×Nat)->Fd->Prop}(a:s.heap.get? S=O o)(b:o.data=.set es ep t)(c:t.fits es.size=Ep)(d:w.params.followText "set-order"=Er)(e:(!t.plain&&Es (es.size > 1))=Er)(hl:t.led=Ep)
  (hi:SetTable.below t.place slot=i) (k:Q (match es[i]?,t.place[i]? with|some (_,x),O j=>O (x,j+1)|_,_=>U) s):Ed (Md P w) A (Xh S slot g ep) Q E s:=by
 unfold Xh setsByText;refine Ad<|Mf a b c ?_;refine Ad<|Ad<|Cg<|Bd ?_;show Ed _ _ (if w.params.followText "set-order"=Ep then _ else _) _ _ s;rw[Gd<|by rw[d];decide];show Ed _ _ (if (!t.plain&&Es (es.size > 1))=Ep then _ else _) _ _ s;rw[Gd<|by rw[e];decide];refine Ad ?_;show Ed _ _ (if (!t.led&&!es.isEmpty)=Ep then _ else _) _ _ s;rw[Gd<|by rw[hl];simp];refine Bd ?_;dsimp only;rw[hi];exact Bd k
end
section
variable {P:De}{w:Be}{S:Hd}{σ:Qo}{ld:Bool}{es:Eo (Int×Cd)}{ep:Nat}{t:SetTable}
theorem Sw{p:Nat}(a:s.heap.get? S=O o)(b:o.data=.set es ep t)(c:t.fits es.size=Ep)(hx:es[p]?=O e)(k:Q e.2 s):Ed (Md P w) A (An S p ep) Q E s:=by
 unfold An;refine Ad<|Mf a b c ?_;show Ed _ _ (if (ep != ep)=Ep then _ else _) _ _ s;rw[Gd<|by simp];show Ed _ _ (match es[p]? with|some (_,x)=>_|_=>_) _ _ s;rw[hx];exact Bd k
theorem Iu{Q:Do Cd->Fd->Prop}(a:s.heap.get? I=O (lG (He slot) i S es.size ep))(e:s.heap.get? S=O o)(g:o.data=.set es ep t)(j:t.fits es.size=Ep)(l:∀{m:Eg}{q:Cd->Fd->Prop}{b:Do (Cd×Nat)->Fd->Prop},b (O (x,nx)) s->Ed (Md P w) m (Xh S slot i ep) b q s)(k:∀h',h'.get? I=O (lG (He nx) (i+1) S es.size ep)->S3 I s.heap h'->Q (O x) {s with heap:=h'}):Ed (Md P w) A (Bf<|.ref I) Q E s:=by
 have c:s.TypeIs (.ref I) "set_iterator":=⟨_,a,Z⟩;unfold Bf;refine Ad<|Gf<|Yd (name:=Str.ofString "__next__") c slot_snext<|wpAny_call_entry slot_snext c IK ?_<|sY _;unfold Builtin.«set_iterator.__next__»;show Ed _ _ (Ao (.ref I) >>= _) _ _ s;refine Ad<|Vg a Z ?_;show Ed _ _ (Qm S >>= _) _ _ s;refine Ad<|Bg e g j ?_;show Ed _ _ (if (((es.size:Nat):Int) != ((es.size:Nat):Int))=Ep then _ else _) _ _ s;rw[Gd<|by simp];show Ed _ _ (Xh S slot i ep >>= _) _ _ s;refine Ad<|l ?_;refine Ad<|Kf a Z (by simp) ?_;have d:(s.heap.update I (k9 (·.setIfInBounds 0 (He nx)))).get? I=O (lG (He nx) i S es.size ep):=O4 _ a<|m7<|j7 Z _;refine Ad<|Kf d Z (by simp) ?_;have g2:((s.heap.update I (k9 (·.setIfInBounds 0 (He nx)))).update I (k9 (·.setIfInBounds 1 (He<|(i:Int)+1)))).get? I=O (lG (He nx) (i+1) S es.size ep):=O4 _ d<|m7<|j7 Z _;exact Bd ⟨x,Z,Bd<|k _ g2<|(K5 _ I _).trans<|K5 _ I _⟩
end
section
variable {P:De}{w:Be}{S:Hd}{σ:Qo}{ld:Bool}{es:Eo (Int×Cd)}{ep:Nat}{t:SetTable}
theorem Tw{p:Nat}{ys:Os}{Q:Do Cd->Fd->Prop}(a:s.heap.get? I=O (lG (.ref T) i S es.size ep))(g:s.heap.get? S=O o)(j:o.data=.set es ep t)(l:t.fits es.size=Ep)(b:s.heap.get? T=O ot) (q:ot.data=.seq (ys.map λ(i:Nat)=>He i).toArray c) (hy:ys[i]?=O p) (hx:es[p]?=O e)(k:∀h',h'.get? I=O (lG (.ref T) (i+1) S es.size ep)->S3 I s.heap h'->Q (O e.2) {s with heap:=h'}):Ed (Md P w) A (Bf<|.ref I) Q E s:=by
 have m:s.TypeIs (.ref I) "set_iterator":=⟨_,a,Z⟩;unfold Bf;refine Ad<|Gf<|Yd (name:=Str.ofString "__next__") m slot_snext<|wpAny_call_entry slot_snext m IK ?_<|sY _;unfold Builtin.«set_iterator.__next__»;show Ed _ _ (Ao (.ref I) >>= _) _ _ s;refine Ad<|Vg a Z ?_;show Ed _ _ (Qm S >>= _) _ _ s;refine Ad<|Bg g j l ?_;show Ed _ _ (if (((es.size:Nat):Int) != ((es.size:Nat):Int))=Ep then _ else _) _ _ s;rw[Gd<|by simp];show Ed _ _ (En (.ref T) >>= _) _ _ s;refine Ad<|Pe b q ?_;show Ed _ _ (match (ys.map λ(i:Nat)=>He i).toArray[i]? with|some (.int d _)=>_|some _=>_|none=>_) _ _ s;rw[show (ys.map λ(i:Nat)=>He i).toArray[i]?=O (He p) by simp[hy]];show Ed _ _ (An S p ep >>= _) _ _ s;refine Ad<|Sw g j l hx ?_;refine Ad<|Kf a Z (by simp) ?_;have v:(s.heap.update I (k9 (·.setIfInBounds 1 (He<|(i:Int)+1)))).get? I=O (lG (.ref T) (i+1) S es.size ep):=O4 _ a<|m7<|j7 Z _;exact Bd ⟨e.2,Z,Bd<|k _ v<|K5 _ I _⟩
theorem ZD{Q:PySem.Fin->Fd->Prop}(d:A.handled=U)(k:∀h' e,(∀b o,s.heap.get? b=O o->h'.get? b=O o)->(∃c,h'.get? e=O c/\c.cls=.type "StopIteration")->E (.ref e) {s with heap:=h'}) :
  Ed (Md P w) A (do let e<-Tn (.type "StopIteration") [];Wn e) Q E s:=by
 refine Ad ?_;simp only[Tn,Yn];refine Ad (Fe ?_<|by size_fits);refine Ad (m:=Wg _ _)<|Ml (a:=X4) (by first|rfl|(simp only[Wg];rfl)) ?_;refine Fe ?_ (by size_fits);simp only[Wn];refine Ad<|Em ?_;rw[d];refine Ad<|Bd<|Kn ?_;exact k _ _ (λb o q=>j0 _<|j0 _ q) ⟨_,O0 _ Z,Z⟩
end
section
variable {P:De}{w:Be}{S:Hd}{σ:Qo}{ld:Bool}{es:Eo (Int×Cd)}{ep:Nat}{t:SetTable}
theorem tY{f:Obj->Obj}{u:Obj}(n:b≠I)(q:h.get? b=O u):(h.update I f).get? b=O u:=(P7 _ _<|L5 n).trans q
theorem BI{Q:Do Cd->Fd->Prop}(g:A.handled=U)(a:s.heap.get? I=O (lG (He slot) i S es.size ep))(j:s.heap.get? S=O o)(l:o.data=.set es ep t)(m:t.fits es.size=Ep)(v:∀{x:Eg}{y:Cd->Fd->Prop}{c:Do (Cd×Nat)->Fd->Prop},c U s->Ed (Md P w) x (Xh S slot i ep) c y s)(k:∀h',(∀b u,b≠I->s.heap.get? b=O u->h'.get? b=O u)->Q U {s with heap:=h'}):Ed (Md P w) A (Bf<|.ref I) Q E s:=by
 have d:s.TypeIs (.ref I) "set_iterator":=⟨_,a,Z⟩;unfold Bf;refine Ad<|Gf<|Yd (name:=Str.ofString "__next__") d slot_snext<|wpAny_call_entry slot_snext d IK ?_<|sY _;unfold Builtin.«set_iterator.__next__»;show Ed _ _ (Ao (.ref I) >>= _) _ _ s;refine Ad<|Vg a Z ?_;show Ed _ _ (Qm S >>= _) _ _ s;refine Ad<|Bg j l m ?_;show Ed _ _ (if (((es.size:Nat):Int) != ((es.size:Nat):Int))=Ep then _ else _) _ _ s;rw[Gd<|by simp];show Ed _ _ (Xh S slot i ep >>= _) _ _ s;refine Ad<|v ?_;refine Ad<|Kf a Z (by simp) ?_;refine ZD (by simp[g]) λh' e kp B=>?_;refine Ad<|Ye (T:="StopIteration") (b:=Ep) B Ih ?_;exact Bd<|k h' λb u C q=>kp b u<|tY C q
theorem Ju{ys:Os}{Q:Do Cd->Fd->Prop}(m:A.handled=U)(a:s.heap.get? I=O (lG (.ref T) i S es.size ep))(v:s.heap.get? S=O o)(x:o.data=.set es ep t)(y:t.fits es.size=Ep)(d:s.heap.get? T=O ot) (B:ot.data=.seq (ys.map λ(i:Nat)=>He i).toArray c) (hy:ys[i]?=U)(k:∀h',(∀b u,b≠I->s.heap.get? b=O u->h'.get? b=O u)->Q U {s with heap:=h'}):Ed (Md P w) A (Bf<|.ref I) Q E s:=by
 have j:s.TypeIs (.ref I) "set_iterator":=⟨_,a,Z⟩;unfold Bf;refine Ad<|Gf<|Yd (name:=Str.ofString "__next__") j slot_snext<|wpAny_call_entry slot_snext j IK ?_<|sY _;unfold Builtin.«set_iterator.__next__»;show Ed _ _ (Ao (.ref I) >>= _) _ _ s;refine Ad<|Vg a Z ?_;show Ed _ _ (Qm S >>= _) _ _ s;refine Ad<|Bg v x y ?_;show Ed _ _ (if (((es.size:Nat):Int) != ((es.size:Nat):Int))=Ep then _ else _) _ _ s;rw[Gd<|by simp];show Ed _ _ (En (.ref T) >>= _) _ _ s;refine Ad<|Pe d B ?_;show Ed _ _ (match (ys.map λ(i:Nat)=>He i).toArray[i]? with|some (.int g _)=>_|some _=>_|none=>_) _ _ s;rw[show (ys.map λ(i:Nat)=>He i).toArray[i]?=U by simp at hy ⊢;exact hy];refine Ad<|Kf a Z (by simp) ?_;have C:(s.heap.update I (k9 (·.setIfInBounds 0 (He 0)))).get? I=O (lG (He 0) i S es.size ep):=O4 _ a<|m7<|j7 Z _;refine Ad<|Kf C Z (by simp) ?_;refine ZD (by simp[m]) λh' e kp F=>?_;refine Ad<|Ye (T:="StopIteration") (b:=Ep) F Ih ?_;exact Bd<|k h' λb u l q=>kp b u<|tY l<|tY l q
end
theorem yH:Slot "set_iterator" "__iter__" "set_iterator.__iter__":=.of (owner:="set_iterator") (n:="__iter__") (by rw[Vf,Re];kernel_rfl) (by decide +kernel) (by decide +kernel) (by decide +kernel) (by first|exact .inl (by decide +kernel)|exact .inr<|by decide +kernel) (by rw[Ci];kernel_rfl)
theorem aq:Ll table "set_iterator.__iter__"=O Builtin.«dict_keyiterator.__iter__»:=Di (id':="dict_keyiterator.__iter__") (by kernel_rfl) Z (by decide +kernel) (by kernel_rfl)
theorem cj(a:Cd):Mm "set_iterator.__iter__" ⟨[a],[]⟩:=by unfold Mm;kernel_rfl
section
variable {P:De}{w:Be}{S:Hd}{es:Eo (Int×Cd)}{ep:Nat}{t:SetTable}{ord:Et}
theorem bq(a:s.TypeIs (.ref I) "set_iterator")(k:Q (.ref I) s):Ed (Md P w) A (Lm<|.ref I) Q E s:=by refine Jh a yH<|wpAny_call_entry yH a aq ?_<|cj _;unfold Builtin.«dict_keyiterator.__iter__»;exact Bd ⟨_,Z,"set_iterator",_,a,slot_snext.lookup,k⟩
theorem cq(C:Nat->Nat->Prop)(L:A.handled=U)(M:S≠I)(B:o.data=.set es ep t)(F:t.fits es.size=Ep)(step:∀i slot,C i slot->i<es.size->∃x nx,ord[i]?=O x/\C (i+1) nx/\∀{s:Fd}{j:Eg}{E':Cd->Fd->Prop}{e:Do (Cd×Nat)->Fd->Prop},s.heap.get? S=O o->e (O (x,nx)) s->Ed (Md P w) j (Xh S slot i ep) e E' s)(g:∀slot,C es.size slot->∀{s:Fd}{j:Eg}{E':Cd->Fd->Prop}{e:Do (Cd×Nat)->Fd->Prop},s.heap.get? S=O o->e U s->Ed (Md P w) j (Xh S slot es.size ep) e E' s):WalksS P w A I [I,S] [I] (λa b=>b=a) es.size (λi v=>ord[i]?=O v) (λi s=>s.heap.get? S=O o/\∃slot,C i slot/\s.heap.get? I=O (lG (He slot) i S es.size ep)) where
 sub:=λb z=>by rw[T1.mp z];exact G0
 grefl:=λ_=>rfl
 gtrans:=λ_ _ _ l m=>m.trans l
 frame:=λi s h' tk ⟨d,slot,c,g2⟩ _ kp=>⟨kp S (by simp) _ d,slot,c,kp I (by simp) _ g2⟩
 item:=λi s Q E hi ⟨d,slot,c,g2⟩ k=>by obtain⟨x,nx,l,m,R⟩:=step i slot c hi;refine Iu g2 d B F (λr=>R d r) λh' Y G=>k x _ l ⟨(G.2 S M).trans d,nx,m,Y⟩ ⟨λb u y q=>(G.2 b<|by simpa using y).trans q,Z,Z,Z,P0 _⟩
 done:=λs Q E ⟨d,slot,c,g2⟩ k=>BI L g2 d B F (λr=>g slot c d r) λh' kp=>k _ ⟨λb u y q=>kp b u (by simpa using y) q,Z,Z,Z,P0 _⟩
 self:=λi s Q E ⟨d,slot,c,g2⟩ k=>bq ⟨_,g2,Z⟩ k
theorem Uw{ys:Os}(G:A.handled=U)(L:S≠I)(M:T≠I)(y:o.data=.set es ep t)(B:t.fits es.size=Ep)(C:ot.data=.seq (ys.map λ(i:Nat)=>He i).toArray c)(hl:ys.length=es.size)(step:∀(i p:Nat),ys[i]?=O p->∃e,es[p]?=O e/\ord[i]?=O e.2):WalksS P w A I [I,S,T] [I] (λa b=>b=a) es.size (λi v=>ord[i]?=O v) (λi s=>s.heap.get? S=O o/\s.heap.get? T=O ot/\s.heap.get? I=O (lG (.ref T) i S es.size ep)) where
 sub:=λb z=>by rw[T1.mp z];exact G0
 grefl:=λ_=>rfl
 gtrans:=λ_ _ _ j l=>l.trans j
 frame:=λi s h' Y ⟨d,g,g2⟩ _ kp=>⟨kp S (by simp) _ d,kp T (by simp) _ g,kp I (by simp) _ g2⟩
 item:=λi s Q E hi ⟨d,g,g2⟩ k=>by obtain⟨p,F⟩:∃p,ys[i]?=O p:=⟨_,L0<|by omega⟩;obtain⟨e,j,l⟩:=step i p F;exact Tw g2 d y B g C F j λh' R m=>k e.2 _ l ⟨(m.2 S L).trans d,(m.2 T M).trans g,R⟩ ⟨λb u x q=>(m.2 b<|by simpa using x).trans q,Z,Z,Z,P0 _⟩
 done:=λs Q E ⟨d,g,g2⟩ k=>Ju G g2 d y B g C (by rw[S4];omega) λh' kp=>k _ ⟨λb u x q=>kp b u (by simpa using x) q,Z,Z,Z,P0 _⟩
 self:=λi s Q E ⟨d,g,g2⟩ k=>bq ⟨_,g2,Z⟩ k
end
theorem Vw:Ph (.type "set") "__len__"=pure (O<|.builtin "set.__len__"):=by rw[Vf,Re];kernel_rfl
section
variable {P:De}{w:Be}{S:Hd}
theorem dq{Q:Bool->Fd->Prop}(a:s.TypeIs (.ref S) "set")(k:Q Er s):Ed (Md P w) A (G9<|.ref S) Q E s:=by
 unfold G9;refine Ad<|Kg a Vw ?_;have b:splitId "set.__len__"=O ("set","__len__"):=by decide +kernel
 simp only[b];refine Ad<|Ye a sub_set_self ?_;simp only[W7,J3,if_false];rw[Jd<|by decide +kernel];refine Ad<|Xf a ?_;exact Bd k
theorem zH{St:Nat->Fd->Prop}(W:WalksS P w A.in1 I fp [I] (λa b=>b=a) n i St)(m:n<=sizeLine)(nl:l∉fp)
  (hl:s.heap.get? l=O {cls:=.type "list",data:=.seq #[] 0}) (st:St 0 s)
  (k:∀s' d c,Moved [l,I] (λa b=>b=a) s s'->s'.heap.get? l=O {cls:=.type "list",dict:=U,data:=.seq d c,slots:=#[]}->ItemsOf i d n->R (.ok<|.ret<|.ref l) s') :
  Ed (Md P w) A.in1 (rule "list.extend.makes-room" >>= λ_=>Builtin.List.listTouch (.ref l) >>= λ_=>again<|.builtin "list.extend.loop" ⟨[.ref l,.ref I,.ref l],[]⟩)
   (λfin s'=>match fin with | .done f=>R (.ok f) s' | .again c=>c.quiet=Ep/\Ah (Md P w) A c R s') E' s:=by
 refine Ad<|Ve<|Ad ?_;show Ed _ A.in1 (updateSeq l (·.push .none) >>= λ_=>updateSeq l (·.pop)) _ _ _;refine Ad<|Th hl Z ?_;have j:=O4 (U3 (·.push X4)) hl Z;refine Th j Z ?_;have g2:=O4 (U3 (·.pop)) j Z;have e:∀b u,b≠l->s.heap.get? b=O u->((s.heap.update l (U3 (·.push X4))).update l (U3 (·.pop))).get? b=O u:=λb u g q=>tY g<|tY g q;refine Bd ⟨Ag F.plain_extend_loop _,codeAny_extend_loopS W m l nl _ n 0 _ _ _ Z (v4 _) (W.frame 0 s _ s.toks st (P0 _) λb z u q=>e b u (λy=>nl<|y ▸ z) q) g2 (ItemsOf.nil i) λs' d c t v it=>?_⟩;have x:Moved [l,I] (λa b=>b=a) s {s with heap:=(s.heap.update l (U3 (·.push X4))).update l (U3 (·.pop))}:=⟨λb u g q=>e b u (λy=>g<|by rw[y];exact G0) q,Z,Z,Z,P0 _⟩;exact k s' d c (Moved.trans W.gtrans x t) v it
end
theorem Ww(h:ItemsOf (λi v=>ord[i]?=O v) acc n)(hl:ord.length=n):acc.toList=ord:=by refine L7 (by rw[W0,h.1,hl]) λi a b=>?_;have:=h.2 i (acc.toList[i]) (by rw[<-E3,L0 a]);have this:ord[i]?=O acc.toList[i]:=this;rw[L0 b]at this;exact(O2 this).symm
theorem AH:∀{l:Et},(∀v∈l,∃a,v=.int (yJ v) a)->Qe l (l.map yJ)
 |[],_=>.nil
 |v::l,h=>by obtain⟨a,e⟩:=h v G0;have r:=AH (l:=l) λx hx=>h x<|q0 _ hx;rw[G2];generalize yJ v=m at e ⊢;subst e;exact .cons m a r
section
variable {P:De}{w:Be}{S:Hd}{σ:Qo}
theorem fq{Q:Et->Fd->Prop}(hh:A.handled=U)(hS:IS P w (!w.params.followText "set-order") s.heap S σ)(k:∀h' d tk vs ms,(∀b u,s.heap.get? b=O u->h'.get? b=O u)->s.heap.objs.size<h'.objs.size->Qe vs ms->ms.Perm σ->Q vs {s with heap:=h',drawn:=d,toks:=tk}):Ed (Md P w) A (collect<|.ref S) Q E s:=by
 obtain⟨o,j,B,t,q1,q2,L,q4,q5,q6,y,q8,q9⟩:=hS;have lS:S<s.heap.objs.size:=Q0 q1;have Y:t.place.size=j.size:=by unfold SetTable.fits at y;simp at y;exact y.1
 have fin:∀(ord:Et),ord.Perm (j.toList.map (·.2))->Qe ord (ord.map yJ)/\(ord.map yJ).Perm σ/\ord.length=j.size:=λord C=>by
  refine⟨AH λv hv=>?_,?_,?_⟩
  .obtain⟨e,he,rfl⟩:=v0.mp<|C.mem_iff.mp hv;exact UD q4 he
  .refine(C.map yJ).trans ?_;rw[A0];exact q5
  .have:=C.length_eq;simpa using this
 unfold collect;refine Ad<|wpAny_runValue<|Te F.entry_proto_collect ?_;rw[Around.under_plainId F.plain_proto_collect _];show Ed _ A.in1 (newList [] >>= λl=>again<|.builtin "list.__iadd__" ⟨[l,.ref S],[]⟩) _ _ s;refine Ad<|Fe ?_;refine Bd ⟨Ag F.plain_list_iadd _,Te F.entry_list_iadd ?_⟩;rw[Around.under_plainId F.plain_list_iadd _];have nS:s.heap.objs.size≠S:=G4 lS;have e0:=j0 (h:=s.heap) {cls:=.type "list",data:=.seq ([]:Et).toArray} q1;have el:(s.heap.push {cls:=.type "list",data:=.seq ([]:Et).toArray}).get? s.heap.objs.size=O {cls:=.type "list",data:=.seq ([]:Et).toArray}:=O0 _ Z;have sz:(s.heap.push {cls:=.type "list",data:=.seq ([]:Et).toArray}).objs.size=s.heap.objs.size+1:=Z1 ..;show Ed _ A.in1 (J9 (.ref s.heap.objs.size) (.ref S)<|.ref s.heap.objs.size) _ _ _;unfold J9;refine Ad<|Xf (T:="set") ⟨o,e0,q2.1⟩ ?_;have h1:kQ (.ref s.heap.objs.size) (.ref S)=false:=by simp[kQ,nS]
 have h2:(O7 "set"==O7 "list")=false:=by decide
 have h3:(O7 "set"==O7 "tuple")=false:=by decide
 simp only[h1,h2,h3,Bool.or_false,J3,if_false];have done:∀(ord:Et) (I:Hd) (x s':Fd) (m:Eo Cd) (c:Nat),ord.Perm (j.toList.map (·.2))->s.heap.objs.size<=I->x.gens=s.gens->x.os=s.os->(∀b u,s.heap.get? b=O u->x.heap.get? b=O u)->Moved [s.heap.objs.size,I] (λa b=>b=a) x s' ->
   s'.heap.get? s.heap.objs.size=O {cls:=.type "list",dict:=U,data:=.seq m c,slots:=#[]}->ItemsOf (λi v=>ord[i]?=O v) m j.size ->
   Ed (Md P w) A (load s.heap.objs.size >>= λob=>match ob.data with | .seq xs _=>pure xs.toList|_=>Ug "internal:collect") Q E s':=λord I x s' m c C nI hg ho kp G g it=>by
  obtain⟨f1,f2,f3⟩:=fin ord C;obtain⟨h',g',d',lh,os'⟩:=s';obtain rfl:g'=s.gens:=G.gens.trans hg;obtain rfl:os'=s.os:=G.os.trans ho;refine Ad<|wpAny_load g<|Bd ?_;rw[Ww it f3];refine k h' d' lh ord _ (λb u q=>G.heap b u ?_<|kp b u q) (Q0 g) f1 f2;have lb:=Q0 q;simp only[R0,h7,or_false,not_or];exact⟨X0 lb,X0<|u0 lb nI⟩
 let RR:Nm->Fd->Prop:=λr s'=>match r with
  | .ok (.ret v)=>Ed (Md P w) A (match v with | .ref a=>(do let ob<-load a;match ob.data with | .seq xs _=>pure xs.toList|_=>Ug "internal:collect")|_=>Ug "internal:collect") Q E s'
  | .ok _=>Fo
  | .error e=>E e s'
 have nIS:S≠s.heap.objs.size+1:=X0<|M5 lS;have hn:=Qg q6;refine Ad<|Hu e0 q2 L y q6 (λhb=>?a)<|λhb ys d C=>?b
 case a =>
  refine Ad<|Ce<|dq ⟨o,j0 _ e0,q2.1⟩ ?_;rw[Jd<|by decide +kernel];rw[show (s.heap.push {cls:=.type "list",data:=.seq ([]:Et).toArray}).objs.size=s.heap.objs.size+1 from sz];have nl:s.heap.objs.size∉[s.heap.objs.size+1,S]:=by simp only[R0,h7,or_false,not_or];exact⟨X0<|S2 _,nS⟩
  have gI:((s.heap.push {cls:=.type "list",data:=.seq ([]:Et).toArray}).push<|lG (He 0) 0 S j.size B).get? (s.heap.objs.size+1)=O (lG (He ((0:Nat):Int)) 0 S j.size B):=by rw[<-sz];exact O0 _ Z
  let x:Fd:={s with heap:=(s.heap.push {cls:=.type "list",data:=.seq ([]:Et).toArray}).push<|lG (He 0) 0 S j.size B}
  cases ht:w.params.followText "set-order" with
  |true =>
   have pz:(Yl (w.params.setOrder S B) j).size=j.size:=by have:=(LG (w.params.setOrder S B) j).length_eq;simpa using this
   refine wpAny_mono (zH (R:=RR) (E':=λe s'=>E e s') (s:=x) (cq (ord:=(Yl (w.params.setOrder S B) j).toList.map (·.2)) (λ_ _=>True) (A:=A.in1) hh nIS L y (λi slot _ hi=>?_)<|λslot _=>?_) hn nl (j0 _ el) ⟨j0 _ e0,0,trivial,gI⟩ λs' m c G g it=>?_) (λfin s' h=>by cases fin with|done f=>(cases f<;>exact h)|again c=>exact⟨h.1,Hg h.2 λr s3 M=>by cases r with|error e=>exact M|ok f=>(cases f<;>exact M)⟩)<|λ_ _ h=>h
   .obtain⟨e,he⟩:∃e,(Yl (w.params.setOrder S B) j)[i]?=O e:=⟨_,T4<|by rw[pz];exact hi⟩;exact⟨e.2,slot,by rw[Z0,E3,he];rfl,trivial,λg1 r=>MG g1 L y ht<|by rw[he];exact r⟩
   .exact λg1 r=>MG g1 L y ht (by rw[T8<|by rw[pz];exact P0 _];exact r)
   .exact done _ _ x s' m c ((LG _ j).map _) (k6 _) Z Z (λb u q=>j0 _<|j0 _ q) G g it
  |false =>
   rw[ht]at hb q9;have ye:(!t.plain&&Es (j.size > 1))=false:=hb;have hld:t.led=true:=q9;refine wpAny_mono (zH (R:=RR) (E':=λe s'=>E e s') (s:=x) (cq (ord:=j.toList.map (·.2)) (λi slot=>SetTable.below t.place slot=i) (A:=A.in1) hh nIS L y (λi slot hc hi=>?_)<|λslot hc=>?_) hn nl (j0 _ el) ⟨j0 _ e0,0,Wz q8,gI⟩ λs' m c G g it=>?_) (λfin s' h=>by cases fin with|done f=>(cases f<;>exact h)|again c=>exact⟨h.1,Hg h.2 λr s3 M=>by cases r with|error e=>exact M|ok f=>(cases f<;>exact M)⟩)<|λ_ _ h=>h
   .obtain⟨e,he⟩:∃e,j[i]?=O e:=⟨_,T4 hi⟩;have hj:t.place[i]?=O (t.place.getD i 0):=by rw[T4<|by rw[Y];exact hi];simp[x8,show i<t.place.size by rw[Y];exact hi]
    exact⟨e.2,t.place.getD i 0+1,by rw[Z0,E3,he];rfl,Vz q8 (by rw[Y];exact hi),λg1 r=>xH g1 L y ht ye hld hc<|by rw[he,hj];exact r⟩
   .exact λg1 r=>xH g1 L y ht ye hld hc (by rw[T8<|P0 _];exact r)
   .exact done _ _ x s' m c (List.Perm.refl _) (k6 _) Z Z (λb u q=>j0 _<|j0 _ q) G g it
 case b =>
  refine Ad<|Ce<|dq ⟨o,j0 _<|j0 _ e0,q2.1⟩ ?_;rw[Jd<|by decide +kernel];rw[show (s.heap.push {cls:=.type "list",data:=.seq ([]:Et).toArray}).objs.size=s.heap.objs.size+1 from sz];have nl:s.heap.objs.size∉[s.heap.objs.size+1+1,S,s.heap.objs.size+1]:=by simp only[R0,h7,or_false,not_or];exact⟨X0<|M5<|S2 _,nS,X0<|S2 _⟩
  let ot:Obj:={cls:=.type "tuple",data:=.seq (ys.map λ(i:Nat)=>He i).toArray}
  have gT:((s.heap.push {cls:=.type "list",data:=.seq ([]:Et).toArray}).push ot).get? (s.heap.objs.size+1)=O ot:=by rw[<-sz];exact O0 _ Z
  have sz2:((s.heap.push {cls:=.type "list",data:=.seq ([]:Et).toArray}).push ot).objs.size=s.heap.objs.size+1+1:=by rw[Z1,sz]
  have gI:(((s.heap.push {cls:=.type "list",data:=.seq ([]:Et).toArray}).push ot).push<|lG (.ref<|s.heap.objs.size+1) 0 S j.size B).get? (s.heap.objs.size+1+1)=O (lG (.ref<|s.heap.objs.size+1) 0 S j.size B):=by rw[<-sz2];exact O0 _ Z
  have hyl:ys.length=j.size:=by have:=C.length_eq;simpa using this
  let x:Fd:={s with heap:=((s.heap.push {cls:=.type "list",data:=.seq ([]:Et).toArray}).push ot).push (lG (.ref<|s.heap.objs.size+1) 0 S j.size B),drawn:=d}
  have vp:∀p,p∈ys->p<j.size:=λp z=>V4.mp<|C.mem_iff.mp z;have oe:(ys.map λp=>(j.getD p (0,X4)).2).Perm (j.toList.map (·.2)):=by
   refine(C.map _).trans<|List.Perm.of_eq ?_;refine L7 (by simp) λi h1 h2=>?_;have:i<j.size:=by simpa using h1
   simp[x8,this]
  refine wpAny_mono (zH (R:=RR) (E':=λe s'=>E e s') (s:=x) (Uw (ord:=ys.map λp=>(j.getD p (0,X4)).2) (A:=A.in1) hh (X0<|M5<|M5 lS) (X0<|S2 _) L y (ot:=ot) Z hyl<|λi p hy=>?_) hn nl
    (j0 _<|j0 _ el) ⟨j0 _<|j0 _ e0,j0 _ gT,gI⟩ λs' m c G g it=>?_) (λfin s' h=>by cases fin with|done f=>(cases f<;>exact h)|again c=>exact⟨h.1,Hg h.2 λr s3 M=>by cases r with|error e=>exact M|ok f=>(cases f<;>exact M)⟩)<|λ_ _ h=>h
  .have hp2:p<j.size:=vp p<|A3 hy;refine⟨j.getD p (0,X4),by rw[T4 hp2];simp[x8,hp2],by rw[Z0,hy];rfl⟩
  .exact done _ _ x s' m c oe (X5<|k6 _) Z Z (λb u q=>j0 _<|j0 _<|j0 _ q) G g it
end
open PySem.W
noncomputable def fR(ns:Qo)(v:Cd):Nat:=(ns.filter λm=>decide<|m<yJ v).length
theorem yx{ns:Qo}(h:a<=b):(ns.filter λm=>decide<|m<a).length<=(ns.filter λm=>decide<|m<b).length:=by
 induction ns with
 |nil=>exact P0 _
 |cons c ns g =>
  by_cases e:c<a
  .have d:c<b:=by omega
   simp[e,d];exact g
  .by_cases d:c<b
   .simp[e,d];omega
   .simp[e,d];exact g
theorem CI{ns:Qo}(h:a<b)(j:a∈ns):(ns.filter λm=>decide<|m<a).length<(ns.filter λm=>decide<|m<b).length:=by
 induction ns with
 |nil=>cases j
 |cons c ns d =>
  by_cases e:a=c
  .subst e;have:=yx (ns:=ns) (a:=a) (b:=b) (by omega);simp[h];omega
  .have d:=d (by rcases R0.mp j with z|z;exact absurd z e;exact z);by_cases i:c<a
   .have g:c<b:=by omega
    simp[i,g];exact d
   .by_cases g:c<b
    .simp[i,g];omega
    .simp[i,g];exact d
theorem Ku(hx:yJ x∈ns)(hy:yJ y∈ns):fR ns x<fR ns y↔yJ x<yJ y:=by
 constructor
 .intro h;by_cases z:yJ x<yJ y
  .exact z
  .have:=yx (ns:=ns) (a:=yJ y) (b:=yJ x) (by omega);unfold fR at h;omega
 .intro h;exact CI h hx
theorem BH:∀{a:Et}{ns:Qo},Qe a ns->a.map yJ=ns/\∀v∈a,∃c,v=.int (yJ v) c
 |_,_,.nil=>⟨Z,λv h=>by cases h⟩
 |_,_,.cons n t r=>by
  obtain⟨d,e⟩:=BH r;refine⟨by rw[G2,d];rfl,λv b=>?_⟩;rcases R0.mp b with rfl|b
  .exact⟨t,Z⟩
  .exact e v b
section
variable {P:De}{w:Be}
theorem Lu(i:s.heap.get? a=O (Ef "list" b.toArray n))(j:b.length<=sizeLine)(d:Qe b ns)(k:∀(out:Et),out.Perm b->(out.map yJ).Pairwise (·<=·)->R (.done<|.ret .none) {s with heap:=Pm s.heap a b out.toArray}):Ed (Md P w) A (Builtin.«list.sort» ⟨[.ref a],[]⟩) R E s:=by
 obtain⟨l,v2⟩:=BH d;have mem:∀v∈b,yJ v∈ns:=λv m=>by rw[<-l];exact v0.mpr ⟨v,m,Z⟩
 refine pV (κ:=oneType') (rk:=fR ns) i j (λc s' _ t q=>?_) (λs' _ x y hx hy t q=>?_) λout o1 o2=>k out o1 ?_
 .match b,c,d with
  |x::y::r,_,d=>rw[keyKind_ints d];exact Bd q
  |[_],c,_=>simp at c
  |[],c,_=>simp at c
 .obtain⟨B,e⟩:=v2 x hx;obtain⟨C,g⟩:=v2 y hy;have r:=Ku (mem x hx)<|mem y hy;rw[show Es (fR ns x<fR ns y)=Es (yJ x<yJ y) from by simp only[r]]at q;rw[keyLt'_oneType];generalize yJ x=m1 at e q;generalize yJ y=m2 at g q;subst e;subst g;exact oneLt_int q
 .rw[N5];refine o2.imp_of_mem λ{x y} hx hy h=>?_;have r:=Ku (mem y<|o1.mem_iff.mp hy)<|mem x<|o1.mem_iff.mp hx;omega
end
theorem lT(q:h.get? a=O (Ef "list" vs.toArray n)):(∃e,(Pm h a vs out).get? a=O (Ef "list" out e))/\∀b u,b≠a->h.get? b=O u->(Pm h a vs out).get? b=O u:=by obtain⟨c,g⟩:∃c,(h.update a<|U3 λ_=>#[]).get? a=O (Ef "list" #[] c):=⟨_,Jl q<|λ_=>#[]⟩;have g2:=j0 (Ef "list" #[] 0)<|j0 (Ef "tuple" vs.toArray 0) g;exact⟨⟨_,Jl g2<|λ_=>out⟩,λb u d z=>tY d<|j0 _<|j0 _<|tY d z⟩
section
variable {P:De}{w:Be}{S:Hd}{σ:Qo}
theorem dj(y:A.handled=U)(B:IS P w (!w.params.followText "set-order") s.heap S σ)(C:σ.length<=sizeLine)(k:∀h' d c p out e,(∀b u,s.heap.get? b=O u->h'.get? b=O u)->s.heap.objs.size<=p->h'.get? p=O (Ef "list" out e)->(∃a,Qe out.toList a/\a.Perm σ/\a.Pairwise (·<=·))->Q (.ref p) {s with heap:=h',drawn:=d,toks:=c}):Ed (Md P w) A (call (.builtin "sorted") [.ref S]) Q E s:=by
 refine Calls.call_function_entry kind_sorted plain_sorted entry_sorted (args_sorted1 _) ?_;unfold Builtin.«sorted»;refine Ad (m:=checkCount "sorted" 1 1 _)<|Bd<|Ad<|fq y B λl d c i a kp sz j t=>?_;have x:i.length<=sizeLine:=by rw[IntsAre.length j,t.length_eq];exact C
 refine Ad<|Dm ?_ x;have g:(l.push<|Ef "list" i.toArray 0).get? l.objs.size=O (Ef "list" i.toArray 0):=O0 _ Z;refine Ad<|Ce<|wpAny_call_entry slot_list_sort ⟨_,g,Z⟩ entry_list_sort (Lu g x j λout o1 o2=>⟨_,Z,?_⟩)<|args_list_sort _;obtain⟨⟨e,F⟩,G⟩:=lT (out:=out.toArray) g;obtain⟨L,v2⟩:=BH j;refine Bd ⟨_,Z,k _ d c _ out.toArray e (λb u q=>G b u (X0<|Q0<|kp b u q)<|j0 _<|kp b u q) (Y0 sz) F ⟨out.map yJ,?_,?_,o2⟩⟩
 .exact AH λv M=>v2 v<|o1.mem_iff.mp M
 .refine(o1.map yJ).trans ?_;rw[L];exact t
end
noncomputable abbrev DI(P:De)(w:Be)(p:Hd)(σ:Qo):HO:=.ext λh=>IS P w (!w.params.followText "set-order") h p σ
def kM(P:De)(w:Be)(K:M0):List V->Hp->VK->Prop:=λb H Q=>∃(a:Hd) (ns:Qo),b=[.ref a]/\SqL K H a (ns.map V.int)/\ns.length+1<Tf /\
 ∀p,H p=U->Q (.ref p) (gJ H p<|DI P w p<|Pf (λi=>ns.getD i 0) ns.length)
theorem Xw(j:X.calm=Ep):VZ X (.type "set") (kM X.prog X.w X.K):=by
 intro ae s σ H L us Q I r h;obtain⟨a,ns,rfl,k,l,q⟩:=h;obtain⟨u,rfl,m⟩:=yK r;cases m;obtain⟨be,d,⟨o,n,e,c,t,v⟩,M⟩:=I.list k;have hl:=d.length;rw[l0]at hl;refine WD (I.ok.hd j) (items:=be.toArray) (ns:=ns) ⟨o,e,c,n,by first|exact v|exact t⟩ (by simpa using EZ d) (by simpa [<-hl]using l) λh' B x kp=>?_;have C:H s.heap.objs.size=none:=I.hok.fresh<|P0 _;have g:IS X.prog X.w (!X.w.params.followText "set-order") h' s.heap.objs.size (Pf (λi=>ns.getD i 0) ns.length):=by
  have z:be.toArray.size=ns.length:=by simp[hl]
  rw[z]at x;exact x
 obtain⟨F,_,_,_,G,_⟩:=id g;refine⟨.ref s.heap.objs.size,gJ H s.heap.objs.size<|DI X.prog X.w s.heap.objs.size<|Pf (λi=>ns.getD i 0) ns.length,I.laid (t':=B) (λb u e=>kp b u (Q0 e) e) (P0 _) ?_,Z,q _ C⟩;exact⟨g,⟨F,G⟩,λP R y z=>y.keeps z⟩
def Mu(P:De)(w:Be):List V->Hp->VK->Prop:=λc H Q=>∃(a:Hd) (σ:Qo),c=[.ref a]/\H a=O (DI P w a σ)/\σ.length<=sizeLine/\∀(p:Hd) (b:Qo),H p=U->b.Perm σ->b.Pairwise (·<=·)->Q (.ref p) (gJ H p<|.lst<|b.map V.int)
theorem fj(l:X.calm=Ep):VZ X (.builtin "sorted") (Mu X.prog X.w):=by intro ae s σ H G us Q I r h;obtain⟨a,m,rfl,t,c,q⟩:=h;obtain⟨u,rfl,v⟩:=yK r;cases v;have x:IS X.prog X.w (!X.w.params.followText "set-order") s.heap a m:=(I.hok a _ t).1;refine dj (I.ok.hd l) x c λh' d y p b e kp i g ⟨j,B,k,C⟩=>?_;have F:H p=none:=I.hok.fresh i;have J:=I.laid (a:=p) (o:=.lst<|j.map V.int) (h':=h') (t':=y) kp i ⟨by rw[l0,k.length_eq];exact c,b.toList,e,nV B,by rw[g]⟩;exact⟨.ref p,_,⟨J.ok,J.os,J.bare,J.base,J.loc,J.cell,J.free,J.freeC,J.pin,J.hok,J.len⟩,Z,q p j F k C⟩
end L2
namespace L3
open L2
noncomputable def Cb:D->(Sl->Prop)->Prop
 | .list b,Q=>∃ns:Qo,b=ns.map n0/\ns.length+1<Tf/\∀a:Qo,a.Perm (Pf (λi=>ns.getD i 0) ns.length)->a.Pairwise (·<=·)->Q (.ow<|.list<|a.map n0)
 |_,_=>Fo
theorem mT{K:Fg}:JZ K (λj H Q=>kM P wd K j H λv l=>Mu P wd [v] l Q) (o1 Cb):=GD λG F σ H ρ x d Q Qd R m w k=>by
 cases d with
 |list ds=>obtain⟨ns,e,g,w⟩:=w;subst e;obtain⟨a,us,rfl,q,t⟩:=m.list R.sub;have:=t.ints_of;subst this;have y:(Pf (λi=>ns.getD i 0) ns.length).length<=sizeLine:=K0 (firstMet_length_le _ _)<|Qg<|T3 g;refine⟨a,ns,Z,SqL.of q,g,λp B=>⟨p,_,Z,uZ,y,λp2 b c C L=>?_⟩⟩;have M:=R.laid (o:=DI P wd p<|Pf (λi=>ns.getD i 0) ns.length) B;obtain⟨S,Y⟩:=M.newOw (o:=.lst<|b.map V.int) (d:=.list<|b.map n0) c<|DaAll.ints b;exact k _ _ F _ (Sub.refl _) S Y<|w b C L
 |_=>exact(w:Fo).elim
section
variable {K:Fg}{e1:Ge}{a:AD}{p p2 pos af:Pos}
theorem Yw(b:X.calm=Ep)(c:X.K=K)(d:X.mg "sorted"=U)(e:X.mg "set"=U)(g:WA X [e1] (pZ<|[a].map (XX K)))(i:Gl X "sorted":=by rfl)(j:Gl X "set":=by rfl)(k:oZ e1=true:=by rfl) :
  WE X (.Call (.Name "sorted" p) [.Call (.Name "set" p2) [e1] [] af] [] pos) (lift K<|CY [a]<|o1 Cb):=by
 subst c;exact⟨gU (XW (fj b) i d Ul (FK (uK (Xw b) j e boot_set g.h (by decide) (by decide) (YX k)<|KZ Z) FV<|YX Z) (by decide) (by decide) (YX Z)<|KZ Z) λq=>aV mT q⟩
end
end L3
namespace HT
section
open PySem.SeqAt
open PySem.AutoSeq1 (wpAny_loadPart')
open PySem.MeetsSeq PySem.MeetsSeq2 PySem.MeetsSeq3
variable {w:Be}
theorem whole_tup{lo hi:Do Int}(a:Wm s.heap t items)(c:s.heap.IsSliceOf sl vl vu .none)(d:Bl vl lo)(e:Bl vu hi)(g:sIx items.size 0 lo=0) (i:sIx items.size items.size hi=items.size) (q:Q (.ref t) s):Ed (Md prog w) A (Fi (.ref t)<|.ref sl) Q E s:=by
 obtain⟨os,j,g2,l⟩:=id c;have k:s.TypeIs (.ref sl) "slice":=⟨os,j,g2⟩;unfold Fi;try with_reducible refine Ce ?_
 first|refine Ad (Bd ?_)|skip
 refine Ad<|wpAny_sequenceKey a.typeIs (by decide) ?_;refine Ad<|Yd (name:=Str.ofString "__getitem__") a.typeIs w6<|wpAny_call_entry w6 a.typeIs Am ?_<|args_tuple_getitem _ _;show Ed _ _ (i8 (.ref t) >>= _) _ _ s;refine Ad<|tupleItemsOf_ a<|Ad<|Xf k ?_;rw[Jd<|by decide];refine Ad<|RK c d e ?_;have b:((((sIx items.size 0 lo:Nat):Int)==0&&(1:Int)==1&&(sIx items.size items.size hi-sIx items.size 0 lo)==items.size)=Ep):=by rw[g,i];simp
 show Ed _ _ (if (((sIx items.size 0 lo:Nat):Int)==0&&(1:Int)==1&&(sIx items.size items.size hi-sIx items.size 0 lo)==items.size)=Ep then _ else _) _ _ s;rw[Jd b];refine Ad (m:=Builtin.Tuple.tupleIsExact _)<|Ad<|Xf a.typeIs<|Bd ?_;rw[Jd<|by decide];exact Ad<|Ve<|Bd ⟨_,Z,Bd q⟩
end
end HT
namespace L2
def Zw(K:M0):V->Do Int->Do Int->Hp->VK->Prop:=λx lo hi H Q=>∃a b,x=.ref a/\SqT K H a b /\
 (HY b lo hi=b->Q (.ref a) H)/\∀p,H p=U->Q (.ref p) (gJ H p<|.tup<|HY b lo hi)
theorem IF:A_ X (Zw X.K):=by
 intro ae s σ H x v j k lo hi l Q I c d e g h;obtain⟨a,b,rfl,hx,m,q⟩:=h;by_cases z:HT.sIx b.length 0 lo=0/\HT.sIx b.length b.length hi=b.length
 .cases c;obtain⟨be,r,i,t⟩:=I.tuple hx;have hl:be.toArray.size=b.length:=by rw[S0];exact r.length.symm
  refine⟨"tuple",_,w6.lookup,i.typeIs,HT.whole_tup i d e g (by rw[hl];exact z.1) (by rw[hl];exact z.2) ⟨.ref a,H,I,Z,m ?_⟩⟩;unfold HY;rw[z.1,z.2];simp
 .exact nz ae s σ H (.ref a) v j k lo hi l Q I c d e g ⟨a,b,Z,hx,z,q⟩
theorem zx(a:List V){i j:Int}(hi:0<=i)(e:0<=j):HY a (O i) (O j)=(a.take j.toNat).drop i.toNat:=by
 unfold HY;have b:HT.sIx a.length 0 (O i)=min i.toNat a.length:=by show (if i<0 then (i+(a.length:Int)).toNat else min i.toNat a.length)=_;rw[Gd<|by omega]
 have c:HT.sIx a.length a.length (O j)=min j.toNat a.length:=by show (if j<0 then (j+(a.length:Int)).toNat else min j.toNat a.length)=_;rw[Gd<|by omega]
 rw[b,c,List.drop_take];by_cases h:i.toNat<=a.length
 .rw[E5 h];by_cases d:j.toNat<=a.length
  .rw[E5 d]
  .rw[J7<|by omega,K3 (by rw[J5];omega),K3<|by rw[J5];omega]
 .rw[K4<|by omega,K4<|by omega];simp
theorem Ax(a:List V){j:Int}(d:0<=j):HY a U (O j)=a.take j.toNat:=by
 unfold HY;have b:HT.sIx a.length a.length (O j)=min j.toNat a.length:=by show (if j<0 then (j+(a.length:Int)).toNat else min j.toNat a.length)=_;rw[Gd<|by omega]
 rw[b];show (a.drop 0).take (min j.toNat a.length-0)=_;rw[List.drop_zero,Nat.sub_zero];by_cases c:j.toNat<=a.length
 .rw[E5 c]
 .rw[J7<|by omega,K3<|by omega,K3<|by omega]
end L2
namespace L3
open L2
def oT(a b c:AD)(f:D->Int->Int->(Sl->Prop)->Prop):TD:=λρ Q=>MJ [a,b] ρ λk e=>XZ e k λl=>match l with
 |[_,.int i]=>MJ [c] e λm g=>XZ g (k.take 1++m) λq=>match q with
  |[d,.int j]=>f d i j λr=>Q r g
  |_=>Fo
 |_=>Fo
def pT(K:Fg)(r:V->Do Int->Do Int->Hp->VK->Prop)(f:D->Int->Int->(Sl->Prop)->Prop):Prop :=
 ∀(G:Gh) (F:Hp) (σ:L2.St) (H:Hp) (ρ:Ev) (x:V) (i j:Int) (d:D) (Q:VK) (c:Sl->Prop),Rel K G F σ H ρ->At K F H x d->f d i j c ->
  (∀v a b s,Sub F b->Rel K G b σ a ρ->Res K G b a σ ρ v s->c s->Q v a)->r x (O i) (O j) H Q
theorem qT{K:Fg}{r:V->Do Int->Do Int->Hp->VK->Prop}{f:D->Int->Int->(Sl->Prop)->Prop}(ok:pT K r f){σ:L2.St}{H:Hp}{Q:VK}(h:lift K (oT a b c f) σ H Q):kb r (XX K a) (ly<|XX K b) (ly<|XX K c) σ H Q:=by
 obtain⟨G,F,ρ,Qd,R,w,k⟩:=h;have e:pZ ([a,b].map (XX K)) σ H λg t=>∃x y,g=[x,y]/\∃i,y=.int i/\XX K c σ t λz B=>∃j,z=.int j/\r x (O i) (O j) B Q:=by
  refine BJ R w λg H' F' xs P S L o l=>?_;obtain⟨ds,Y,l⟩:=zK L o l;split at l
  .rename_i dx i;obtain⟨v,u,rfl,h1,h2⟩:=Y.two;cases h2.int;refine⟨_,_,Z,i,Z,?_⟩;refine vz<|BJ (as:=[c]) (Qv:=λg H4=>∃z,g=[z]/\∃j,z=.int j/\r v (O i) (O j) H4 Q) L l λg t F2 ys m M R2 o2 q=>?_;cases o with|cons p1 t1=>?_
   cases t1 with|cons p2 t2=>?_
   cases t2;obtain⟨es,hb,q⟩:=zK R2 (OpdsAt.cons (p1.mono M) o2) q;split at q
   .rename_i d j;cases hb with|cons q1 t3=>?_
    obtain⟨v3,rfl,h3⟩:=t3.one;cases h3.int;exact⟨_,Z,j,Z,ok G F2 σ t m v i j d Q _ R2 q1 q λv' B F3 s3 C R3 r3 q3=>k v' B F3 s3 m (S.trans<|M.trans C) R3 r3 q3⟩
   .exact q.elim
  .exact l.elim
 exact wD e
def rT(r:V->Do Int->Do Int->Hp->VK->Prop):R2:=λx z H Q=>∃j,z=.int j/\r x U (O j) H Q
noncomputable def lM:D->Int->Int->(Sl->Prop)->Prop
 | .tuple a,i,j,Q=>0<=i/\0<=j/\Q (.fz<|.tuple<|(a.take j.toNat).drop i.toNat)
 |_,_,_,_=>Fo
noncomputable def mM:D->D->(Sl->Prop)->Prop
 | .tuple a,.int j,Q=>0<=j/\Q (.fz<|.tuple<|a.take j.toNat)
 |_,_,_=>Fo
theorem EI{K:Fg}:pT K (Zw K) lM:=λG F σ H ρ x i j d Q C R g w k=>by
 cases d<;>first|exact w.elim|skip
 rename_i L;obtain⟨c,e,w⟩:=w;obtain⟨a,us,rfl,l,m,q⟩:=g.tuple R.sub;have b:=(q.take j.toNat).drop i.toNat;refine⟨a,us,Z,SqT.of m,λz=>?_,λp t=>?_⟩
 .rw[zx us c e]at z;refine k _ H F (.fz _) (Sub.refl _) R (Da.tup l ?_) w;rw[z]at b;exact b
 .rw[zx us c e];obtain⟨v,y,B⟩:=R.newTup t b;exact k _ _ _ (.fz _) v y B w
theorem FI{K:Fg}:JZ K (OV<|rT<|Zw K) (o2 mM):=Cw λG F σ H ρ x y d e Q L R g i w k=>by
 cases d<;>first|exact w.elim|(cases e<;>first|exact w.elim|skip)
 rename_i M j;obtain⟨c,w⟩:=w;cases i.int;obtain⟨a,us,rfl,l,m,q⟩:=g.tuple R.sub;have b:=q.take j.toNat;refine⟨j,Z,a,us,Z,SqT.of m,λz=>?_,λp t=>?_⟩
 .rw[Ax us c]at z;refine k _ H F (.fz _) (Sub.refl _) R (Da.tup l ?_) w;rw[z]at b;exact b
 .rw[Ax us c];obtain⟨v,B,C⟩:=R.newTup t b;exact k _ _ _ (.fz _) v B C w
section
variable {K:Fg}{e1 e2 e3:Ge}{a b c:AD}{p pos p2 ve re:Pos}{x:Str}
theorem bP(d:X.K=K)(e:WE X e1 (XX K a))(g:WE X e2 (XX K b))(i:WE X e3 (XX K c)):WE X (.Subscript e1 (.Slice (O e2) (O e3) U p2) pos) (lift K<|oT a b c lM):=by subst d;exact⟨gU (GY IF e.h (kW g.h)<|kW i.h) λq=>qT EI q⟩
theorem Nu(d:X.K=K)(e:WE X e1 (XX K a))(g:WE X e2 (XX K b)):WE X (.Subscript e1 (.Slice U (O e2) U p2) pos) (lift K<|CY [a,b]<|o2 mM):=by subst d;exact⟨gU (GY IF e.h AU<|kW g.h) λq=>wD (P:=λx z H=>rT (Zw X.K) x z H _)<|aV FI q⟩
end
section
variable {K:Fg}{ec:Ge}{p p1 p2 p3 p4 p5 p6 p7 p8 p9 pa pb pc pd pe pf pg ph pi' pj pk pl:Pos}{x y a b c:Str}{tc:JV}
end
noncomputable def GI:D->(Sl->Prop)->Prop
 | .int j,Q=>EO 0 j/\j.toNat<=2 ^ 24/\Q (.ow<|.list<|wZ 0 j.toNat)
 |_,_=>Fo
theorem HI{K:Fg}{Q:VK}(R:Rel K G F σ H ρ)(c:At K F H x (.int j))(w:GI (.int j) Qd)(k:∀v a b s,Sub F b->Rel K G b σ a ρ->Res K G b a σ ρ v s->Qd s->Q v a):Gw [x] H λv e=>oW [v] e Q:=by
 cases c.int;refine⟨0,j,.inr ⟨Z,Z⟩,λp g=>⟨p,0,j,Z,uZ,w.1,by have:=w.2.1;lia,λl hl=>?_⟩⟩;have i:(j-0).toNat=j.toNat:=by lia
 rw[i];have m:Rel K G F σ (gJ H p<|.rng 0 j) ρ:=R.laid g;have da:DaAll K F ((S1 j.toNat).map λ(n:Nat)=>V.int<|0+n) (wZ 0 j.toNat):=by have:=DaAll.ints (K:=K) (F:=F)<|(S1 j.toNat).map λ(n:Nat)=>(0:Int)+(n:Int);simpa [wZ,A0,Function.comp_def]using this
 obtain⟨q,t⟩:=m.newOw (o:=.lst _) (d:=.list<|wZ 0 j.toNat) hl da;exact k _ _ F _ (Sub.refl _) q t w.2.2
theorem cP{K:Fg}:JZ K (λa H Q=>Gw a H λv b=>oW [v] b Q) (o1 GI):=GD λG F σ H ρ x d Q e R c w k=>by
 cases d with
 |int j=>exact HI R c w k
 |_=>exact w.elim
section
variable {K:Fg}{e e1:Ge}{a:AD}{p p2 pos af:Pos}
theorem dP(h:PE X e (JL oW<|uG (JL Gw<|pZ<|[a].map (XX K)) dy)):PE X e (lift K<|CY [a]<|o1 GI):=gU h λq=>aV cP q
theorem sT(b:X.calm=Ep)(c:X.mg "list"=U)(d:X.mg "range"=U)(g:WA X [e1] (pZ<|[a].map (XX K)))(i:Gl X "list":=by rfl)(j:Gl X "range":=by rfl)(k:oZ e1=true:=by rfl) :
  WE X (.Call (.Name "list" p) [.Call (.Name "range" p2) [e1] [] af] [] pos) (lift K<|CY [a]<|o1 GI) :=
 ⟨dP<|uK (iU b) i c Zi (FK (uK KD j d boot_range g.h (by decide) (by decide) (YX k)<|KZ Z) FV<|YX Z) (by decide) (by decide) (YX Z)<|KZ Z⟩
end
end L3
namespace L2
open PySem.W
noncomputable abbrev qZ:=Qo×Qo
noncomputable def NK(x y:qZ):Bool:=if x.1=y.1 then HT.lexLt x.2 y.2 else HT.lexLt x.1 y.1
theorem ltB_wk:SG.Wk NK:=by
 have W:=SG.lex_wk;refine⟨λa=>?_,λa b c g d=>?_,λa b c g d=>?_⟩
 .unfold NK;rw[Jd Z];exact W.irr _
 .unfold NK at g d ⊢;by_cases i:a.1=b.1
  .rw[Jd i]at g;by_cases e:b.1=c.1
   .rw[Jd e]at d;rw[Jd<|i.trans e];exact W.tr _ _ _ g d
   .rw[Gd e]at d;rw[Gd (by rw[i];exact e),i];exact d
  .rw[Gd i]at g;by_cases e:b.1=c.1
   .rw[Gd (by rw[<-e];exact i),<-e];exact g
   .rw[Gd e]at d;have j:=W.tr _ _ _ g d;rw[Gd<|λz=>by rw[z,W.irr]at j;cases j];exact j
 .unfold NK at g d ⊢;by_cases i:a.1=b.1
  .rw[Jd i]at g;by_cases e:b.1=c.1
   .rw[Jd e]at d;rw[Jd<|i.trans e];exact W.nt _ _ _ g d
   .rw[Gd e]at d;rw[Gd (by rw[i];exact e),i];exact d
  .rw[Gd i]at g;by_cases e:b.1=c.1
   .rw[Gd (by rw[<-e];exact i),<-e];exact g
   .rw[Gd e]at d;have j:=W.nt _ _ _ g d;by_cases k:a.1=c.1
    .exfalso;rw[<-k]at d;exact i<|SG.lex_eq g d
    .rw[Gd k];exact j
theorem Ou(c:NK a b=Er)(d:NK b a=Er):a=b:=by
 unfold NK at c d;by_cases e:a.1=b.1
 .rw[Jd e]at c;rw[Jd e.symm]at d;have:=SG.lex_eq c d;cases a;cases b;cases e;cases this;rfl
 .rw[Gd e]at c;rw[Gd<|λz=>e z.symm]at d;exact absurd (SG.lex_eq c d) e
def uY(H:Hp)(c:Hd)(x:qZ):Prop:=∃a b,H c=O (.tup [.ref a,.ref b])/\H a=O (.tup<|x.1.map V.int)/\H b=O (.tup<|x.2.map V.int)
noncomputable def Pu(H:Hp):V->qZ
 | .ref c=>match H c with
  |some (.tup [x,y])=>(fD H x,fD H y)
  |_=>([],[])
 |_=>([],[])
theorem Qu{r:Qo}(h:H c=O (.tup<|r.map V.int)):fD H (.ref c)=r:=by show (match H c with|some (.tup a)=>a.map MS|_=>[])=r;rw[h];exact UY r
theorem OW(H:Hp)(c:Hd)(x:qZ)(h:uY H c x):Pu H (.ref c)=x:=by obtain⟨a,b,d,e,g⟩:=h;show (match H c with|some (.tup [x,y])=>(fD H x,fD H y)|_=>([],[]))=x;rw[d];show (fD H<|.ref a,fD H<|.ref b)=x;rw[Qu e,Qu g]
theorem UV{y:Qo}(I:Inv X ae σ H s)(G:A.units<Ze)(d:H a=O (.tup<|x.map V.int))(c:H b=O (.tup<|y.map V.int)){s':Fd}(k:∀b o,s.heap.get? b=O o->s'.heap.get? b=O o):SeqAt.EqAt A s' (.ref a) (.ref b) (decide<|x=y):=by
 by_cases e:a=b
 .subst e;rw[d]at c;injection c with c;injection c with c;rw[Au c,Pd Z];exact SeqAt.EqAt.same _
 .have g:Inv X ae σ H {s with heap:=s'.heap}:=I.kept (t':=s.toks) k;obtain⟨_,i,l,L⟩:=(show ObjOk X.prog X.w H s'.heap a (.tup<|x.map V.int) from g.hok a _ d);obtain⟨_,m,q,M⟩:=(show ObjOk X.prog X.w H s'.heap b (.tup<|y.map V.int) from g.hok b _ c);have v:=l.length;have B:=q.length;rw[l0]at v B;have h:=SeqAt.RcAt.tuples (A:=A) (s:=s') (e:=λk=>x.getD k 0==y.getD k 0) L.t M.t G λj P R=>by
   obtain⟨t1,S⟩:=jU l (k:=j) (by simpa using P);obtain⟨t2,Y⟩:=jU q (k:=j) (by simpa using R);simp only[List.getElem_toArray];rw[S,Y];exact SeqAt.EqAt.int_int _ _ _ _
  have hv:((S1<|min i.toArray.size m.toArray.size).all (λk=>x.getD k 0==y.getD k 0)&&i.toArray.size==m.toArray.size)=Es (x=y):=by
   simp only[S0,<-v,<-B];by_cases z:x=y
   .subst z;rw[Pd Z];simp
   .rw[Ee z,u6];intro c;rw[J1,Z3,beq_iff_eq]at c;refine z<|L7 c.2 λk C F=>?_;have:=c.1 k<|V4.mpr<|T5 C F;rw[beq_iff_eq,G1,G1,L0 C,L0 F]at this;exact this
  rw[<-hv];exact SeqAt.EqAt.of_refs e h
theorem gj(hu:X.A.units+2<Ze):VZ X (.builtin "sorted") (LW X.K uY Pu NK):=by
 have g:X.A.in1.in1.units<Ze:=by show X.A.units+2<Ze;exact hu
 refine rH (κ:=tuples' Er) ltB_wk OW (λ{ae s σ H} I be h2 yr s' k E' Q' e=>?_)<|λ{ae s σ H} I c d x y hx hy s' k Q' e=>?_
 .have B:∀(l:Et),(∀v∈l,∃(c:Hd) (r:qZ),v=.ref c/\uY H c r)->∃fs:Et,KatTups s'.heap l fs/\fs.length=l.length/\∀v∈fs,Looks (Md X.prog X.w) s'.heap (Km v) (.type "tuple"):=by
   intro l;induction l with
   |nil=>intro _;exact⟨[],.nil,Z,λv i=>by simp at i⟩
   |cons v l ih =>
    intro hl;obtain⟨fs,C,R,F⟩:=ih λx hx=>hl x<|q0 _ hx;obtain⟨c,r,rfl,a,b,hc,G,S⟩:=hl v G0;obtain⟨_,itc,L,ob,e1,e2,m,e3,_⟩:=(show ObjOk X.prog X.w H s.heap c (.tup [.ref a,.ref b]) from I.hok c _ hc);obtain⟨u1,u2,rfl,M,Y⟩:=zY L;cases M;obtain⟨_,itb,rb,oa,g1,g2,_⟩:=(show ObjOk X.prog X.w H s.heap a (.tup<|r.1.map V.int) from I.hok a _ G);refine⟨.ref a::fs,.cons (k _ _ e1) e2 e3 Z C,by simp[R],λv i=>?_⟩;rcases R0.mp i with rfl|i
    .have:=(show Looks (Md X.prog X.w) s'.heap (Km<|.ref a) oa.cls from (Looks.ld<|k _ _ g1).andThen .now);rw[g2]at this;exact this
    .exact F v i
  obtain⟨fs,C,R,F⟩:=B be yr;exact kat_kind (T:=.type "tuple") C (by lia) F (by decide) e
 .obtain⟨a1,b1,P,zg,yg⟩:=hx;obtain⟨a2,b2,um,gg,ng⟩:=hy;obtain⟨_,ic,L,oc,c1,c2,m1,c3,_⟩:=(show ObjOk X.prog X.w H s.heap c (.tup [.ref a1,.ref b1]) from I.hok c _ P);obtain⟨_,id',rd,od,d1,d2,m2,d3,_⟩:=(show ObjOk X.prog X.w H s.heap d (.tup [.ref a2,.ref b2]) from I.hok d _ um);obtain⟨u1,u2,rfl,M,Y⟩:=zY L;cases M;cases Y;obtain⟨w1,w2,rfl,r3,r4⟩:=zY rd;cases r3;cases r4;have I':Inv X ae σ H {s with heap:=s'.heap}:=I.kept (t':=s.toks) k;have j:∀{a b:Hd}{x y:Qo}{Q:Bool->Fd->Prop},H a=O (.tup<|x.map V.int)->H b=O (.tup<|y.map V.int)->Q (HT.lexLt x y) s'->Ed (Md X.prog X.w) X.A.in1.in1 (oneLt' Er (.ref a)<|.ref b) Q (λ_ _=>Fo) s':=λ{a b x y Q} G S hq=>by
   obtain⟨_,ia,ra,ta⟩:=(show ObjOk X.prog X.w H s'.heap a (.tup<|x.map V.int) from I'.hok a _ G);obtain⟨_,ib,rb,tb⟩:=(show ObjOk X.prog X.w H s'.heap b (.tup<|y.map V.int) from I'.hok b _ S);exact kat_one _ _<|HT.lt_tupInts ta.t tb.t (EZ ra) (EZ rb) g hq
  refine kat_lt (k _ _ c1) c3 (k _ _ d1) d3<|kat_cons ?_;refine UV I g zg gg k _ _ _ _ ?_;unfold NK at e;refine kat_go (λq=>kat_yes<|kat_cons ?_)<|λq=>kat_no ?_
  .have q:=Ld q;rw[Jd q]at e;refine UV I g yg ng k _ _ _ _ ?_;refine kat_go (λz=>kat_yes ?_)<|λz=>kat_no ?_
   .have z:=Ld z;rw[z,SG.lex_wk.irr]at e;exact e
   .exact j yg ng e
  .have q:=Ig q;rw[Gd q]at e;exact j zg gg e
end L2
namespace L3
open L2
noncomputable abbrev VX(b:qZ):D:=.tuple [.tuple<|b.1.map n0,.tuple<|b.2.map n0]
noncomputable def eP:D->(Sl->Prop)->Prop
 | .list e,Q=>∃d:List qZ,e=d.map VX/\d.length<=sizeLine/\∀c:List qZ,c.Perm d->c.Pairwise (λa b=>NK b a=Er)->Q (.ow<|.list<|c.map VX)
 |_,_=>Fo
theorem JF{K:Fg}{r:qZ}(h:Da K F v (VX r)):∃c,v=.ref c/\uY F c r:=by
 cases h with
 |tup h t =>
  cases t with
  |cons d t =>
   cases t with
   |cons e t=>cases t;obtain⟨a,rfl,g⟩:=YY d;obtain⟨b,rfl,i⟩:=YY e;exact⟨_,Z,a,b,h,g,i⟩
theorem II{K:Fg}{r:qZ}(h:uY F c r):Da K F (.ref c) (VX r):=by obtain⟨a,b,d,e,g⟩:=h;exact .tup d<|.cons (.tup e<|DaAll.ints _)<|.cons (.tup g<|DaAll.ints _) .nil
theorem Ru{K:Fg}:JZ K (LW K uY Pu NK) (o1 eP):=GD λG F σ H ρ x d Q Qd R m w k=>by
 cases d<;>first|exact w.elim|skip
 case list ds =>
  obtain⟨C,e,M,w⟩:=w;subst e;obtain⟨a,us,rfl,P,q⟩:=m.list R.sub;have hl:=q.length;rw[l0]at hl;have t:∀v∈us,∃c r,v=.ref c/\uY F c r/\r∈C:=λv j=>by obtain⟨d,hd,S⟩:=q.mem v j;obtain⟨r,Y,rfl⟩:=v0.mp hd;obtain⟨c,rfl,i⟩:=JF S;exact⟨c,r,Z,i,Y⟩
  have up:∀{c:Hd}{r:qZ},uY F c r->uY H c r:=λ{c r} ⟨a,b,m,h2,h3⟩=>⟨a,b,R.sub _ _ m,R.sub _ _ h2,R.sub _ _ h3⟩;have y:∀v∈us,Pu H v=Pu F v:=λv j=>by obtain⟨c,r,rfl,i,_⟩:=t v j;rw[OW F c r i,OW H c r<|up i]
  refine⟨a,us,Z,SqL.of P,le_of_eq_of_le hl M,λv j=>?_,λp l hp B L=>?_⟩
  .obtain⟨c,r,rfl,i,_⟩:=t v j;exact⟨c,r,Z,up i⟩
  .have em:us.map (Pu F)=C:=by
    refine DaAll.map_eq (K:=K) (F:=F) (g:=VX) (λv a h=>?_) q;obtain⟨c,rfl,i⟩:=JF h;exact OW F c a i
   have ee:l.map (Pu H)=l.map (Pu F):=A1 λv j=>y v<|B.mem_iff.mp j;rw[ee]at L;have ut:DaAll K F l ((l.map<|Pu F).map VX):=by rw[A0];refine DaAll.map_of λv j=>?_;obtain⟨c,r,rfl,i,_⟩:=t v<|B.mem_iff.mp j;show Da K F (.ref c) (VX<|Pu F<|.ref c);rw[OW F c r i];exact II i
   obtain⟨R',r'⟩:=R.newOw (o:=.lst l) (d:=.list _) hp ut;exact k _ _ F _ (Sub.refl _) R' r'<|w _ (by rw[<-em];exact B.map _) L
theorem gq{K:Fg}(h:X.K=K)(a:X.A.units+2<Ze):VZ X (.builtin "sorted") (LW K uY Pu NK):=by subst h;exact gj a
end L3
namespace L2
noncomputable def VV(e l:Nat->Bool)(b:Bool):Nat->Nat->Bool
 |_,0=>b
 |k,m+1=>if e k=Ep then VV e l b (k+1) m else l k
section
open PySem.SeqAt
open PySem.AutoSeq1 (wpAny_loadPart')
open PySem.MeetsSeq PySem.MeetsSeq2 PySem.MeetsSeq3
theorem qV(l b:Hd)(items a:Eo Cd)(n L:Nat)(M P:Do Hd)(S Y:Eo (Do Cd))(e lt:Nat->Bool):Meets (Builtin.«tuple.__lt__» ⟨[.ref l,.ref b],[]⟩) (λA R s=>s.heap.get? l=O {cls:=.type "tuple",dict:=M,data:=.seq items n,slots:=S}/\s.heap.get? b=O {cls:=.type "tuple",dict:=P,data:=.seq a L,slots:=Y} /\ (∀(k:Nat) (x y:Cd),items[k]?=O x->a[k]?=O y->SeqAt.EqAt A.in1 s x y (e k)) /\ (∀(k:Nat) (x y:Cd),items[k]?=O x->a[k]?=O y->e k=Er->∀(prog:De) (w:Be) (E:Cd->Fd->Prop) (Q:Cd->Fd->Prop),Q (.bool<|lt k) s->Ed (Md prog w) A.in1 (Ii .Lt x y) Q E s) /\ R (.ok<|.ret<|.bool<|VV e lt (decide<|items.size<a.size) 0<|min items.size a.size) s):=.of_wp λprog w A R s h=>by
 obtain⟨t,g,d,v,os⟩:=s;obtain⟨hl,hb,hE,hL,h⟩:=h;have f2:=AutoSeq1.sub_tuple_tuple
 wp_walk using Lg hl,Lg hb,Of _ (λrest b s'=>b.1=U/\s'=⟨t,g,d,v,os⟩/\∃k,rest=(items.toList.zip a.toList).drop k/\k<=min items.size a.size/\R (.ok<|.ret<|.bool<|VV e lt (decide<|items.size<a.size) k<|min items.size a.size-k) ⟨t,g,d,v,os⟩) _
 case turn =>
  rintro⟨y,x⟩ rest b s' ⟨i,rfl,k,j,hk,c⟩;have ge:k<(items.toList.zip a.toList).length:=by
   by_cases q:k<(items.toList.zip a.toList).length
   .exact q
   .rw[K4<|E1 q]at j;cases j
  rw[A5 ge]at j;injection j with hyx qh;rw[g9]at hyx;injection hyx with hy hx;rw[U1,W0,W0]at ge;have F:items[k]?=O y:=by rw[hy,<-E3];exact L0 _
  have g2:a[k]?=O x:=by rw[hx,<-E3];exact L0 _
  obtain⟨m,G⟩:∃m,min items.size a.size-k=m+1:=⟨min items.size a.size-k-1,Nat.eq_add_of_sub_eq (R8 ge) Z⟩;rw[G]at c;refine Ad<|hE k y x F g2 prog w _ _ ?_;have c:R (.ok<|.ret<|.bool<|if e k=Ep then VV e lt (decide<|items.size<a.size) (k+1) m else lt k) ⟨t,g,d,v,os⟩:=c;cases B:e k with
  |true =>
   rw[B,Jd Z]at c
   wp_walk
   exact⟨Z,Z,k+1,qh,ge,by rw[show min items.size a.size-(k+1)=m by exact o_ G];exact c⟩
  |false =>
   rw[B,Gd P1]at c;have C:=hL k y x F g2 B prog w
   wp_walk using C
   exact⟨_,Z,by simpa using c⟩
 case fin =>
  rintro⟨b1,b2⟩ s' ⟨i,rfl,k,j,hk,c⟩;simp only at i;subst i;have zh:min items.size a.size-k=0:=by have:=Ae W5 j;rw[J5,U1,W0,W0]at this;simp at this;exact this.symm
  rw[zh]at c;have c:R (.ok<|.ret<|.bool<|decide<|items.size<a.size) ⟨t,g,d,v,os⟩:=c
  wp_walk
  exact⟨_,Z,by simpa [V8]using c⟩
 case h=>exact⟨Z,Z,0,Z,v4 _,h⟩
end
section
variable {w:Be}{R:Nm->Fd->Prop}{wr:List Hd}{P:Nat->Cd->Prop}{St:Nat->Ke->Prop}{base:Ke}
end
end L2
namespace L3
open L2
end L3
namespace L2
open PySem.W
theorem fP(I:Inv X ae σ H s)(m:A.units+1<Ze)(hx:uY H c x)(hy:uY H d y):SeqAt.EqAt A s (.ref c) (.ref d) (decide<|x=y):=by
 by_cases e:c=d
 .subst e;have:=(OW H c x hx).symm.trans<|OW H c y hy;rw[Pd this];exact SeqAt.EqAt.same _
 .obtain⟨b,g,i,q,v⟩:=hx;obtain⟨l,b2,B,C,F⟩:=hy;obtain⟨_,ic,G,L⟩:=(show ObjOk X.prog X.w H s.heap c (.tup [.ref b,.ref g]) from I.hok c _ i);obtain⟨_,M,rd,P⟩:=(show ObjOk X.prog X.w H s.heap d (.tup [.ref l,.ref b2]) from I.hok d _ B);obtain⟨u1,u2,rfl,R,S⟩:=zY G;obtain⟨w1,w2,rfl,Y,r4⟩:=zY rd;cases R;cases S;cases Y;cases r4;have a:A.in1.units<Ze:=m;have h:=SeqAt.RcAt.tuples (A:=A) (s:=s) (e:=λk=>if k=0 then Es (x.1=y.1) else Es (x.2=y.2)) L.t P.t (T3 m) λj h1 h2=>by
   rcases j with _|_|j
   .exact UV I a q C λ_ _ z=>z
   .exact UV I a v F λ_ _ z=>z
   .exact absurd h1 (by simp)
  have hv:((S1<|min #[T2 b,T2 g].size #[T2 l,T2 b2].size).all (λk=>if k=0 then Es (x.1=y.1) else Es (x.2=y.2))&&#[T2 b,T2 g].size==#[T2 l,T2 b2].size)=Es (x=y):=by show ((S1 2).all (λk=>if k=0 then Es (x.1=y.1) else Es (x.2=y.2))&&Ep)=_;rw[show S1 2=[0,1] from Z,T7];cases x;cases y;simp
  rw[<-hv];exact SeqAt.EqAt.of_refs e h
noncomputable def zd(H:Hp)(x:qZ)(y:Cd):Bool:=@Es (∃c,y=.ref c/\uY H c x)<|Classical.propDecidable _
end L2
namespace L3
open L2
section
variable {K:Fg}{e1 e2:Ge}{a b:AD}{pos:Pos}
end
theorem Dx(us:List V){i:Int}(h:0<=i):HY us (O i) U=us.drop i.toNat:=by
 unfold HY;have a:HT.sIx us.length 0 (O i)=min i.toNat us.length:=by show (if i<0 then (i+(us.length:Int)).toNat else min i.toNat us.length)=_;rw[Gd<|J6 h]
 rw[a];show (us.drop<|min i.toNat us.length).take (us.length-min i.toNat us.length)=_;rw[K3<|by rw[J5];exact P0 _];by_cases z:i.toNat<=us.length
 .rw[E5 z]
 .rw[J7<|Y0<|e7 z,K4<|P0 _,K4<|Y0<|e7 z]
def tT(r:V->Do Int->Do Int->Hp->VK->Prop):R2:=λx z H Q=>∃j,z=.int j/\r x (O j) U H Q
noncomputable def nM:D->D->(Sl->Prop)->Prop
 | .tuple a,.int j,Q=>0<=j/\Q (.fz<|.tuple<|a.drop j.toNat)
 |_,_,_=>Fo
theorem JI{K:Fg}:JZ K (OV<|tT<|Zw K) (o2 nM):=Cw λG F σ H ρ x y d e Q L R g i w k=>by
 cases d<;>first|exact w.elim|(cases e<;>first|exact w.elim|skip)
 rename_i M j;obtain⟨c,w⟩:=w;cases i.int;obtain⟨a,us,rfl,l,m,q⟩:=g.tuple R.sub;have b:=q.drop j.toNat;refine⟨j,Z,a,us,Z,SqT.of m,λz=>?_,λp t=>?_⟩
 .rw[Dx us c]at z;refine k _ H F (.fz _) (Sub.refl _) R (Da.tup l ?_) w;rw[z]at b;exact b
 .rw[Dx us c];obtain⟨v,B,C⟩:=R.newTup t b;exact k _ _ _ (.fz _) v B C w
theorem Su{K:Fg}(c:X.K=K)(d:WE X e1 (XX K a))(e:WE X e2 (XX K b)):WE X (.Subscript e1 (.Slice (O e2) U U p2) pos) (lift K<|CY [a,b]<|o2 nM):=by subst c;exact⟨gU (GY IF d.h (kW e.h) AU) λq=>wD (P:=λx z H=>tT (Zw X.K) x z H _)<|aV JI q⟩
theorem DaAll.eraseIdx{K:Fg}{F:Hp}:∀{a:List V}{b:List D} (_:DaAll K F a b) (k:Nat),DaAll K F (a.eraseIdx k) (b.eraseIdx k)
 |_,_,.nil,_=>.nil
 |_,_,.cons _ t,0=>t
 |_,_,.cons h t,k+1=>.cons h<|DaAll.eraseIdx t k
noncomputable def gP:List D->List D->(D->D->Prop)->Prop
 |a,[.int i],k=>0<=i/\i<a.length/\i<2 ^ 63/\∀d,a[i.toNat]?=O d->k (.list<|a.eraseIdx i.toNat) d
 |_,_,_=>Fo
theorem Tu{K:Fg}:DC K sy gP:=by
 intro F H a c g M j Q k s e b l w q;rcases j with _|⟨d,_|⟨x,j⟩⟩<;>first|exact w.elim|(cases d<;>first|exact w.elim|skip)
 rename_i i;obtain⟨m,y,B,C⟩:=w;cases l with|cons h t=>?_
 cases t;cases h;have hi:i.toNat<g.length:=by lia
 obtain⟨v,G,L⟩:=b.get<|L0 hi;exact⟨a,c,i,i.toNat,v,Z,Z,e,by lia,B,by rw[b.length];exact Ol m y,G,q v (.lst<|c.eraseIdx i.toNat) (.list<|g.eraseIdx i.toNat) _ (b.eraseIdx _) L<|C _<|L0 hi⟩
end L3
namespace L2
section
variable {P:De}{w:Be}{κ:Type}[DecidableEq κ]{kd:KeyKind P w κ}
def BKey(kd:KeyKind P w κ)(h:Ke)(k:List κ×List κ)(a:Hd):Prop:=∃o b c n,h.get? a=O o/\o.cls=.type "tuple"/\o.data=.seq #[.ref b,.ref c] n/\Ai kd h k.1 b/\Ai kd h k.2 c
theorem BKey.ty(x:BKey kd s.heap k a):s.TypeIs (.ref a) "tuple":=by obtain⟨o,_,_,_,e,c,_⟩:=x;exact⟨o,e,c⟩
theorem NG(kk:∀b c,h.get? b=O c->h'.get? b=O c)(x:Ai kd h k a):Ai kd h' k a:=by obtain⟨o,be,n,e,r⟩:=x;exact⟨o,be,n,kk _ _ e,r⟩
theorem BKey.mono(kk:∀b d,h.get? b=O d->h'.get? b=O d)(x:BKey kd h k a):BKey kd h' k a:=by obtain⟨o,b,c,n,e,g,i,j,l⟩:=x;exact⟨o,b,c,n,kk _ _ e,g,i,NG kk j,NG kk l⟩
theorem BKey.inj(p:BKey kd h x a)(q:BKey kd h y a):x=y:=by
 obtain⟨o,b,c,n,e,_,d,g,i⟩:=p;obtain⟨j,k,l,M,m,_,t,v,B⟩:=q;have C:o=j:=O2<|e.symm.trans m;subst C;have F:=d.symm.trans t;injection F with z _;have z:=Ae HX z;have G:b=k:=by injection z with z1 _;injection z1
 have L:c=l:=by injection z with _ z2;injection z2 with z2 _;injection z2
 subst G;subst L;exact Prod.ext (g.inj v)<|i.inj B
theorem BKey.stays(x:BKey kd h k a)(g:h.get? d=O o)(hd:o.data=.dict es ep)(i:S3 d h h'):BKey kd h' k a:=by
 obtain⟨l,b,c,n,e,m,j,q,t⟩:=x;have ne:a≠d:=λz=>by subst z;have v:=O2<|e.symm.trans g;subst v;rw[hd]at j;cases j
 exact⟨l,b,c,n,(i.2 a ne).trans e,m,j,q.keeps g hd i,t.keeps g hd i⟩
noncomputable def Uu(kd:KeyKind P w κ)(k:List κ×List κ):Int:=Rm<|B6 [tupleKeyHash kd k.1,tupleKeyHash kd k.2]
theorem iP{Q:Int->Fd->Prop}(i:A.units+4<Ze)(j:BKey kd s.heap k a)(q:Q (Uu kd k) {s with toks:=s.toks+(k.1.length+1+(k.2.length+1)+1)}):Ed (Md P w) A (PySem.pyHash<|.ref a) Q E s:=by
 have g:=j.ty;obtain⟨o,b,c,n,v,_,hd,y,B⟩:=j;unfold PySem.pyHash;first|unfold pyHashByItsType|skip
 first|refine Ad (wpAny_cRoomFor_or (.inr<|L1 (W1 _ _) i) ?_)|skip
 refine Ad<|Kg g F.slot_tuple_hash.lookup ?_;show Ed _ _ (if (O (uX "tuple.__hash__")==O X4)=Ep then _ else _) Q E s;rw[Gd<|by rw[beq_builtin_none];decide];refine Ad<|Kg g F.slot_tuple_hash.lookup ?_;show Ed _ _ (callSpecialIfBoundUnlessNone? (.ref a) "__hash__" _ >>= _) Q E s;refine Ad<|wpAny_callSpecialIfBoundUnlessNone?_slot g F.slot_tuple_hash<|wpAny_call_entry F.slot_tuple_hash g F.entry_tuple_hash ?_<|F.args_tuple_hash_1 _;show Ed _ _ (i8 (.ref a) >>= _) _ _ s;refine Ad<|Ei v hd ?_;refine Ad ?_;rw[<-O9];have l:A.in1.units<Ze:=by show A.units+1<Ze;exact L1 (U0 (X2 _ _) _) i
 refine Of _
  (λrest (r:Eo Int) s'=>(rest=[.ref b,.ref c]/\r.toList=[]/\s'=s)\/(rest=[.ref c]/\r.toList=[tupleKeyHash kd k.1]/\s'={s with toks:=s.toks+(k.1.length+1)}) \/
    (rest=[]/\r.toList=[tupleKeyHash kd k.1,tupleKeyHash kd k.2]/\s'={s with toks:=s.toks+(k.1.length+1)+(k.2.length+1)}))
  _ ?_ ?_ _ _ (.inl ⟨Z,Z,Z⟩)
 .rintro x rest r s' (⟨e,d,rfl⟩|⟨e,d,rfl⟩|⟨e,_⟩)
  .cases e;refine Ad<|wpAny_pyHash_tuple l y ?_;exact Bd<|.inr<|.inl ⟨Z,by simp[d],Z⟩
  .cases e;refine Ad<|wpAny_pyHash_tuple l B ?_;exact Bd<|.inr<|.inr ⟨Z,by simp[d],Z⟩
  .cases e
 .rintro r s' (⟨e,_⟩|⟨e,_⟩|⟨_,d,rfl⟩)
  .cases e
  .cases e
  show Ed _ _ (retInt<|B6 r.toList) _ _ _;rw[d];refine wpAny_ret_mkInt ?_;unfold Uu Rm at q;generalize B6 [tupleKeyHash kd k.1,tupleKeyHash kd k.2]=m at q;show Ed _ _ (if (Es (-(2:Int) ^ 63<=m)&&Es (m<2 ^ 63))=Ep then _ else _) Q E _;have C:s.toks+(k.1.length+1+(k.2.length+1)+1)=s.toks+(k.1.length+1)+(k.2.length+1)+1:=by lia
  rw[C]at q;by_cases t:(Es (-(2:Int) ^ 63<=m)&&Es (m<2 ^ 63))=Ep
  .rw[Jd t]at q ⊢;exact Bd q
  .rw[Gd t]at q ⊢;exact Ad<|Ve<|Bd q
theorem uT(i:A.units<Ze)(hx:BKey kd s.heap x a)(hy:BKey kd s.heap y b)(h:R (.done<|.ret<|.bool<|decide<|x=y) s):Ed (Md P w) A (Builtin.«tuple.__eq__» ⟨[.ref a,.ref b],[]⟩) R E s:=by
 have k:=hy.ty;obtain⟨M,l,j,S,m,_,da,q,t⟩:=hx;obtain⟨Y,B,b2,nb,C,_,F,G,L⟩:=hy;show Ed _ _ (isInstance (.ref b) (.type "tuple") >>= _) _ _ s;refine Ad<|Ye k Oh ?_;simp only[W7,J3,if_false];refine Ad<|Ei m da ?_;refine Ad<|Ei C F ?_;refine Ad ?_;refine Of _
  (λrest r s'=>r.1=U/\s'=s/\(rest=[(.ref l,.ref B),(.ref j,.ref b2)]\/(rest=[(.ref j,.ref b2)]/\x.1=y.1)\/(rest=[]/\x=y))) _ ?_ ?_ _ _ ⟨Z,Z,.inl Z⟩
 .rintro⟨u,v⟩ rest r s' ⟨d,rfl,e|⟨e,g⟩|⟨e,_⟩⟩
  .cases e;refine Ad<|wpAny_eqBool_tuple i q G ?_;by_cases c:x.1=y.1
   .rw[Pd c];exact Bd ⟨Z,Z,.inr<|.inl ⟨Z,c⟩⟩
   .rw[Ee c];rw[Ee<|show ¬x=y from λz=>c<|by rw[z]]at h;exact Ad<|Bd<|Bd<|Bd h
  .cases e;refine Ad<|wpAny_eqBool_tuple i t L ?_;by_cases c:x.2=y.2
   .rw[Pd c];exact Bd ⟨Z,Z,.inr<|.inr ⟨Z,Prod.ext g c⟩⟩
   .rw[Ee c];rw[Ee<|show ¬x=y from λz=>c<|by rw[z]]at h;exact Ad<|Bd<|Bd<|Bd h
  .cases e
 .rintro⟨r1,r2⟩ s' ⟨d,rfl,e|⟨e,_⟩|⟨_,g⟩⟩
  .cases e
  .cases e
  simp only at d;subst d;rw[Pd g]at h;exact Bd h
theorem va{Q:Bool->Fd->Prop}(g:A.units+4<Ze)(hx:BKey kd s.heap x a)(hy:BKey kd s.heap y b)(h:Q (decide<|x=y) s):Ed (Md P w) A (PySem.eqBool (.ref a)<|.ref b) Q E s:=by
 unfold PySem.eqBool;try with_reducible refine Ce ?_
 show Ed _ _ (if (T2 a==T2 b)=Ep then _ else _) Q E s;by_cases c:(T2 a==T2 b)=Ep
 .rw[Jd c];have e:a=b:=by have:=eq_of_beq c;injection this
  subst e;have e:=hx.inj hy;subst e;rw[Pd Z]at h;exact Ad<|Ve<|Bd h
 .rw[Gd c];have d:A.in1.units<Ze:=by show A.units+1<Ze;lia
  exact Ad<|wpAny_richCompare_same_room (op:=.Eq) hx.ty hy.ty F.slot_tuple_eq
    (wpAny_call_entry F.slot_tuple_eq hx.ty F.entry_tuple_eq (uT d hx hy ⟨_,Z,(λe=>nomatch e),Lf h⟩)<|F.args_tuple_eq_2 _ _) (R7 d)
theorem Ex{Q:Bool->Fd->Prop}(c:Ai kd s.heap k a)(h:Q Ep s):Ed (Md P w) A (Gn (n+1)<|.ref a) Q E s:=by
 have d:=c.typeIs;obtain⟨o,be,m,e,_,hd,hi⟩:=c;unfold Gn;refine Ad<|Kg d F.slot_tuple_eq.lookup ?_;show Ed _ _ (isInstance (.ref a) (.type "tuple") >>= _) _ _ s;refine Ad<|Ye d Oh ?_;simp only[W7,J3,if_false];refine Ad<|Pe e hd ?_;refine Ad ?_;show Ed _ _ (forIn be _ _) _ _ s;rw[<-O9];refine Of _ (λrest r s'=>r.1=U/\s'=s/\∀v∈rest,carriedByValue v=Ep) _ ?_ ?_ _ _ ⟨Z,Z,hi.byValue⟩
 .rintro v rest r s' ⟨b,rfl,ci⟩;rw[eqIsQuiet_byValue _<|ci v G0];exact Ad<|Bd<|Bd ⟨Z,Z,λu g=>ci u<|q0 _ g⟩
 .rintro⟨i,j⟩ s' ⟨b,rfl,_⟩;simp only at b;subst b;exact Bd h
theorem KI{Q:Bool->Fd->Prop}(e:BKey kd s.heap k a)(h:Q Ep s):Ed (Md P w) A (Gn 8<|.ref a) Q E s:=by
 have g:=e.ty;obtain⟨o,b,c,n,j,_,hd,l,m⟩:=e;unfold Gn;refine Ad<|Kg g F.slot_tuple_eq.lookup ?_;show Ed _ _ (isInstance (.ref a) (.type "tuple") >>= _) _ _ s;refine Ad<|Ye g Oh ?_;simp only[W7,J3,if_false];refine Ad<|Pe j hd ?_;refine Ad ?_;show Ed _ _ (forIn #[T2 b,T2 c] _ _) _ _ s;rw[<-O9];refine Of _ (λrest r s'=>r.1=U/\s'=s/\∀v∈rest,v=.ref b\/v=.ref c) _ ?_ ?_ _ _ ⟨Z,Z,λv q=>by simpa using q⟩
 .rintro v rest r s' ⟨d,rfl,ci⟩;have i:∀v∈rest,v=.ref b\/v=.ref c:=λu t=>ci u<|q0 _ t;rcases ci v G0 with rfl|rfl
  .exact Ad (Ex l<|Bd ⟨Z,Z,i⟩)
  .exact Ad (Ex m<|Bd ⟨Z,Z,i⟩)
 .rintro⟨x,y⟩ s' ⟨d,rfl,_⟩;simp only at d;subst d;exact Bd h
noncomputable def ij(kd:KeyKind P w κ):HeapKind P w (List κ×List κ) where
 is:=BKey kd
 hash:=Uu kd
 draws:=λk=>k.1.length+1+(k.2.length+1)+1
 room:=λA=>A.units+4<Ze
 inj:=λp q=>p.inj q
 keeps:=λx c hd d=>x.stays c hd d
 pyHash:=λa b h=>iP a b h
 eqBool:=λa hx hy h=>va a hx hy h
 quiet:=λb h=>KI b h
end
end L2
namespace L3
open L2
section
variable {K:Fg}{e e1:Ge}{a:AD}{p pos p2:Pos}
theorem vY(b:Room k A):A.units+6<Ze:=L1 (U0 (by decide:6<=64) _) b.units
end
end L3
namespace L2
section
variable {w:Be}
theorem WV:Builtin.Dict_items.ownsTuple "dict_itemiterator"=true:=by decide
theorem Fx(d:Hd):¬((T2 d==X4)=Ep):=P1
theorem LI{Q:Do Cd->Fd->Prop}(x:Bh s.heap it d i es.size ep ok ov)(y:s.heap.get? d=O od)(yd:od.data=.dict es ep)(hi:i<es.size)(q:∀h',IsItemIterOut h' it d (i+1) es.size ep es[i].key es[i].val s.heap.objs.size->h'.get? s.heap.objs.size=O {cls:=.type "tuple",data:=.seq #[es[i].key,es[i].val]}->h'.objs.size=s.heap.objs.size+1 ->(∀b o,b≠it->s.heap.get? b=O o->h'.get? b=O o)->Q (O<|.ref s.heap.objs.size) {s with heap:=h'}):Ed (Md prog w) A (Bf<|.ref it) Q E s:=by
 obtain⟨a,g,l,m,os⟩:=s;have ty:Shared.TypeIs ⟨a,g,l,m,os⟩ (.ref it) "dict_itemiterator":=⟨_,x,Z⟩;have Y:it<a.objs.size:=Q0 x;have ne0:a.objs.size≠it:=G4 Y;unfold Bf;refine Ad<|Gf<|Yd (name:=Str.ofString "__next__") ty F.slot_dict_itemiterator_next<|wpAny_call_entry F.slot_dict_itemiterator_next ty F.entry_dict_itemiterator_next ?_<|F.args_dict_itemiterator_next_1 _;refine Ad<|Bd<|Ad<|Ad ?_;first|refine Ad (Ff ty<|Bd ?_)|refine Ad<|Sf ty<|Bd ?_
 refine Ad<|Vg x Z ?_;simp only[WV,if_true];show Ed _ _ (if (T2 d==X4)=Ep then _ else _) _ _ _;rw[Gd<|Fx d];refine Ad<|Bd<|Ad<|Kh y yd ?_;rw[Gd<|by simp];refine Ad<|Bd<|Ad<|Il y yd ?_;rw[Gd<|by simp];refine Bd ?_;simp only[show ¬((i:Int)<0) from J6<|G3 _,if_false,A7,T4 hi];refine Ad ?_;first|refine Ad (Ff ty<|Bd ?_)|refine Ad<|Sf ty<|Bd ?_
 refine Ad<|Lh ty ?_;show Ed _ _ (setField (.ref it) 3 (He<|(i:Int)+1) >>= _) _ _ ⟨a,g,l,m,os⟩;refine Ad<|Oe x (by simp) λk B C=>?_;have C:S3 it a k:=C;have B:Bh k it d (i+1) es.size ep ok ov:=by unfold Bh;rw[show ((i+1:Nat):Int)=(i:Int)+1 by rfl];simpa [He]using B
 have t:Shared.TypeIs ⟨k,g,l,m,os⟩ (.ref it) "dict_itemiterator":=⟨_,B,Z⟩;refine Ad<|Ce<|Ad<|Lh t<|Ad<|Lh t ?_;show Ed _ _ (U8 (.ref it) 6 es[i].key es[i].val) _ _ ⟨k,g,l,m,os⟩;unfold U8;refine Ad<|Bi ?_;have z1:k.objs.size=a.objs.size:=C.1;obtain⟨c,v⟩:∃c,c=k.push {cls:=.type "tuple",data:=.seq #[es[i].key,es[i].val]}:=⟨_,Z⟩;have G:Bh c it d (i+1) es.size ep ok ov:=by rw[v];exact j0 _ B
 have t2:c.get? a.objs.size=O {cls:=.type "tuple",data:=.seq #[es[i].key,es[i].val]}:=by rw[v,<-z1];exact O0 _ Z
 have z2:c.objs.size=a.objs.size+1:=by rw[v,Z1,z1]
 have k2:∀b o,b≠it->a.get? b=O o->c.get? b=O o:=λb o j e=>by rw[v];exact j0 _<|C.extBut b o j e
 rw[<-v];show Ed _ _ (t8 (.ref it) >>= _) _ _ ⟨c,g,l,m,os⟩;rw[z1];refine Ad ?_;unfold t8;refine Ad<|Ie G Z (x:=.none) rfl<|Bd ?_;simp only[if_true];refine Ad<|Ie G Z (x:=ok) rfl<|Ad<|Ie G Z (x:=ov) Z ?_;refine Ad<|Oe G (by simp) λh3 x3 L=>?_;have L:S3 it c h3:=L;have x3:Bh h3 it d (i+1) es.size ep es[i].key ov:=x3;refine Ad<|Oe x3 (by simp) λh4 x4 M=>?_;have M:S3 it h3 h4:=M;have x4:Bh h4 it d (i+1) es.size ep es[i].key es[i].val:=x4;refine Ad<|Oe x4 (by simp) λh5 x5 P=>?_;have P:S3 it h4 h5:=P;have x5:IsItemIterOut h5 it d (i+1) es.size ep es[i].key es[i].val a.objs.size:=x5;refine Ad<|Oe x5 (by simp) λR x6 S=>?_;have S:S3 it h5 R:=S;have go:∀b o,b≠it->c.get? b=O o->R.get? b=O o:=λb o j e=>S.extBut b o j<|P.extBut b o j<|M.extBut b o j<|L.extBut b o j e;refine Ad<|Ln<|Bd<|Bd ⟨_,Z,Bd<|q R x6 (go _ _ ne0 t2) ?_ λb o j e=>go b o j<|k2 b o j e⟩;show R.objs.size=a.objs.size+1;rw[S.1,P.1,M.1,L.1,z2]
theorem jP{Q:Do Cd->Fd->Prop}(e:A.handled=U)(x:Bh s.heap it d i es.size ep ok ov)(y:s.heap.get? d=O od)(c:od.data=.dict es ep)(hi:es.size<=i)(q:∀h',MX it s.heap h'->Q U {s with heap:=h'}):Ed (Md prog w) A (Bf<|.ref it) Q E s:=by
 have ty:s.TypeIs (.ref it) "dict_itemiterator":=⟨_,x,Z⟩;unfold Bf;refine Ad<|Gf<|Yd (name:=Str.ofString "__next__") ty F.slot_dict_itemiterator_next<|wpAny_call_entry F.slot_dict_itemiterator_next ty F.entry_dict_itemiterator_next ?_<|F.args_dict_itemiterator_next_1 _;refine Ad<|Bd<|Ad<|Ad ?_;first|refine Ad (Ff ty<|Bd ?_)|refine Ad<|Sf ty<|Bd ?_
 refine Ad<|Vg x Z ?_;simp only[WV,if_true];show Ed _ _ (if (T2 d==X4)=Ep then _ else _) _ _ s;rw[Gd<|Fx d];refine Ad<|Bd<|Ad<|Kh y c ?_;rw[Gd<|by simp];refine Ad<|Bd<|Ad<|Il y c ?_;rw[Gd<|by simp];refine Bd ?_;simp only[show ¬((i:Int)<0) from J6<|G3 _,if_false,A7,T8 hi];refine Ad ?_;first|refine Ad (Ff ty<|Bd ?_)|refine Ad<|Sf ty<|Bd ?_
 show Ed _ _ (setField (.ref it) 2 .none >>= _) _ _ s;refine Ad<|Kf x Z (by simp) ?_;show Ed _ _ (Tn (.type "StopIteration") [] >>= _) _ _ _;refine Ad ?_;simp only[Tn,Yn];refine Ad (Fe ?_<|by size_fits);refine Ad (m:=Wg _ _)<|Ml (a:=X4) (by first|rfl|(simp only[Wg];rfl)) ?_;refine Fe ?_ (by size_fits);simp only[Wn];refine Ad<|Em ?_;rw[show A.in1.handled=U from e];refine Ad<|Bd<|Kn ?_;refine Ad<|Ye (b:=Ep) (T:="StopIteration") ⟨_,O0 _ Z,Z⟩ Ih ?_;exact Bd<|q _<|((K5 ..).extBut.push _).push _
theorem MI(a:s.heap.IsItemsView v d)(y:s.heap.get? d=O od)(b:od.data=.dict es ep)(q:Q (.ref s.heap.objs.size) {s with heap:=s.heap.push {cls:=.type "dict_itemiterator",data:=.fields #[.none,.bool Er,.ref d,.int 0 0,.int es.size 0,.int ep 0,.none,.none]}}):Ed (Md prog w) A (Lm<|.ref v) Q E s:=by
 obtain⟨g,c,i,e⟩:=id a;refine Jh a.typeIs F.slot_dict_items_iter<|wpAny_call_entry F.slot_dict_items_iter a.typeIs F.entry_dict_items_iter ?_<|F.args_dict_items_iter_1 _;unfold Builtin.«dict_items.__iter__»;refine Ad<|Bd<|Ad ?_;unfold Builtin.Dict_items.dictOf;refine Ad<|Ie c e (x:=.ref d) rfl<|Bd<|Ad ?_;unfold Builtin.Dict_items.newIterator;refine Ad<|Kh y b<|Ad<|Il y b ?_;simp only[WV,if_true];refine Fe (Bd ⟨_,Z,"dict_itemiterator",_,⟨_,O0 _ Z,Z⟩,F.slot_dict_itemiterator_next.lookup,?_⟩)
  (by simp only[sizeOk,u8,S0,T0,J2,W6,Mn];exact X2 _ _);simpa [He,u8]using q
end
theorem XV:Ll table "dict_itemiterator.__iter__"=O Builtin.«dict_keyiterator.__iter__»:=Di (id':="dict_keyiterator.__iter__") (by kernel_rfl) (by decide +kernel) (by decide +kernel) (by kernel_rfl)
noncomputable def k_{c:Type}(e:c->Int)(d g:Hd)(j:Nat)(a:List (c×Hd×V)):It :=
 ⟨λi H=>H d=O (qK e g j a)/\i<a.length,
  λi H x l=>∃T k b v,H T=U/\x=.ref T/\l=gJ H T (.tup [.ref b,v])/\a[i]?=O (k,b,v),
  λi H=>H d=O (qK e g j a)/\a.length<=i⟩
theorem Gx{R:α->β->Prop}{m:List β}(p:Paired R l m):∀{i:Nat}{x:α},l[i]?=O x->∃y,m[i]?=O y/\R x y:=by
 induction p with
 |nil=>intro i x h;cases h
 |cons r t a =>
  intro i x h;cases i with
  |zero=>cases h;exact⟨_,Z,r⟩
  |succ i=>exact a h
section
variable {κ:Type}{hs:κ->Int}
theorem Vu(e:ObjOk P w H h d (qK hs d' ep xs)):d'=d:=by
 obtain⟨f,⟨o,k⟩,st⟩:=e;by_cases z:d'=d
 .exact z
 exfalso;obtain⟨⟨l,m,t,v,b,x,y,B⟩,_⟩:=id f;obtain⟨⟨c,_,o2,g,a,g2,_⟩,_⟩:=st h (h.update d' λ_=>{cls:=.type "tuple",data:=.seq #[]}) f λq i=>by rw[A9 _ d d' _<|L5 z];exact i
 have j:(h.update d' λ_=>{cls:=.type "tuple",data:=.seq #[]}).get? d'=O {cls:=.type "tuple",data:=.seq #[]}:=O4 _ b Z;rw[j]at a;injection a with a;rw[<-a]at g2;exact absurd g2.1 (by decide)
theorem ext_at(I:Inv X ae σ H s)(e:H d=O (qK hs d' ep xs)):∃(b:List (κ×Hd×Cd)) (o:Obj) (a:Eo Jn),Paired (λx v=>x.1=v.1/\x.2.1=v.2.1/\RelV x.2.2 v.2.2) xs b/\s.heap.get? d=O o/\o.ExactDict/\o.data=.dict a ep/\(a.toList=b.map λx=>⟨hs x.1,.ref x.2.1,x.2.2⟩)/\a.size=xs.length/\(xs.map (·.1)).Nodup/\xs.length<=sizeLine/\(d==Nf)=false:=by
 have i:=Vu<|show ObjOk X.prog X.w H s.heap d (qK hs d' ep xs) from I.hok d _ e;subst i;obtain⟨⟨⟨b,c,o,a,j,k,l,g⟩,m,hl,q⟩,_⟩:=(show ObjOk X.prog X.w H s.heap d' (qK hs d' ep xs) from I.hok d' _ e);refine⟨b,o,a,c,j,k,l,g,?_,m,hl,q⟩;have:=Ae W5 g;rw[l0,<-c.length]at this;simpa using this
theorem kj{K:M0}(it d d':Hd)(ep:Nat)(xs:List (κ×Hd×V))(ne:d≠it):Turn P w K (.Tuple ts kk pos) (k_ hs d d' ep xs) [it] it (λi h=>∃ok B,Bh h it d i xs.length ep ok B) where
 mem:=by simp
 obj:=λi h st b l=>by
  obtain⟨ok,B,t⟩:=st;have l:b=it:=by simpa using l
  subst l;exact⟨_,t,λv e=>by cases e⟩
 keep:=λi h h' st kp=>by obtain⟨ok,B,t⟩:=st;exact⟨ok,B,kp _ (by simp) _ t⟩
 item:=by
  intro X hP hw hK hc i ae s σ H E I hf st hg;subst hP hw hK;obtain⟨ok,B,t⟩:=st;obtain⟨hd,hi⟩:=hg;obtain⟨vs,o,C,pr,e1,e2,e3,e4,G,_⟩:=ext_at I hd;obtain⟨⟨k,b,v⟩,hx⟩:∃x,xs[i]?=O x:=⟨_,L0 hi⟩;obtain⟨⟨k',b',u⟩,hv,r1,r2,r3⟩:=Gx pr hx;have r2:b=b':=r2;subst r2;have r3:RelV v u:=r3;have ze:i<C.size:=by rw[G];exact hi
  have R:C[i]=⟨hs k',.ref b,u⟩:=by
   have q:C.toList[i]?=O (⟨hs k',.ref b,u⟩:Jn):=by rw[e4,Z0,hv];rfl
   have q2:C.toList[i]?=O C[i]:=by simp[ze]
   rw[q2]at q;exact O2 q
  rw[<-G]at t;refine LI t e1 e3 ze λh' b1 b3 b4 b5=>?_;rw[R]at b1 b3;have S:s.heap.objs.size≠it:=G4<|Q0 t;refine⟨_,Z,wpAny_letOwnedTupleGo_items (s:={s with heap:=h'}) b1 λh2 he2 ui=>?_⟩;have kp:∀c g,c∉[it]->s.heap.get? c=O g->h2.get? c=O g:=λc g j a=>by
   have j:c≠it:=by simpa using j
   exact ui.extBut _ _ j<|b5 c g j a
  have uo:h2.get? s.heap.objs.size=O {cls:=.type "tuple",data:=.seq #[.ref b,u]}:=ui.extBut _ _ S b3;have L:H s.heap.objs.size=none:=I.hok.fresh<|P0 _;have I2:Inv X ae σ (gJ H s.heap.objs.size<|.tup [.ref b,v]) {s with heap:=h2}:=by
   have Y:∀c y,H c=O y->c∉[it]:=λc y a l=>by have:=(hf c l).1;rw[a]at this;cases this
   refine I.step (g':=s.gens) (d':=s.drawn) (ch:=[it]) (λc l=>?_) (λc g _ _ j a _=>kp c g j a) (λc g _ _ j a _=>⟨g.slots,kp c g j a⟩) (λc g _ a n=>?_)
    (λc g j a=>⟨g,kp c g j a⟩) (λc M a=>?_) (λc g M a=>?_) (λc M a=>⟨#[],?_⟩) (λm hm=>?_) (λc g a=>?_) I.bare
   .obtain⟨f0,f1,f2,f3,f4,f5⟩:=hf c l;exact⟨f3,f1,f4,f5⟩
   .rw[bZ<|X0<|Q0 a];exact n
   .rw[bZ<|eZ a L];exact a
   .rw[bZ<|eZ a L];exact a
   .rw[bZ<|eZ a L,a];simp
   .obtain⟨om,mn,qt,ho,r⟩:=hm;exact⟨om,mn,qt,kp _ om (λl=>(hf _ l).2.1 Z) ho,r⟩
   .by_cases l:c=s.heap.objs.size
    .subst l;rw[uZ]at a;cases a;exact⟨by show 2<=sizeLine;decide,[.ref b,u],.cons rfl<|.cons r3 .nil,_,uo,Z,_,Z,Z⟩
    .rw[bZ l]at a;refine(I.hok c g a).stay (λe y j q=>kp e y ?_ q) (λe q=>by rw[bZ<|eZ q L];exact q) λe M q=>by rw[bZ<|eZ q L];exact q
     rcases j with rfl|j
     .exact Y _ _ a
     .exact Y _ _ j
  refine⟨.ref s.heap.objs.size,_,I2,Z,⟨_,k,b,v,L,Z,Z,hx⟩,⟨_,_,by rw[<-G];exact he2⟩,λc l=>?_⟩;have l:c=it:=by simpa using l
  subst l;rw[bZ<|L5 S];exact(hf c<|by simp).1
 done:=by
  intro X hP hw hK hc i ae s σ H E I hf st hg;subst hP hw hK;obtain⟨ok,B,t⟩:=st;obtain⟨hd,hi⟩:=hg;obtain⟨vs,o,C,pr,e1,e2,e3,e4,G,_⟩:=ext_at I hd;rw[<-G]at t;refine jP (I.ok.hd hc) t e1 e3 (le_of_eq_of_le G hi) λh' hx=>⟨Z,?_⟩;have Y:∀c y,H c=O y->c∉[it]:=λc y a l=>by have:=(hf c l).1;rw[a]at this;cases this
  have kp:∀c g,c∉[it]->s.heap.get? c=O g->h'.get? c=O g:=λc g j a=>hx c g (by simpa using j) a;refine I.step (g':=s.gens) (d':=s.drawn) (ch:=[it]) (λc l=>?_) (λc g _ _ j a _=>kp c g j a) (λc g _ _ j a _=>⟨g.slots,kp c g j a⟩) (λc g _ a n=>n)
   (λc g j a=>⟨g,kp c g j a⟩) (λc M a=>a) (λc g M a=>a) (λc M a=>⟨#[],by rw[a];simp⟩) (λm hm=>?_) (λc g a=>?_) I.bare
  .obtain⟨f0,f1,f2,f3,f4,f5⟩:=hf c l;exact⟨f3,f1,f4,f5⟩
  .obtain⟨om,mn,qt,ho,r⟩:=hm;exact⟨om,mn,qt,kp _ om (λl=>(hf _ l).2.1 Z) ho,r⟩
  .refine(I.hok c g a).stay (λe y j q=>kp e y ?_ q) (λ_ q=>q) λ_ _ q=>q;rcases j with rfl|j
   .exact Y _ _ a
   .exact Y _ _ j
 self:=λ_ _ s _ _ st h=>by obtain⟨ok,B,t⟩:=st;have ty:s.TypeIs (.ref it) "dict_itemiterator":=⟨_,t,Z⟩;refine Jh ty PySem.F.slot_dict_itemiterator_iter<|wpAny_call_entry PySem.F.slot_dict_itemiterator_iter ty XV ?_<|PySem.F.args_dict_itemiterator_iter_1 _;show Ed _ _ (ret<|.ref it) _ _ s;exact Bd ⟨_,Z,"dict_itemiterator",_,ty,PySem.F.slot_dict_itemiterator_next.lookup,h⟩
def Wu(hs:κ->Int)(to:TE):TI:=λσ H R=>to σ H λx a=>∃(d b:Hd) (c:Nat) (e:List (κ×Hd×V)),x=.ref d/\a d=O (qK hs b c e)/\R (k_ hs d b c e) a
theorem lj(a:(d==Nf)=Er)(e:s.heap.get? d=O o)(hx:o.ExactDict)(q:Q (.ref s.heap.objs.size) {s with heap:=s.heap.push {cls:=.type "dict_items",data:=.fields #[.ref d]}}):Ed (Md prog w) A (call (.builtin "dict.items") [.ref d]) Q E s:=by
 have ty:s.TypeIs (.ref d) "dict":=⟨o,e,hx.1⟩;refine wpAny_call_entry PySem.F.slot_dict_items ty PySem.F.entry_dict_items ?_<|PySem.F.args_dict_items_1 _;unfold Builtin.«dict.items»;refine Ad ?_;unfold Builtin.Dict.noArgs;refine Ad<|Nh ty ?_;show Ed _ _ (pure d) _ _ s;refine Bd ?_;show Ed _ _ (aX d >>= _) _ _ s;unfold aX;rw[Gd<|by rw[a];decide];exact Ad<|Bd<|Ad<|Fe<|Bd ⟨_,Z,q⟩
theorem Xu{G:Pos}{o:Ge}{to:TE}{t w:Pos}(L:PE X o to)
  (M:Hf o "items" X.env (Cf o X.env)=Cf o X.env:=by rfl) (P:(t.endLine==w.line)=true:=by rfl):PI X (.Tuple ts kk G) (.Call (.Attribute o "items" t) [] [] w) (Wu hs to):=by
 intro ae s σ H R I h;refine Hh M P<|uJ (L ae s σ H _ I h) λv c ⟨x,S,i,Y,d,d',j,k,ex,hd,q1⟩=>?_;subst ex;cases Y;obtain⟨vs,y,es,pr,g,l,e3,e4,hz,_,_,hm⟩:=ext_at i hd;refine⟨"dict","dict.items",PySem.F.plainAttrs_dict,PySem.F.slot_dict_items,PySem.F.type_dict_items,⟨y,g,l.1⟩,λa z=>?_,Calls.callWith_builtin rfl<|PySem.evalArgs_none<|lj hm g l ?_⟩
 .cases z;exact⟨y,g,l.2.1⟩
 have lt:d<c.heap.objs.size:=Q0 g;have g1:(c.heap.push {cls:=.type "dict_items",data:=.fields #[.ref d]}).get? c.heap.objs.size=O {cls:=.type "dict_items",data:=.fields #[.ref d]}:=O0 _ Z;have B:(c.heap.push {cls:=.type "dict_items",data:=.fields #[.ref d]}).objs.size=c.heap.objs.size+1:=by simp[Z1]
 refine MI (s:={c with heap:=c.heap.push {cls:=.type "dict_items",data:=.fields #[.ref d]}}) ⟨_,g1,Z,Z⟩ (j0 _ g) e3 ?_;show v_ _ _ _ _ _ (.ref (c.heap.push {cls:=.type "dict_items",data:=.fields #[.ref d]}).objs.size) _;rw[B,hz];have C:((c.heap.push {cls:=.type "dict_items",data:=.fields #[.ref d]}).push {cls:=.type "dict_itemiterator",data:=.fields #[.none,.bool Er,.ref d,.int 0 0,.int k.length 0,.int j 0,.none,.none]}).get? (c.heap.push {cls:=.type "dict_items",data:=.fields #[.ref d]}).objs.size=O {cls:=.type "dict_itemiterator",data:=.fields #[.none,.bool Er,.ref d,.int 0 0,.int k.length 0,.int j 0,.none,.none]}:=O0 _ Z;rw[B]at C;have kp:∀b m,c.heap.get? b=O m->((c.heap.push {cls:=.type "dict_items",data:=.fields #[.ref d]}).push {cls:=.type "dict_itemiterator",data:=.fields #[.none,.bool Er,.ref d,.int 0 0,.int k.length 0,.int j 0,.none,.none]}).get? b=O m:=λb m e=>j0 _<|j0 _ e;refine⟨_,[c.heap.objs.size+1],_,_,S,Z,i.kept (t':=c.toks) kp,kj (hs:=hs) (c.heap.objs.size+1) d d' j k<|X0<|M5 lt,⟨.none,.none,C⟩,λb q=>?_,q1⟩;have q:b=c.heap.objs.size+1:=by simpa using q
 subst q;exact i.fpOk (k6 _)<|i.hok.fresh<|k6 _
end
def Db(K:M0):List V->Hp->VK->Prop:=λc a Q=>∃(d:Kd) (l1:Hd) (e:Kd) (l2:Hd) (b:List (Qo×Hd×V)),c=[.ref l1,.ref l2]/\Sq d K a l1 (b.map λx=>V.ref x.2.1)/\Sq e K a l2 (b.map λx=>x.2.2) /\
 (∀x∈b,a x.2.1=O (.tup<|x.1.map V.int))/\(b.map (·.1)).Nodup/\∀l g,a l=U->Q (.ref l) (gJ a l<|qK hL l g b)
def Wc(K:M0)(a:TA):TE:=λσ H Q=>a σ H λb c=>Db K b c Q
theorem CH{P:De}{w:Be}:∀{ks:Qo}{us:Et},Vals (ks.map V.int) us->ItemsAre (intKind P w) ks us
 |[],_,r=>by cases r;exact .nil
 |k::ks,_,r=>by
  cases r with
  |cons h t=>obtain⟨a,rfl⟩:=h;exact .cons (by show cX k (.int k a)=Ep;simp[cX])<|CH t
theorem iq{R:α->β->Prop}{x:α}{y:β}{l:List α}{m:List β}(p:Paired R l m)(r:R x y):Paired R (l++[x]) (m++[y]):=by
 induction p with
 |nil=>exact .cons r .nil
 |cons a t b=>exact .cons a b
theorem ZY{a:List (κ×Hd×V)}{b:List (κ×Hd×Cd)}(p:Paired (λx v=>x.1=v.1/\x.2.1=v.2.1/\RelV x.2.2 v.2.2) a b):b.map (·.1)=a.map (·.1):=by
 induction p with
 |nil=>rfl
 |cons r t c=>simp only[G2,c,r.1]
theorem Hx{R:α->β->Prop}{l:List α}{m:List β}(p:Paired R l m):l.length=m.length:=by
 induction p with
 |nil=>rfl
 |cons _ t a=>rw[J2,J2,a]
theorem KF{R:α->β->Prop}{l:List α}{m:List β}(p:Paired R l m):∀y∈m,∃x∈l,R x y:=by
 induction p with
 |nil=>intro y h;cases h
 |cons r t a =>
  intro y h;rcases R0.mp h with z|z
  .subst z;exact⟨_,G0,r⟩
  .obtain⟨x,hx,b⟩:=a y z;exact⟨x,q0 _ hx,b⟩
theorem Yu[DecidableEq κ]{a:List (κ×Hd×Cd)}{k:κ}(h:k∉a.map (·.1)):atKey a k=none:=atKey_none_of_get λj p e=>h<|v0.mpr ⟨_,A3 e,Z⟩
theorem jq{l:List α}{x:α}(h:l[i]?=O x):l.take (i+1)=l.take i++[x]:=by have hi:=(O1.mp h).1;have e:=(O1.mp h).2;rw[List.take_add_one,h];rfl
theorem OG{c:Type}{a:List (c×Hd×V)}{x:c×Hd×V}(g:(a.map (·.1)).Nodup)(h:a[i]?=O x):x.1∉(a.take i).map (·.1):=λz=>by
 obtain⟨y,hy,e⟩:=v0.mp z;obtain⟨j,b⟩:=X8.mp hy;rw[List.getElem?_take]at b;split at b
 .rename_i ge;have d:(a.map (·.1))[j]?=O x.1:=by rw[Z0,b,X6,e]
  have k:(a.map (·.1))[i]?=O x.1:=by rw[Z0,h];rfl
  have:=(List.getElem?_inj (O1.mp d).1 g).mp<|d.trans k.symm;exact P4 _<|u0 ge<|V0 this.symm
 .cases b
theorem vT{p:Pos}(hcm:X.calm=Ep)(hu:X.A.units+2<Ze)(hg0:Gl X "dict")(hm0:X.mg "dict"=U)(hv0:Se "dict"=O (.type "dict"))(hg:Gl X "zip")(hm:X.mg "zip"=U)(ha:PA X [a,b] ta)(hs:Xd [a,b] X.env=(Er,Cf a X.env)::Xd [b] X.env) (ye:(Rf pos<|Xd [b] X.env).any (·.1)=Er)(S:Xd [.Call (.Name "zip" p) [a,b] [] pos] X.env=(Er,Cf (.Call (.Name "zip" p) [a,b] [] pos) X.env)::Xd [] X.env) (Y:(Rf pos0<|Xd [] X.env).any (·.1)=Er):PE X (.Call (.Name "dict" p0) [.Call (.Name "zip" p) [a,b] [] pos] [] pos0) (Wc X.K ta):=by
 intro ae s σ H Q I h;refine Eh (EY I hg0 hm0 hv0 ?_ (by decide)<|by decide);refine O5 ?_ S Y;rw[S];show Ed _ _ (spliced ((Er,Cf (.Call (.Name "zip" p) [a,b] [] pos) X.env)::Rf pos0 (Xd [] X.env))) _ _ s;refine Calls.spliced_cons ?_;refine Call_<|EY I hg hm boot_zip<|O5 (uJ (ha pos ae s σ H _ I h) λus d ⟨B,H1,M,r1,q1⟩=>?_) hs ye;obtain⟨g,l1,m,l2,C,e,q1,q2,hky,gp,q⟩:=q1;subst e;obtain rfl:us=[.ref l1,.ref l2]:=by cases r1 with|cons r rr=>cases r;cases rr with|cons r rr=>cases r;cases rr;rfl
 obtain⟨il,rv1,p1,z1⟩:=M.sq q1;obtain⟨gf,rv2,p2,z2⟩:=M.sq q2;have lt:∀{k:Kd}{l:Hd}{C:Eo Cd},SqAt k d.heap l C->l<d.heap.objs.size:=λ{k l C} p=>by
  cases k with
  |l=>obtain⟨o,e,_⟩:=p;exact Q0 e
  |t=>obtain⟨o,e,_⟩:=p;exact Q0 e
 refine Dn F.called_zip (by decide) (F.typeCall_zip_2 _ _) (F.newCall_zip_2 _ _) (λobj=>F.args_object_init_3 obj _ _) F.entry_zip_new (qD g m l1 l2 il.toArray gf.toArray) ⟨p1,p2,?_⟩;have zI:(cw d.heap g m l1 l2).objs.size=d.heap.objs.size+2:=by simp[Z1]
 have zT:(fw d.heap g m l1 l2).objs.size=d.heap.objs.size+3:=by simp[Z1]
 have zO:(gw d.heap g m l1 l2).objs.size=d.heap.objs.size+4:=by simp[Z1]
 have zZ:(AY d.heap g m l1 l2).objs.size=d.heap.objs.size+5:=by simp[Z1]
 have gZ:(AY d.heap g m l1 l2).get? (gw d.heap g m l1 l2).objs.size=O _:=O0 _ Z;have gO:(AY d.heap g m l1 l2).get? (fw d.heap g m l1 l2).objs.size=O _:=j0 _<|O0 _ Z;have gT:(AY d.heap g m l1 l2).get? (cw d.heap g m l1 l2).objs.size=O _:=j0 _<|j0 _<|O0 _ Z;have g1:(AY d.heap g m l1 l2).get? d.heap.objs.size=O (QZ g l1):=j0 _ (j0 _<|j0 _<|j0 _<|O0 _<|by cases g<;>rfl);have g2:(AY d.heap g m l1 l2).get? (d.heap.push<|QZ g l1).objs.size=O (QZ m l2):=j0 _ (j0 _<|j0 _<|O0 _<|by cases m<;>rfl);have yp:(d.heap.push<|QZ g l1).objs.size=d.heap.objs.size+1:=by simp[Z1]
 rw[zO,zT,zI]at gZ;rw[zI,yp]at gT;rw[zT]at gO;rw[yp]at g2;show _/\_;rw[zO];have kp:∀b o,d.heap.get? b=O o->(AY d.heap g m l1 l2).get? b=O o:=λb o e=>j0 _<|j0 _<|j0 _<|j0 _<|j0 _<|e;refine⟨⟨_,gZ,Z⟩,Calls.spliced_nil ?_⟩;have len1:=rv1.length;have len2:=rv2.length;have DD:=LR d.heap.objs.size l1 l2 (lt p1)<|lt p2;have hxl:il.length=C.length:=by rw[<-len1,l0]
 have hxl2:gf.length=C.length:=by rw[<-len2,l0]
 have key:∀{x:Qo×Hd×V}{h':Ke},x∈C->(∀b ob,d.heap.get? b=O ob->h'.get? b=O ob)->(Vi<|intKind X.prog X.w).is h' x.1 x.2.1:=λ{x h'} hx kk=>by obtain⟨_,be,r,o,h1,h2,n,h3,_⟩:=(show ObjOk X.prog X.w H1 d.heap x.2.1 (.tup<|x.1.map V.int) from M.hok _ _<|hky x hx);exact⟨o,be.toArray,n,kk _ _ h1,h2,h3,by simpa using CH r⟩
 have hb:(d.heap.objs.size+5==Nf)=false:=beq_eq_false_iff_ne.mpr<|L5<|X0<|u0 M.big<|W1 _ _;have hz5:C.length<=sizeLine:=by lia
 refine jG (s:={d with heap:=AY d.heap g m l1 l2}) (xs1:=il.toArray) (xs2:=gf.toArray) (n:=C.length) (λi h=>(∀b ob,d.heap.get? b=O ob->h.get? b=O ob)/\∃B:List (Qo×Hd×Cd),Paired (λx v=>x.1=v.1/\x.2.1=v.2.1/\RelV x.2.2 v.2.2) (C.take i) B/\∃o G L,h.get? (d.heap.objs.size+5)=O o/\o.ExactDict/\o.data=.dict G L/\G.toList=B.map λx=>⟨hL x.1,.ref x.2.1,x.2.2⟩)
  (M.ok.hd hcm) DD (by simp only[S0];exact V0 hxl.symm) (by simp only[S0];exact V0 hxl2.symm) (.inl<|by simp;exact V0 hxl) gZ gT gO (ItAt.new g g1) (ItAt.new m g2)
  (p1.at λo e=>kp _ _ e) (p2.at λo e=>kp _ _ e) (by show l1<(AY d.heap g m l1 l2).objs.size;rw[zZ];exact u0 (lt p1)<|W1 _ _) (by show l2<(AY d.heap g m l1 l2).objs.size;rw[zZ];exact u0 (lt p2)<|W1 _ _) ?_ ?_ ?_ ?_
 .intro h' kk e;dsimp only at e;rw[zZ]at e;exact⟨λb o x=>kk b o<|kp b o x,[],.nil,_,#[],0,e,⟨Z,Z,Z⟩,Z,Z⟩
 .rintro i h1 h2 ⟨kk,B,j,R,G,L,ho,rest⟩ k3;have far:∀{b:Hd},b<d.heap.objs.size->b≠d.heap.objs.size+4/\b≠d.heap.objs.size+3/\b≠d.heap.objs.size/\b≠d.heap.objs.size+1:=λ{b} z=>⟨sH 4 z,sH 3 z,sH 0 z,sH 1 z⟩;refine⟨λb o x=>?_,B,j,R,G,L,?_,rest⟩
  .obtain⟨f1,f2,f3,f4⟩:=far<|Q0 x;exact k3 b o f1 f2 f3 f4<|kk b o x
  .refine k3 _ _ ?_ ?_ ?_ ?_ ho<;>(show ¬(@Eq Nat _ _))<;>lia
 .rintro i x y s' Q' E' hi hx hy ⟨kk,B,j,R,G,L,ho,a1,a2,a3⟩ P;dsimp only at P ⊢;rw[zZ]at P ⊢;obtain⟨y1,ey1,ry1⟩:=rv1.getV (by simpa using hx);obtain⟨y2,ey2,ry2⟩:=rv2.getV (by simpa using hy);obtain⟨⟨k,b,v⟩,xp⟩:∃x,C[i]?=O x:=⟨_,L0 hi⟩;rw[Z0,xp]at ey1 ey2;cases ey1;cases ey2;cases ry1;have hxm:(k,b,v)∈C:=A3 xp;have hvl:=Hx j;rw[G5]at hvl;have hz2:B.length<=sizeLine:=by lia
  have ag:=OG gp xp;rw[<-ZY j]at ag;have hvn:(B.map (·.1)).Nodup:=by rw[ZY j,bQ];exact gp.sublist<|N8 _ _
  refine wpAny_dictSet_heap (hsz:=hz2) (knd:=Vi<|intKind X.prog X.w) hu (key hxm kk) ⟨R,G,L,ho,a1,a2,a3,λu vt=>?_,hvn⟩ λh' dd' sb=>P h' _ ⟨λc o e=>?_,B++[(k,b,y)],?_,?_⟩ sb
  .obtain⟨x',ll,r1,r2,_⟩:=KF j u vt;have:=key (o9 ll) kk;rw[r1,r2]at this;exact this
  .have hc:c<d.heap.objs.size:=Q0 e;exact(sb.2 c<|sH 5 hc).trans<|kk c o e
  .rw[jq xp];exact iq j ⟨Z,Z,ry2⟩
  .obtain⟨q,G,L,hq,h2,h3,h4,_,h5⟩:=dd';rw[storedH_new<|Yu ag]at h4;exact⟨q,G,L,hq,h2,h3,h4⟩
 .rintro h' tk ⟨kk,B,j,R,G,L,f1,f2,f3,f4⟩;rw[K3<|P0 _]at j;have ag:H1 (d.heap.objs.size+5)=none:=M.hok.fresh<|W1 _ _;dsimp only;rw[zZ];refine⟨.ref<|d.heap.objs.size+5,_,M.laid (t':=tk) kk (W1 _ _)<|show ObjOk X.prog X.w _ h' _ (qK hL (d.heap.objs.size+5) L C) from ⟨⟨⟨B,j,R,G,f1,f2,f3,f4⟩,gp,hz5,hb⟩,⟨R,f1⟩,λh1 h2 z k=>?_⟩,Z,q _ L ag⟩;obtain⟨⟨B,r,o,G,g1,g2⟩,g3⟩:=z;exact⟨⟨B,r,o,G,k _ g1,g2⟩,g3⟩
def BK(H:Hp)(y:V)(k:Qo×Qo):Prop:=∃b c e:Hd,y=.ref b/\H b=O (.tup [.ref c,.ref e])/\H c=O (.tup<|k.1.map V.int)/\H e=O (.tup<|k.2.map V.int)
theorem mj(I:Inv X ae σ H s){b:Hd}{a:List V}(e:H b=O (.tup a)):∃be,Vals a be/\∃o,s.heap.get? b=O o/\o.cls=.type "tuple"/\∃n,o.data=.seq be.toArray n:=by obtain⟨_,be,r,o,c,d,n,g,_⟩:=(show ObjOk X.prog X.w H s.heap b (.tup a) from I.hok b _ e);exact⟨be,r,o,c,d,n,g⟩
theorem Ix(I:Inv X ae σ H s){ks:Qo}{b:Hd}(e:H b=O (.tup<|ks.map V.int)):Ai (intKind X.prog X.w) s.heap ks b:=by obtain⟨be,r,o,a,c,n,d⟩:=mj I e;exact⟨o,be.toArray,n,a,c,d,by simpa using CH r⟩
theorem LF(I:Inv X ae σ H s){k:Qo×Qo}{b c e:Hd}(a:H b=O (.tup [.ref c,.ref e]))(d:H c=O (.tup<|k.1.map V.int))(g:H e=O (.tup<|k.2.map V.int)):BKey (intKind X.prog X.w) s.heap k b:=by obtain⟨be,r,o,i,j,n,l⟩:=mj I a;obtain⟨t,v,rfl,m,q⟩:=zY r;cases m;cases q;exact⟨o,c,e,n,i,j,l,Ix I d,Ix I g⟩
def Jx(K:M0):List V->Hp->VK->Prop:=λb H Q=>∃(p:Hd) (ys:List V) (a:List ((Qo×Qo)×Hd×V)),b=[.ref p]/\SqL K H p ys/\ys.length=a.length /\
 (∀(i:Nat) x,a[i]?=O x->∃q,ys[i]?=O (.ref q)/\H q=O (.tup [.ref x.2.1,x.2.2]))/\(∀x∈a,∃c e,H x.2.1=O (.tup [.ref c,.ref e])/\H c=O (.tup<|x.1.1.map V.int)/\H e=O (.tup<|x.1.2.map V.int)) /\
 (a.map (·.1)).Nodup/\∀l d,H l=U->Q (.ref l) (gJ H l<|qK hB l d a)
theorem lq(hc:X.calm=Ep)(hu:X.A.units+6<Ze):VZ X (.type "dict") (Jx X.K):=by
 intro ae s σ H d us Q I r h;obtain⟨p,ys,l,rfl,P,hyl,hp,hk,R,q⟩:=h;obtain⟨u,rfl,rx⟩:=yK r;cases rx;obtain⟨be,r',⟨o,n,e1,e2,e3,e4⟩,hz⟩:=I.list P;have je:=r'.length;have B:∀{x:(Qo×Qo)×Hd×V}{h':Ke},x∈l->(∀b G,s.heap.get? b=O G->h'.get? b=O G)->BKey (intKind X.prog X.w) h' x.1 x.2.1:=λ{x h'} hx kk=>by obtain⟨c,e,S,g2,Y⟩:=hk x hx;exact(LF I S g2 Y).mono kk
 have hb:(s.heap.objs.size==Nf)=false:=beq_eq_false_iff_ne.mpr<|L5<|X0 I.big;have hz5:l.length<=sizeLine:=by lia
 refine wU (λi h=>∃d:List ((Qo×Qo)×Hd×Cd),Paired (λx v=>x.1=v.1/\x.2.1=v.2.1/\RelV x.2.2 v.2.2) (l.take i) d/\∃o g j,h.get? s.heap.objs.size=O o/\o.ExactDict/\o.data=.dict g j/\g.toList=d.map λx=>⟨hB x.1,.ref x.2.1,x.2.2⟩) (I.ok.hd hc) e1 e2 e4 e3 ?_ ?_ ?_ ?_
 .intro h' _ e;exact⟨[],.nil,_,#[],0,e,⟨Z,Z,Z⟩,Z,Z⟩
 .rintro i h1 C ⟨d,a,t,g,j,ho,rest⟩ kp;exact⟨d,a,t,g,j,kp _ _ (S2 _) ho,rest⟩
 .rintro i v s' Q' E' hv ⟨d,a,t,g,j,ho,a1,a2,a3⟩ kk hq';have hi:i<be.length:=(O1.mp<|by simpa using hv).1;obtain⟨⟨k,b,w'⟩,L⟩:∃x,l[i]?=O x:=⟨_,L0<|by lia⟩;obtain⟨qq,ey,eq⟩:=hp i _ L;obtain⟨y,F,ry⟩:=r'.getV (by simpa using hv);rw[ey]at F;cases F;cases ry;have hxm:(k,b,w')∈l:=A3 L;obtain⟨gf,r2,G,h1,C,m,h3⟩:=mj I eq;obtain⟨u1,u2,rfl,ru1,ru2⟩:=zY r2;cases ru1;have hvl:=Hx a;rw[G5]at hvl;have hz2:d.length<=sizeLine:=by lia
  have M:=OG R L;rw[<-ZY a]at M;have hvn:(d.map (·.1)).Nodup:=by rw[ZY a,bQ];exact R.sublist<|N8 _ _
  refine⟨qq,.ref b,u2,Z,⟨G,kk _ _ h1,C,m,h3⟩,wpAny_dictSet_heap (hsz:=hz2) (knd:=ij<|intKind X.prog X.w) (show X.A.units+1+1+4<Ze by omega) (B hxm kk) ⟨t,g,j,ho,a1,a2,a3,λu vt=>?_,hvn⟩ λh' dd' sb=>hq' h' _ ⟨d++[(k,b,u2)],?_,?_⟩ sb⟩
  .obtain⟨x',ll,r1,r2,_⟩:=KF a u vt;have:=B (o9 ll) kk;rw[r1,r2]at this;exact this
  .rw[jq L];exact iq a ⟨Z,Z,ru2⟩
  .obtain⟨q,g,j,P,C,h3,h4,_,h5⟩:=dd';rw[storedH_new<|Yu M]at h4;exact⟨q,g,j,P,C,h3,h4⟩
 .rintro h' tk ⟨d,a,t,g,j,f1,f2,f3,f4⟩ kp;have et:l.take be.toArray.size=l:=by rw[K3];simp only[S0];lia
  rw[et]at a;have M:H s.heap.objs.size=none:=I.hok.fresh<|P0 _;refine⟨.ref s.heap.objs.size,_,I.laid (t':=tk) kp (P0 _)<|show ObjOk X.prog X.w _ h' _ (qK hB s.heap.objs.size j l) from ⟨⟨⟨d,a,t,g,f1,f2,f3,f4⟩,R,hz5,hb⟩,⟨t,f1⟩,λh1 C z k=>?_⟩,Z,q _ j M⟩;obtain⟨⟨d,r,o,g,S,g2⟩,Y⟩:=z;exact⟨⟨d,r,o,g,k _ S,g2⟩,Y⟩
def oM:R2:=λx y H Q=>∃(d:Hd) (g:Nat) (a:List ((Qo×Qo)×Hd×V)) (k:Qo×Qo) (b:Hd) (v:V),x=.ref d/\H d=O (qK hB d g a)/\(∀x∈a,∃c e,H x.2.1=O (.tup [.ref c,.ref e])/\H c=O (.tup<|x.1.1.map V.int)/\H e=O (.tup<|x.1.2.map V.int))/\BK H y k/\(k,b,v)∈a/\Q v H
def wT(a ty:TE):TE:=λσ H Q=>a σ H λx b=>ty σ b λy c=>oM x y c Q
theorem NI{o:Ge}(M:X.A.units+6<Ze)(P:PE X o td)(hi:PE X i ty)(R:zN i):PE X (.Subscript o i pos) (wT td ty):=by
 intro ae s σ H Q I h;refine aE PySem.F.slot_dict_getitem.lookup R<|uJ (P ae s σ H _ I h) λu S ⟨x,Y,I1,rx,q1⟩=>uJ (hi ae S σ Y _ I1 q1) λiv s2 ⟨y,H2,l,ry,q2⟩=>?_;obtain⟨d,ep,xs,k,b,v,ex,hd,hk,⟨bb,c,e,ey,g1,g2,g3⟩,hm,q⟩:=q2;subst ex;subst ey;obtain rfl:u=T2 d:=rx;obtain rfl:iv=T2 bb:=ry;obtain⟨t,B,es,m,C,G,e3,e4,hz,gp,_,_⟩:=ext_at l hd;refine⟨⟨B,C,G.1⟩,?_⟩;obtain⟨j,hj⟩:=X8.mp hm;obtain⟨⟨k',b',w'⟩,hv,a,L,r3⟩:=Gx m hj;have a:k=k':=a;subst a;have g:(t.map (·.1)).Nodup:=by rw[ZY m];exact gp
 have ci:∀x∈t,(ij<|intKind X.prog X.w).is s2.heap x.1 x.2.1:=λx hx=>by obtain⟨x',ll,a,L,_⟩:=KF m x hx;obtain⟨c,e,f1,f2,f3⟩:=hk x' ll;have:=LF l f1 f2 f3;rw[a,L]at this;exact this
 refine wpAny_getItem_heap (knd:=ij<|intKind X.prog X.w) (show X.A.units+1+4<Ze by exact T3 M) (LF l g1 g2 g3) ⟨B,es,ep,C,G,e3,e4,ci,g⟩ (atKey_of_get g hv) ?_;exact⟨v,H2,l.tok _,r3,q⟩
end L2
namespace L3
open L2
noncomputable abbrev tI(k:Qo):D:=.tuple<|k.map n0
noncomputable abbrev b2(k:Qo×Qo):D:=.tuple [tI k.1,tI k.2]
section
variable {K:Fg}{F:Hp}
theorem Kx:∀{ks:Qo}{a:List V},DaAll K F a (ks.map n0)->a=ks.map V.int
 |[],_,h=>by cases h;rfl
 |k::ks,_,h=>by
  cases h with
  |cons h t=>rw[Kx t];cases h;rfl
theorem Zu(h:Da K F v (tI k)):∃b,v=.ref b/\F b=O (.tup<|k.map V.int):=by
 cases h with
 |tup e t=>have:=Kx t;subst this;exact⟨_,Z,e⟩
theorem pM(h:Da K F v (b2 k)):∃b c e,v=.ref b/\F b=O (.tup [.ref c,.ref e])/\F c=O (.tup<|k.1.map V.int)/\F e=O (.tup<|k.2.map V.int):=by
 cases h with
 |tup e t =>
  cases t with
  |cons a t =>
   cases t with
   |cons d t=>cases t;obtain⟨c,rfl,i⟩:=Zu a;obtain⟨g,rfl,j⟩:=Zu d;exact⟨_,c,g,Z,e,i,j⟩
theorem aB(h:tI a=tI b):a=b:=by injection h with h;exact(BX<|λx y z=>by injection z).mp h
theorem kP(h:b2 a=b2 b):a=b:=by injection h with h;injection h with h1 h2;injection h2 with h2 _;exact Prod.ext (aB h1)<|aB h2
theorem At.mark{b:D}(h:At K F H v (.dict [(.bool Er,b)]))(hd:∀L,b≠.list L):Da K F v (.dict [(.bool Er,b)]):=by
 rcases h with h|⟨a,o,rfl,_,e,h⟩
 .exact h
 .cases o<;>first|exact h.elim|(obtain⟨g,i,j,l,z,c,t⟩:=h.ext;injection c with c;injection c with c _;injection c with _ c;exact absurd c<|hd _)|skip
  .have h:DaKV K F _ [(L4 Er,b)]:=h;generalize d:([(L4 Er,b)]:List (D×D))=es at h;cases h with
   |nil=>cases d
   |@cons k _ _ _ _ _ _=>cases k<;>cases d
  .have h:DaKT K F _ [(L4 Er,b)]:=h;generalize d:([(L4 Er,b)]:List (D×D))=es at h;cases h with
   |nil=>cases d
   |cons _ _=>cases d
theorem MF{c:D}(h:Da K F v (.dict [(.bool Er,c)])):(∃a,v=.ref a/\c=.none/\F a=O (QR a))\/(∃a l j e g,v=.ref a/\F a=O (qK hL l j e)/\DaPd K F e g/\c=.list (g.map λp=>.tuple [tI p.1,p.2])) \/ ∃a j e g,v=.ref a/\F a=O (qK hB a j e)/\DaBd K F e g/\c=.tuple (g.map λp=>.tuple [b2 p.1,p.2]):=by
 generalize b:(PyData.dict [(.bool Er,c)])=d at h;cases h with
 |opq q=>cases b;exact .inl ⟨_,Z,Z,q⟩
 |pd q t=>injection b with b;injection b with b _;injection b with _ b;exact .inr<|.inl ⟨_,_,_,_,_,Z,q,t,b⟩
 |bd q t=>injection b with b;injection b with b _;injection b with _ b;exact .inr<|.inr ⟨_,_,_,_,Z,q,t,b⟩
 |dk q t =>
  injection b with b;subst b;generalize i:([(L4 Er,c)]:List (D×D))=es at t;cases t with
  |nil=>cases i
  |@cons k _ _ _ _ _ _=>cases k<;>cases i
 |dt q t =>
  injection b with b;subst b;generalize i:([(L4 Er,c)]:List (D×D))=es at t;cases t with
  |nil=>cases i
  |cons _ _=>cases i
 |_=>cases b
theorem DaPd.get:∀{a:List (Qo×Hd×V)}{b:List (Qo×D)},DaPd K F a b->∀{i:Nat}{x:Qo×Hd×V},a[i]?=O x->∃d,b[i]?=O (x.1,d)/\F x.2.1=O (.tup<|x.1.map V.int)/\Da K F x.2.2 d
 |_,_,.nil,i,x,h=>by simp at h
 |_,_,.cons e h t,0,x,z=>by simp only[P5,Option.some.injEq]at z;subst z;exact⟨_,Z,e,h⟩
 |_,_,.cons e h t,i+1,x,z=>by simp only[B3]at z;exact DaPd.get t z
theorem DaPd.length:∀{a:List (Qo×Hd×V)}{b:List (Qo×D)},DaPd K F a b->a.length=b.length
 |_,_,.nil=>rfl
 |_,_,.cons _ _ t=>by simp[DaPd.length t]
theorem DaBd.find:∀{a:List ((Qo×Qo)×Hd×V)}{c:List ((Qo×Qo)×D)},DaBd K F a c->∀{k:Qo×Qo}{d:D},(k,d)∈c->∃b v,(k,b,v)∈a/\Da K F v d
 |_,_,.nil,k,d,h=>by cases h
 |_,_,.cons e i j h t,k,d,z=>by
  rcases R0.mp z with z|z
  .cases z;exact⟨_,_,G0,h⟩
  .obtain⟨b,v,m,g⟩:=DaBd.find t z;exact⟨b,v,q0 _ m,g⟩
theorem DaBd.keys:∀{a:List ((Qo×Qo)×Hd×V)}{b:List ((Qo×Qo)×D)},DaBd K F a b->∀x∈a,∃c e,F x.2.1=O (.tup [.ref c,.ref e])/\F c=O (.tup<|x.1.1.map V.int)/\F e=O (.tup<|x.1.2.map V.int)
 |_,_,.nil,x,h=>by cases h
 |_,_,.cons d g i h t,x,z=>by
  rcases R0.mp z with z|z
  .subst z;exact⟨_,_,d,g,i⟩
  .exact DaBd.keys t x z
theorem Rel.newE{o:HO}(R:Rel K G F σ H ρ)(h:H a=U):Sub F (gJ F a o)/\Rel K G (gJ F a o) σ (gJ H a o) ρ:=by have d:Rel K G F σ (gJ H a o) ρ:=R.laid h;refine d.grow (a:=a) (o:=o) (R.h0 h) uZ λi s e w z=>?_;obtain⟨g,j,b,k,c,l⟩:=R.ow i s e w;rw[z]at b;cases b;rw[h]at c;cases c
end
def Eb:D->D->(Sl->Prop)->Prop:=λd e Q=>∃a:List (Qo×D),ba d=O (a.map λp=>tI p.1)/\ba e=O (a.map (·.2))/\(a.map (·.1)).Nodup/\Q (.fz<|uU a)
theorem bB{K:Fg}{F:Hp}:∀{c:List (Qo×D)}{g i:List V},DaAll K F g (c.map λp=>tI p.1)->DaAll K F i (c.map (·.2)) -> ∃a:List (Qo×Hd×V),a.map (·.1)=c.map (·.1)/\g=a.map (λx=>V.ref x.2.1)/\i=a.map (λx=>x.2.2)/\(∀x∈a,F x.2.1=O (.tup<|x.1.map V.int))/\DaPd K F a c
 |[],_,_,d,e=>by cases d;cases e;exact⟨[],Z,Z,Z,λx hx=>(by cases hx),.nil⟩
 |p::c,_,_,d,e=>by
  cases d with
  |@cons v _ _ _ d k =>
   cases e with
   |@cons u _ _ _ e l =>
    obtain⟨a,m,q,t,w,y⟩:=bB k l;obtain⟨b,rfl,j⟩:=Zu d;refine⟨(p.1,b,u)::a,by simp[m],by simp[q],by simp[t],λx hx=>?_,.cons j e y⟩;rcases R0.mp hx with z|z
    .subst z;exact j
    .exact w x z
theorem xT{K:Fg}:JZ K (Db K) (o2 Eb):=by
 intro G F σ H ρ vs a Q Qd R j w k;rcases a with _|⟨d,_|⟨e,_|⟨e3,a⟩⟩⟩<;>first|exact w.elim|skip
 .obtain⟨v1,v2,rfl,m,q⟩:=j.two;obtain⟨t,v,y,B,w⟩:=w;obtain⟨C,l1,qg,rfl,b,L⟩:=m.seq R.sub v;obtain⟨M,l2,kg,rfl,c,P⟩:=q.seq R.sub y;obtain⟨g,S,g2,Y,g4,g5⟩:=bB L P;rw[g2]at b;rw[Y]at c;refine⟨C,l1,M,l2,g,Z,b,c,λx hx=>R.sub _ _<|g4 x hx,by rw[S];exact B,λl ep hl=>?_⟩;obtain⟨i,R'⟩:=R.newE (o:=qK hL l ep g) hl;exact k _ _ _ (.fz<|uU t) i R' (Da.pd uZ<|g5.mono i) w
noncomputable def Lx:D->(Sl->Prop)->Prop
 | .list b,Q=>∃a:List ((Qo×Qo)×D),(b=a.map λp=>.tuple [b2 p.1,p.2])/\(a.map (·.1)).Nodup/\Q (.fz<|uF a)
 |_,_=>Fo
theorem cB{K:Fg}{F:Hp}:∀{d:List ((Qo×Qo)×D)}{ys:List V},DaAll K F ys (d.map λp=>.tuple [b2 p.1,p.2]) -> ∃a:List ((Qo×Qo)×Hd×V),a.map (·.1)=d.map (·.1)/\ys.length=a.length/\(∀(i:Nat) x,a[i]?=O x->∃q,ys[i]?=O (.ref q)/\F q=O (.tup [.ref x.2.1,x.2.2]))/\DaBd K F a d
 |[],_,h=>by cases h;exact⟨[],Z,Z,λi x e=>by simp at e,.nil⟩
 |p::d,_,h=>by
  cases h with
  |@cons v _ _ _ h t =>
   obtain⟨a,g,j,k,l⟩:=cB t;cases h with
   |@tup q us _ eq tt =>
    cases tt with
    |@cons y _ _ _ hy tt =>
     cases tt with
     |@cons u _ _ _ m tt =>
      cases tt;obtain⟨b,c,e,rfl,w,B,C⟩:=pM hy;refine⟨(p.1,b,u)::a,by simp[g],by simp[j],λi x ex=>?_,.cons w B C m l⟩;cases i with
      |zero=>cases ex;exact⟨q,Z,eq⟩
      |succ i=>exact k i x ex
theorem av{K:Fg}:JZ K (Jx K) (o1 Lx):=GD λG F σ H ρ x d Q Qd R v w k=>by
 cases d<;>first|exact w.elim|skip
 rename_i ds;obtain⟨y,e,B,w⟩:=w;subst e;obtain⟨a,us,rfl,C,L⟩:=v.list R.sub;obtain⟨j,M,g2,P,m⟩:=cB L;refine⟨a,us,j,Z,SqL.of C,g2,λi x ex=>?_,λx hx=>?_,by rw[M];exact B,λl S hl=>?_⟩
 .obtain⟨q,b,g⟩:=P i x ex;exact⟨q,b,R.sub _ _ g⟩
 .obtain⟨c,e,b,g,Y⟩:=m.keys x hx;exact⟨c,e,R.sub _ _ b,R.sub _ _ g,R.sub _ _ Y⟩
 .obtain⟨t,R'⟩:=R.newE (o:=qK hB l S j) hl;exact k _ _ _ (.fz<|uF y) t R' (Da.bd uZ<|m.mono t) w
def qM:D->D->(Sl->Prop)->Prop:=λd e Q=>∃(a:List ((Qo×Qo)×D)) (k:Qo×Qo) (r:D),d=uF a/\e=b2 k/\(k,r)∈a/\Q (.fz r)
theorem Mx:∀{b c:List ((Qo×Qo)×D)},(b.map λp=>K1 [b2 p.1,p.2])=(c.map λp=>K1 [b2 p.1,p.2])->b=c
 |[],[],_=>rfl
 |[],_::_,h=>by cases h
 |_::_,[],h=>by cases h
 |p::b,q::c,h=>by simp only[G2,List.cons.injEq]at h;obtain⟨a,d⟩:=h;injection a with a;injection a with a h3;injection h3 with h3 _;rw[Prod.ext (kP a) h3,Mx d]
theorem At.b2{K:Fg}{F:Hp}{v:V}{k:Qo×Qo}(s:Sub F H)(h:At K F H v (b2 k)):BK H v k:=by obtain⟨a,us,rfl,d,l,g⟩:=h.tuple s;obtain⟨b,c,e,z,i,g2,j⟩:=pM<|Da.tup d g;cases z;exact⟨_,c,e,Z,s _ _ i,s _ _ g2,s _ _ j⟩
theorem OI{K:Fg}:JZ K (OV oM) (o2 qM):=Cw λG F σ H ρ x y d e Q C R g i w k=>by
 obtain⟨M,kk,r,rfl,rfl,j,w⟩:=w;rcases MF (g.mark λL z=>by cases z) with⟨a,_,z,_⟩|⟨a,_,ep,xs,qs,_,_,_,z⟩|⟨a,ep,xs,qs,rfl,e1,d1,z⟩
 .cases z
 .cases z
 .injection z with z;have:=Mx z;subst this;obtain⟨b,v,m,l⟩:=d1.find j;refine⟨a,ep,xs,kk,b,v,Z,R.sub _ _ e1,λx hx=>?_,i.b2 R.sub,m,k _ H F (.fz _) (Sub.refl _) R l w⟩;obtain⟨c,e,q,t,B⟩:=d1.keys x hx;exact⟨c,e,R.sub _ _ q,R.sub _ _ t,R.sub _ _ B⟩
noncomputable def Ox(a:AD):Xq:=λρ Q=>MJ [a] ρ λc b=>match iJ b c with
 |true=>Fo
 |false=>XZ b c λd=>match d with
  |[.dict [(.bool Er,.list L)]]=>Q L b
  |_=>Fo
theorem mq{K:Fg}(w:F a=O (qK hL a' ep xs))(x:DaPd K F xs ps):Walks K (k_ hL a a' ep xs) F (ps.map λp=>.tuple [tI p.1,p.2]):=λi H g j l=>by
 have hl:=x.length;refine⟨λd q=>?_,λy=>⟨l _ _<|j _ _ w,by rw[l0]at y;exact le_of_eq_of_le hl<|V0 y⟩⟩;have hi:i<xs.length:=by have:=(O1.mp q).1;rw[l0]at this;exact u0 this<|V0 hl.symm
 refine⟨⟨l _ _<|j _ _ w,hi⟩,λz M ⟨T,k,b,v,m,ex,B,hx⟩=>?_⟩;subst ex B;obtain⟨P,C,g2,G⟩:=x.get hx;rw[Z0,C]at q;cases q;have L:g T=none:=by
  cases z:g T with
  |none=>rfl
  |some o=>rw[l _ _ z]at m;cases m
 have t:Sub g (gJ g T<|.tup [.ref b,v]):=Sub.new L;refine⟨gJ g T<|.tup [.ref b,v],t,λc o e=>?_,λc o e=>?_,Sub.new m,.tup uZ<|.cons (.tup (t _ _<|j _ _ g2)<|DaAll.ints _)<|.cons (G.mono<|j.trans t) .nil⟩
 .by_cases z:c=T
  .subst z;exact .inr m
  .rw[bZ z]at e;exact .inl e
 .by_cases z:c=T
  .subst z;rw[uZ]at e ⊢;exact e
  .rw[bZ z]at e ⊢;exact l _ _ e
theorem QI{K:Fg}(h:kJ K (Ox a) σ H R):Wu hL (XX K a) σ H R:=by
 obtain⟨G,F,ρ,Qd,v,w,k⟩:=h;refine vz (P:=λx j=>∃(d l:Hd) (c:Nat) (e:List (Qo×Hd×V)),x=.ref d/\j d=O (qK hL l c e)/\R (k_ hL d l c e) j)<|BJ v w λvs y B e g C i o b=>?_;split at b
 .exact b.elim
 rename_i m;obtain⟨ds,da,b⟩:=nJ i m o b;split at b
 .rename_i L;cases da with
  |cons M t =>
   cases t;rcases MF M with⟨a,_,z,_⟩|⟨a,S,c,ys,Y,rfl,q,g1,z⟩|⟨a,c,ys,Y,_,_,_,z⟩
   .cases z
   .injection z with z;subst z;exact⟨_,Z,a,S,c,ys,Z,i.sub _ _ q,k _ y B _ g C i (mq q g1) b⟩
   .cases z
 .exact b.elim
section
variable {K:Fg}{e e1 e2:Ge}{a b:AD}{p pos af p2 cg ve re:Pos}
theorem wa(d:X.K=K)(g:X.calm=Ep)(i:X.A.units+2<Ze)(j:X.mg "dict"=U)(k:Se "dict"=O (.type "dict"))(l:X.mg "zip"=U)(m:WA X [e1,e2] (pZ<|[a,b].map (XX K)))(t:Gl X "dict":=by rfl)(v:Gl X "zip":=by rfl)(w:oZ e1=true:=by rfl)(c:oZ e2=true:=by rfl) :
  WE X (.Call (.Name "dict" p) [.Call (.Name "zip" p2) [e1,e2] [] af] [] pos) (lift K<|CY [a,b]<|o2 Eb):=by
 subst d;exact⟨gU (vT g i t j k v l m.h (YX w) (KZ<|by simp[c]) (YX Z)<|KZ Z) λq=>aV xT q⟩
theorem nq(c:X.K=K)(d:X.calm=Ep)(g:X.A.units+6<Ze)(i:X.mg "dict"=U)(j:Se "dict"=O (.type "dict"))(k:WA X [e] (pZ<|[a].map (XX K)))(l:Gl X "dict":=by rfl)(m:oZ e=true:=by rfl) :
  WE X (.Call (.Name "dict" p) [e] [] pos) (lift K<|CY [a]<|o1 Lx):=by
 subst c;exact DU av (lq d g) i j k l (by decide) (by decide) m Z
theorem QW(c:X.A.units+6<Ze)(d:WE X e1 (XX K a))(g:WE X e2 (XX K b))(i:zN e2:=by exact λ_ _=>rfl):WE X (.Subscript e1 e2 pos) (lift K<|CY [a,b]<|o2 qM):=⟨V' OI<|NI c d.h g.h i⟩
theorem RI(c:WE X e1 (XX K a))(d:Hf e1 "items" X.env (Cf e1 X.env)=Cf e1 X.env:=by rfl)(g:(ve.endLine==re.line)=true:=by rfl):WI X (.Tuple ts kk cg) (.Call (.Attribute e1 "items" ve) [] [] re) (kJ K<|Ox a):=⟨pS (Xu c.h d g) QI⟩
end
end L3
namespace L2
open PySem.W
theorem lP(x y:qZ)(f:Bool)(hf:f=Er):VV (λj=>if j=0 then Es (x.1=y.1) else Es (x.2=y.2)) (λj=>if j=0 then HT.lexLt x.1 y.1 else HT.lexLt x.2 y.2) f 0 2=NK x y:=by
 unfold NK;subst hf;by_cases a:x.1=y.1
 .by_cases b:x.2=y.2
  .simp[VV,a,b,SG.lex_wk.irr]
  .simp[VV,a,b]
 .simp[VV,a]
theorem dB{r:List V}(I:Inv X ae σ H s)(k:∀b o,s.heap.get? b=O o->s'.heap.get? b=O o)(L:A.units+1<Ze)(hc:H c=O (.tup (.ref i::.ref b1::r))) (M:H i=O (.tup<|x.1.map V.int)) (P:H b1=O (.tup<|x.2.map V.int)) (hd:H d=O (.tup [.ref a2,.ref b2])) (R:H a2=O (.tup<|y.1.map V.int)) (S:H b2=O (.tup<|y.2.map V.int)) (h:Q (.bool<|NK x y) s'):Ed (Md prog w) A (Ii .Lt (.ref c)<|.ref d) Q E s':=by
 have Y:Inv X ae σ H {s with heap:=s'.heap}:=I.kept (t':=s.toks) k;obtain⟨_,ic,l,⟨oc1,q,oc3,B⟩,c1,c2,m1,c3,_⟩:=(show ObjOk X.prog X.w H s.heap c (.tup (.ref i::.ref b1::r)) from I.hok c _ hc);obtain⟨_,id',rd,⟨od1,C,od3,G⟩,d1,d2,m2,d3,_⟩:=(show ObjOk X.prog X.w H s.heap d (.tup [.ref a2,.ref b2]) from I.hok d _ hd);obtain⟨w1,w2,rfl,r3,r4⟩:=zY rd;cases l with
 |cons r1 l =>
  cases l with
  |cons r2 l =>
   rename_i us;cases r1;cases r2;cases r3;cases r4;simp only at c2 c3 d2 d3;subst c2 c3 d2 d3;have e:A.in1.units<Ze:=by show A.units+1<Ze;exact L
   have g:∀{prog:De}{w:Be}{a b:Hd}{x y:Qo}{Q E:Cd->Fd->Prop},H a=O (.tup<|x.map V.int)->H b=O (.tup<|y.map V.int)->Q (.bool<|HT.lexLt x y) s'->Ed (Md prog w) A.in1 (Ii .Lt (.ref a)<|.ref b) Q E s':=λ{prog w a b x y Q E} ha hb m=>by obtain⟨_,ia,ra,ta⟩:=(show ObjOk X.prog X.w H s'.heap a (.tup<|x.map V.int) from Y.hok a _ ha);obtain⟨_,ib,rb,tb⟩:=(show ObjOk X.prog X.w H s'.heap b (.tup<|y.map V.int) from Y.hok b _ hb);exact HT.lt_tupInts (prog:=prog) (w:=w) ta.t tb.t (EZ ra) (EZ rb) e m
   refine Mh (op:=.Lt) ⟨_,k _ _ c1,Z⟩ ⟨_,k _ _ d1,Z⟩ PySem.F.slot_tuple_lt PySem.F.entry_tuple_lt (PySem.F.args_tuple_lt_2 _ _)
    (qV c d _ _ m1 m2 q C B G (λj=>if j=0 then Es (x.1=y.1) else Es (x.2=y.2))<|λj=>if j=0 then HT.lexLt x.1 y.1 else HT.lexLt x.2 y.2) ⟨k _ _ c1,k _ _ d1,λj u v hx hy=>?_,λj u v hx hy he prog w E Q m=>?_,?_⟩ (T3 L)
   .rcases j with _|_|j
    .cases hx;cases hy;rw[Jd Z];exact UV I e M R k
    .cases hx;cases hy;rw[Gd<|by decide];exact UV I e P S k
    .simp at hy
   .rcases j with _|_|j
    .cases hx;cases hy;exact g M R m
    .cases hx;cases hy;exact g P S m
    .simp at hy
   .have es:min (T2 i::T2 b1::us).toArray.size [T2 a2,T2 b2].toArray.size=2:=by
     simp only[S0,J2,W6];exact J7<|X2 _ _
    rw[es];have hf:Es ((T2 i::T2 b1::us).toArray.size < [T2 a2,T2 b2].toArray.size)=false:=by refine Ee ?_;simp only[S0,J2,W6];exact b9<|X2 _ _
    rw[lP x y _ hf];exact⟨(λz=>by cases z),h⟩
theorem mP(I:Inv X ae σ H s)(m:A.units+2<Ze)(S:H c=O (.tup [.ref a1,t])) (q:uY H a1 x) (hd:H d=O (.tup [.ref a2])) (B:uY H a2 y) (h:Q (.bool<|NK x y) s):Ed (Md prog w) A (Ii .Lt (.ref c)<|.ref d) Q E s:=by
 obtain⟨_,ic,Y,⟨oc1,g,oc3,i⟩,C,G,m1,L,_⟩:=(show ObjOk X.prog X.w H s.heap c (.tup [.ref a1,t]) from I.hok c _ S);obtain⟨_,id',rd,⟨od1,k,od3,l⟩,M,P,m2,R,_⟩:=(show ObjOk X.prog X.w H s.heap d (.tup [.ref a2]) from I.hok d _ hd);obtain⟨u1,u2,rfl,r1,r2⟩:=zY Y;cases rd with
 |cons r3 rd =>
  cases rd;cases r1;cases r3;simp only at G L P R;subst G L P R;have a:A.in1.units+1<Ze:=by show A.units+1+1<Ze;exact m
  refine Mh (op:=.Lt) ⟨_,C,Z⟩ ⟨_,M,Z⟩ PySem.F.slot_tuple_lt PySem.F.entry_tuple_lt (PySem.F.args_tuple_lt_2 _ _)
   (qV c d _ _ m1 m2 g k i l (λ_=>decide<|x=y)<|λ_=>NK x y) ⟨C,M,λj u v hx hy=>?_,λj u v hx hy he prog w E Q hq=>?_,?_⟩ (T3<|T3 m)
  .rcases j with _|j
   .cases hx;cases hy;exact fP I a q B
   .simp at hy
  .rcases j with _|j
   .cases hx;cases hy;obtain⟨p1,q1,g1,g2,g3⟩:=q;obtain⟨p2,q2,f1,f2,f3⟩:=B;exact dB I (λb o e=>e) a g1 g2 g3 f1 f2 f3 hq
   .simp at hy
  .have e:VV (λ_=>decide<|x=y) (λ_=>NK x y) (decide<|(2:Nat)<1) 0 1=NK x y:=by
    by_cases z:x=y
    .subst z;simp[VV,ltB_wk.irr]
    .simp[VV,z]
   show wX (VV _ _ (decide<|(2:Nat)<1) 0 1)≠jX/\Q (.bool<|VV _ _ (decide<|(2:Nat)<1) 0 1) s;rw[e];exact⟨(λz=>by cases z),h⟩
def yT:R2:=λp q H Q=>∃(c d:Hd) (x y:qZ),p=.ref c/\q=.ref d/\((∃(a e b b2:Hd) (r:List V),H c=O (.tup (.ref a::.ref e::r))/\H a=O (.tup<|x.1.map V.int)/\H e=O (.tup<|x.2.map V.int)/\H d=O (.tup [.ref b,.ref b2])/\H b=O (.tup<|y.1.map V.int)/\H b2=O (.tup<|y.2.map V.int)) \/
  (∃(a b:Hd) (t:V),H c=O (.tup [.ref a,t])/\uY H a x/\H d=O (.tup [.ref b])/\uY H b y))/\Q (.bl<|NK x y) H
theorem eB(j:X.A.units+2<Ze):OpR X (Le .Lt) yT:=by
 intro ae s σ H p q v u Q I l m h;obtain⟨c,d,x,y,rfl,rfl,h,k⟩:=h;cases l;cases m;rcases h with⟨w,G,B,b2,r,a,g2,g,i,C,F⟩|⟨w,B,t,a,g2,g,i⟩
 .exact dB I (λb o e=>e) (T3 j) a g2 g i C F ⟨.bl<|NK x y,H,I,Z,k⟩
 .exact mP I j a g2 g i ⟨.bl<|NK x y,H,I,Z,k⟩
end L2
namespace L3
open L2
def ya:D->D->(Sl->Prop)->Prop:=λd e Q=>∃x y:qZ,((∃r,d=.tuple (.tuple (x.1.map n0)::.tuple (x.2.map n0)::r)/\e=VX y)\/(∃t,d=.tuple [VX x,t]/\e=.tuple [VX y]))/\Q (.fz<|.bool<|NK x y)
theorem fB{K:Fg}:JZ K (OV yT) (o2 ya):=Cw λG F σ H ρ p q d e Q Qd R j l w k=>by
 obtain⟨x,y,w,hq⟩:=w;have fin:Q (.bl<|NK x y) H:=k _ H F (.fz _) (Sub.refl _) R (Da.bl _) hq;have up:∀{c:Hd}{r:qZ},uY F c r->uY H c r:=λ{c r} ⟨a,b,j,l,h3⟩=>⟨a,b,R.sub _ _ j,R.sub _ _ l,R.sub _ _ h3⟩;rcases w with⟨r,rfl,rfl⟩|⟨t,rfl,rfl⟩
 .obtain⟨c,us,rfl,_,m,g⟩:=j.tuple R.sub;obtain⟨d,vs,rfl,_,v,i⟩:=l.tuple R.sub;cases g with
  |cons B g =>
   cases g with
   |cons Y g =>
    cases i with
    |cons C i =>
     cases i with
     |cons p4 i=>cases i;obtain⟨L,rfl,M⟩:=YY B;obtain⟨b1,rfl,yg⟩:=YY Y;obtain⟨P,rfl,S⟩:=YY C;obtain⟨b2,rfl,ng⟩:=YY p4;exact⟨c,d,x,y,Z,Z,.inl ⟨L,b1,P,b2,_,m,R.sub _ _ M,R.sub _ _ yg,v,R.sub _ _ S,R.sub _ _ ng⟩,fin⟩
 .obtain⟨c,us,rfl,_,m,g⟩:=j.tuple R.sub;obtain⟨d,vs,rfl,_,v,i⟩:=l.tuple R.sub;cases g with
  |cons B g =>
   cases g with
   |cons Y g =>
    cases g;cases i with
    |cons C i=>cases i;obtain⟨L,rfl,M⟩:=JF B;obtain⟨P,rfl,S⟩:=JF C;exact⟨c,d,x,y,Z,Z,.inr ⟨L,P,_,m,up M,v,up S⟩,fin⟩
end L3
namespace L2
end L2
namespace L3
open L2
theorem AT{K:Fg}{L:List D}(s:Sub F H)(j:At K F H v (.dict [(.bool Er,.list L)])):∃(b w:Hd) (e:Nat) (ys:List (Qo×Hd×V)) (d:List (Qo×D)),v=.ref b/\H b=O (qK hL w e ys)/\DaPd K F ys d/\L=d.map λp=>.tuple [tI p.1,p.2]:=by
 rcases j with j|⟨b,o,rfl,q,g2,i⟩
 .rcases MF j with⟨_,_,z,_⟩|⟨c,l,e,ys,d,rfl,x,q,z⟩|⟨_,_,_,_,_,_,_,z⟩
  .cases z
  .injection z with z;exact⟨c,l,e,ys,d,Z,s _ _ x,q,z⟩
  .cases z
 .cases o with
  |ext y=>obtain⟨l,e,ys,d,z,a,t⟩:=i.ext;rw[z]at g2;refine⟨b,l,e,ys,d,Z,g2,t,?_⟩;injection a with a;injection a with a _;injection a with _ a;injection a
  |dK m =>
   exfalso;have h:DaKV K F m [(L4 Er,P2 L)]:=i;generalize g:[(L4 Er,P2 L)]=es at h;cases h with
   |nil=>cases g
   |@cons k _ _ _ _ _ _=>cases k<;>cases g
  |dT m =>
   exfalso;have h:DaKT K F m [(L4 Er,P2 L)]:=i;generalize g:[(L4 Er,P2 L)]=es at h;cases h with
   |nil=>cases g
   |cons _ _=>cases g
  |_=>exact i.elim
end L3
namespace L2
theorem bv(hd:(d==Nf)=Er):MeetsIn prog w (Builtin.«dict.__len__» ⟨[.ref d],[]⟩) λ_ R s=>∃(o:Obj) (a:Eo Jn) (b:Nat),s.heap.get? d=O o/\o.data=.dict a b/\R (.ok<|.ret<|.int a.size s.toks) {s with toks:=s.toks+1} :=
 .of_wp λA R s ⟨o,a,b,c,e,h⟩=>by show Ed _ _ (dictSize d >>= _) _ _ s;unfold dictSize;refine Ad<|Ad<|Kh c e<|Bd ?_;show Ed _ _ (Builtin.Dict.pendingCount d >>= _) _ _ s;refine Ad<|wpAny_pendingCount_other hd<|wpAny_ret_mkInt ?_;rw[Nat.add_zero];exact h
theorem SI(hd:(d==Nf)=Er)(b:s.heap.get? d=O o)(hx:o.ExactDict)(c:o.data=.dict a ep)(e:(a.size:Int)<2 ^ 63)(h:Q (.int a.size<|s.toks+1) {s with toks:=s.toks+1+1}):Ed (Md prog w) A (call (.builtin "len") [.ref d]) Q E s:=by
 refine Calls.call_function_entry kind_len plain_len entry_len (args_len1 _) ?_;have ty:s.TypeIs (.ref d) "dict":=⟨o,b,hx.1⟩;unfold Builtin.«len»;refine Ad (m:=oneArg "len" _)<|Bd<|Ad (m:=callSpecial? (.ref d)<|Str.ofString "__len__")<|Yd (name:=Str.ofString "__len__") ty F.slot_dict_len<|call_meetsIn F.slot_dict_len ty F.entry_dict_len (F.args_dict_len_1 _) (bv hd) ⟨o,a,ep,b,c,?_⟩;show Ed _ _ _ _ _ {s with toks:=s.toks+1};refine Ad<|Ce<|Bd<|Ad<|Ln ?_;show Ed _ _ (if ((a.size:Nat):Int)<0 then _ else _) _ _ _;rw[Gd<|J6<|G3 _];show Ed _ _ (if ((a.size:Nat):Int) ≥ 2 ^ 63 then _ else _) _ _ _;rw[Gd<|Int.not_le_of_gt e];exact Ad<|wpAny_mkInt<|Bd ⟨_,Z,h⟩
def rM:List V->Hp->VK->Prop:=λa H Q=>∃(d b:Hd) (c:Nat) (ys:List (Qo×Hd×V)),a=[.ref d]/\H d=O (qK hL b c ys)/\Q (.int ys.length) H
theorem cv:VZ X (.builtin "len") rM:=by intro ae s σ H j us Q I r h;obtain⟨d,k,l,ys,rfl,hd,q⟩:=h;obtain⟨u,rfl,a⟩:=yK r;cases a;obtain⟨m,o,t,v,b,c,e,w,g,x,hl,i⟩:=ext_at I hd;have y:sizeLine=16777216:=Mn;refine SI i b c e (by lia) ⟨.int ys.length,H,I.tok _,⟨_,by rw[g]⟩,q⟩
end L2
namespace L3
open L2
noncomputable def gB:D->(Sl->Prop)->Prop
 | .dict [(.bool Er,.list L)],Q=>Q<|.fz<|.int L.length
 |_,_=>Fo
theorem UI{K:Fg}:JZ K rM (o1 gB):=by
 intro G F σ H ρ m c Q e R a w k;match c,a,w with
 |[d],a,w =>
  obtain⟨v,rfl,g⟩:=a.one;have w:gB d e:=w;unfold gB at w;split at w
  rotate_left
  .exact w.elim
  rename_i L w;obtain⟨b,i,j,ys,q,rfl,l,t,rfl⟩:=AT R.sub g;have hl:=t.length;rw[l0,<-hl]at w;exact⟨b,i,j,ys,Z,l,k _ _ F (.fz<|.int ys.length) (Sub.refl _) R (Da.int _) w⟩
section
variable {K:Fg}{e e1 e2:Ge}{es:Rs}{a b:AD}{as:List AD}{td te:TD}{tc:JV}{t:sW}{p pos af:Pos}{x y:Str}
theorem UX:WE X (.Constant (.int i) k pos) (XX K<|.inr<|dC<|.int i):=wx yZ
theorem hZ(i:Nat)(c:WA X es (pZ<|as.map<|XX K))(hN:X.N[i]?=O x:=by rfl)(d:GL X.env.scope x:=by first|exact Or.inl rfl|exact Or.inr (Or.inl rfl)|exact Or.inr<|Or.inr rfl)(hd:(x==("__debug__":Str))=false:=by decide)(g:(x==("__classdict__":Str))=false:=by decide):WA X (.Name x pos::es) (pZ<|(Sum.inl i::as).map<|XX K):=CU (wn i hN d hd g) c
theorem aZ(i:Nat)(hN:X.N[i]?=O x:=by rfl)(c:GL X.env.scope x:=by first|exact Or.inl rfl|exact Or.inr (Or.inl rfl)|exact Or.inr<|Or.inr rfl)(hd:(x==("__debug__":Str))=false:=by decide)(d:(x==("__classdict__":Str))=false:=by decide):WA X [.Name x pos] (pZ<|[Sum.inl i].map (XX K)):=CU (wn i hN c hd d) cK
theorem iZ(h:WE X e (lift K td))(c:WA X es (pZ<|as.map<|XX K))(d:oZ e=true:=by rfl):WA X (e::es) (pZ<|(Sum.inr td::as).map<|XX K):=CU (wx h) c d
theorem TX(h:WE X e (lift K td))(c:oZ e=true:=by rfl):WA X [e] (pZ<|[Sum.inr td].map (XX K)):=CU (wx h) cK c
theorem YV{k:Nat}(c:Room k X.A)(d:WE X e1 (XX K a))(g:WE X e2 (XX K b))(i:X.K=K:=by rfl):WT X (.Compare e1 [.Eq] [e2] pos) (rZ K<|wz<|CY [a,b]<|o2 U_):=rJ RY (AK i c.units) d g
theorem oq{k:Nat}(c:Room k X.A)(d:WE X e1 (XX K a))(g:WE X e2 (XX K b))(i:X.K=K:=by rfl):WT X (.Compare e1 [.NotEq] [e2] pos) (rZ K<|wz<|CY [a,b]<|o2 V_):=rJ zS (DO i c.units) d g
theorem WJ(c:X.mg "len"=U)(d:WA X (e::es) (pZ<|as.map<|XX K))(g:X.K=K:=by rfl)(i:Gl X "len":=by rfl)(j:oZ e=true:=by rfl)(k:es.all oZ=true:=by rfl):WE X (.Call (.Name "len" p) (e::es) [] pos) (lift K<|CY as<|o1 dS):=kZ bO (mw g) c boot_len d i (by decide) (by decide) j k
theorem uW(c:X.mg "tuple"=U)(d:WA X (e::es) (pZ<|as.map<|XX K))(g:X.K=K:=by rfl)(i:Gl X "tuple":=by rfl)(j:oZ e=true:=by rfl)(k:es.all oZ=true:=by rfl):WE X (.Call (.Name "tuple" p) (e::es) [] pos) (lift K<|CY as<|o1 Xy):=DU Yy (vD g) c Fl d i (by decide) (by decide) j k
theorem sZ(h:WE X e (lift K td)):WSs X [.Return (O e) pos] (cZ K<|pE td):=AZ<|HS h
theorem mG(i:Nat)(hN:X.N[i]?=O x:=by rfl)(c:GL X.env.scope x:=by first|exact Or.inl rfl|exact Or.inr (Or.inl rfl)|exact Or.inr<|Or.inr rfl)(hd:(x==("__debug__":Str))=false:=by decide)(d:(x==("__classdict__":Str))=false:=by decide):WSs X [.Return (O<|.Name x p) pos] (cZ K<|yD i):=AZ<|KO<|wn i hN c hd d
theorem HZ(i:Nat)(hN:Es X.N.Nodup=true:=by kernel_rfl)(hi:X.N[i]?=O x:=by rfl)(hx:HC X.env.scope x:=by first|exact Or.inl rfl|exact Or.inr rfl)(hf:X.fn x=Ep\/X.env.scope.names.lookup x=O .local:=by first|exact .inl rfl|exact .inr rfl|assumption):WG X (.Name x pos) (MZ K<|BC i):=JO (Ld hN) hi hx hf
theorem tZ(i:Nat)(c:WE X e (lift K td))(hN:Es X.N.Nodup=true:=by kernel_rfl)(hi:X.N[i]?=O x:=by rfl)(hx:HC X.env.scope x:=by first|exact Or.inl rfl|exact Or.inr rfl)(d:lV e=true:=by rfl)(hf:X.fn x=Ep\/X.env.scope.names.lookup x=O .local:=by first|exact .inl rfl|exact .inr rfl|assumption):WS X (.Assign [.Name x af] e pos) (cZ K<|tw i td):=KS (Ld hN) hi hx c d hf
section
variable {ti:Xq}{g:OY}
theorem Aa(own:Oo)(fr:Os)(hi:WI X tg me (kJ K ti))(c:∀C s H ex,WG (nZ X own fr sc C s H ex) tg<|MZ K g)(d:∀C s H ex,WIf (nZ X own fr sc C s H ex) jg<|rZ K tc)(i:∀C s H ex,WE (nZ X own fr sc C s H ex) fg<|lift K te)(S:MY X.env.scope X.N fr sc=true:=by kernel_rfl)(j:X.calm=true:=by rfl)(k:fr.Nodup:=by decide)(l:nY me=true:=by rfl):WE X (.ListComp fg [⟨tg,me,jg,0⟩] sc pos) (lift K<|pY ti own fr g tc te):=AF j S hi c d i k l
theorem NF(own:Oo)(fr:Os)(hi:WI X tg me (kJ K ti))(c:∀C s H ex,WG (nZ X own fr sc C s H ex) tg<|MZ K g)(d:∀C s H ex,WE (nZ X own fr sc C s H ex) fg<|lift K te)(S:MY X.env.scope X.N fr sc=true:=by kernel_rfl)(i:X.calm=true:=by rfl)(j:fr.Nodup:=by decide)(k:nY me=true:=by rfl):WE X (.ListComp fg [⟨tg,me,[],0⟩] sc pos) (lift K<|pY ti own fr g xD te):=AF i S hi c (λ_ _ _ _=>RL) d j k
theorem SJ(own:Oo)(fr:Os)(hi:WI X (.Name x p) me (kJ K ti))(c:∀C s H ex,WE (nZ X own fr sc C s H ex) fg<|lift K te)(d:∀C s H ex,WG (nZ X own fr sc C s H ex) (.Name x p) (MZ K<|BC 0):=by exact λ_ _ _ _=>HZ 0)(S:MY X.env.scope X.N fr sc=true:=by kernel_rfl)(i:X.calm=true:=by rfl)(j:fr.Nodup:=by decide)(k:nY me=true:=by rfl):WE X (.ListComp fg [⟨.Name x p,me,[],0⟩] sc pos) (lift K<|pY ti own fr (BC 0) xD te):=AF i S hi d (λ_ _ _ _=>RL) c j k
theorem Ba(own:Oo)(fr:Os)(hi:WI X (.Name x p) me (kJ K ti))(c:∀C s H ex,WIf (nZ X own fr sc C s H ex) jg<|rZ K tc)(d:∀C s H ex,WE (nZ X own fr sc C s H ex) fg<|lift K te)(i:∀C s H ex,WG (nZ X own fr sc C s H ex) (.Name x p) (MZ K<|BC 0):=by exact λ_ _ _ _=>HZ 0)(S:MY X.env.scope X.N fr sc=true:=by kernel_rfl)(j:X.calm=true:=by rfl)(k:fr.Nodup:=by decide)(l:nY me=true:=by rfl):WE X (.ListComp fg [⟨.Name x p,me,jg,0⟩] sc pos) (lift K<|pY ti own fr (BC 0) tc te):=AF j S hi i c d k l
theorem aW{c:List Xg}(ks:Os)(hi:WI X tg me (kJ K ti))(d:WG X tg (MZ K g))(i:WSs X c (cZ K t))(hx:X.xe=(λ_ _=>Fo):=by rfl)(j:X.calm=true:=by rfl)(k:nY me=true:=by rfl):WS X (.For tg me c [] pos) (cZ K<|bx ks ti g t):=JS ks (hx ▸ PassesOwn.never) j hi d i k
end
theorem ZX(c:WE X e1 (XX K a))(d:WE X e2 (XX K b))(g:X.K=K:=by rfl)(i:mF e2:=by exact λ_ _=>rfl):WE X (.Subscript e1 e2 pos) (lift K<|CY [a,b]<|o2 N_):=Y_ g c d i
theorem JJ(c:WE X e1 (XX K a))(d:WE X e2 (XX K b)):WE X (.BinOp e1 .Add e2 pos) (lift K<|CY [a,b]<|o2 bS):=w_bin ZN UE c d
theorem rq(c:WE X e1 (XX K a))(d:WE X e2 (XX K b)):WE X (.BinOp e1 .Mult e2 pos) (lift K<|CY [a,b]<|o2 cS):=w_bin aO VE c d
theorem WK(c:WE X e1 (XX K a))(d:WE X e2 (XX K b)):WE X (.BinOp e1 .Sub e2 pos) (lift K<|CY [a,b]<|o2<|XN λi j=>.int<|i-j):=w_bin CO jN c d
end
end L3
namespace R23
open L2 L3
abbrev Rr(K:Fg)(x:Str)(st:Stmt)(f:Addr)(fd:FuncData):=Fun K x x st f fd
noncomputable abbrev Zt(d:D):Do Sl:=O<|.fz d
noncomputable abbrev Yt(d:D):Do Sl:=O<|.ow d
noncomputable def top(i:Nat):Xg:=PySem.Challenge.pw_boxsums_k23_whole_whatever_table.main.body.getD i<|.Pass ⟨0,0,0,0⟩
structure Txt(mg:Str->Do Cd):Prop where
 Qp:mg "len"=U
 Qr:mg "abs"=U
 Qs:mg "max"=U
 Qt:mg "min"=U
 Xo:mg "zip"=U
 Xp:mg "int"=U
 Xr:mg "bool"=U
 Xs:mg "range"=U
 Xt:mg "repr"=U
 Zo:mg "sorted"=U
 Zp:mg "isinstance"=U
 Zr:mg "list"=U
 Zs:mg "tuple"=U
 Jo:mg "all"=U
 Jp:mg "sum"=U
 Jr:mg "dict"=U
 Js:mg "enumerate"=U
 Jt:mg "str"=U
 Ko:mg "set"=U
section
variable {P:De}{w:Be}{K:M0}{mg:Str->Do Cd}{base:Ke}
noncomputable abbrev NZ(ns:Qo)(k l:Int):Od:=.list [jY ns,.int k,.int l]
def CT:Con:=λa Q=>∃ns:Qo,a=[.fz<|jY ns]/\∀o,Q (.ow<|NZ ns 0 0) o
theorem nP(F:Rr K "_law_pen" (top 66) f fd):FnOk P w K mg base mJ 1 f fd ["_law_script"] (QX K CT):=by
 have S:FnScope ["_law_script"] ["_law_script"] (SX<|top 66):={};refine aa F S (λc A outer s H E d=>sZ<|WZ<|iZ (wv 0)<|iZ yZ<|TX yZ) ?_ ?_
 .rintro a b ⟨ns,rfl,_⟩;rfl
 .rintro a b ⟨ns,rfl,q⟩;exact⟨mV Z,q _⟩
def Px:Con:=λa Q=>∃(ns:Qo) (k l m:Int),a=[.io<|NZ ns k l,.fz<|.int m]/\0<=k/\0<=l/\0<m/\m<1000000 /\
 ∀(r b c:Int) (o:Ev),0<=r->r<m->0<=b->0<=c->Q (.fz<|.int r) (O (.io<|NZ ns b c)::o)
theorem VI(F:Rr K "_law_take" (top 67) f fd)(T:Txt mg):FnOk P w K mg base mJ 1 f fd ["_law_pen_here","_law_most"] (QX K Px):=by
 have S:FnScope ["_law_pen_here","_law_most","_law_found","_law_at","_law_cell","_law_number_here"] ["_law_pen_here","_law_most"] (SX<|top 67):={};refine IJ F S (λL A outer s H E M=>RX (lJ (rJ lH PU (wx<|ZX (wn 0) UX) UX) (RX (tZ 2<|w_bin DW zW (wx<|ZX (wn 0) UX)<|wn 1)<|RX (MD (w_bin mW jW (wx<|ZX (wn 0) UX)<|wn 1) (wn 0) UX)<|mG 2) GZ)<|RX (tZ 3<|ZX (wn 0) UX)<|RX (MD (JJ (wn 3) UX) (wn 0) UX)<|RX (tZ 4 yZ)<|RX (lJ (rJ lH PU (wx<|WJ T.Qp<|TX<|ZX (wn 0) UX) UX) (AZ<|tZ 4<|ZX (wx<|ZX (wn 0) UX)<|wx<|w_bin DW zW (wn 3)<|wx<|WJ T.Qp<|TX<|ZX (wn 0) UX) GZ)<|RX (lJ (Hw<|wu (rJ hU UW (wn 3)<|wx<|WJ T.Qp<|TX<|ZX (wn 0) UX)<|Lz<|rJ yS vR (wx<|kZ Bz QU T.Qr boot_abs<|aZ 4)<|wx<|w_bin lu Xv UX UX) (RX (MD (w_bin mW jW (wx<|kZ Bz QU T.Qr boot_abs<|aZ 4)<|wn 1) (wn 0) UX)<|sZ<|w_bin DW zW (wx<|kZ Bz QU T.Qr boot_abs<|aZ 4)<|wn 1) GZ)<|RX (tZ 5<|w_bin DW zW (wx<|rq (wx<|JJ (wx<|JJ (wx<|w_bin DW zW (wn 4) UX)<|wx<|rq UX<|wn 3) UX) UX) UX)<|RX (tZ 5<|w_bin DW zW (wx<|JJ (wx<|JJ (wx<|rq (wn 5)<|wn 5)<|wx<|rq UX<|wn 5)<|wn 3) UX)<|sZ<|w_bin DW zW (wx<|w_bin mW jW (wn 5) UX)<|wn 1) ?_;rintro t R ⟨ns,k,l,m,rfl,g,hl,a,Y,q⟩;have b:∀x:Int,0<=x % m/\x % m<m:=λx=>⟨Int.emod_nonneg _<|F8 a,Int.emod_lt_of_pos _ a⟩;refine⟨_,Z,?_⟩;refine RZ (λy=>?_)<|λy=>?_
 .refine⟨_,Z,a,_,Z,⟨a,by lia⟩,2,Z,?_⟩;exact q _ _ _ _ (b _).1 (b _).2 g<|Int.ediv_nonneg hl<|X1 a
 refine⟨_,Z,?_⟩;refine⟨1,Z,?_⟩;refine⟨_,Z,ns,Z,?_⟩;have B:∀c:Int,0<=(if c<0 then -c else c):=λc=>by split<;>lia
 have pos:∀n:Nat,0<n->0<=k % (n:Int)/\k % (n:Int)<n:=λn v=>⟨Int.emod_nonneg _<|F8<|U4.2 v,Int.emod_lt_of_pos _<|U4.2 v⟩;refine RZ (λd=>?_)<|λd=>?_
 .have d:0<ns.length:=by have:(0:Int)<(ns.length:Int):=Ld d;exact U4.1 this
  obtain⟨j,C⟩:=j5 (pos _ d).1;have i:j<ns.length:=by have:=(pos _ d).2;lia
  refine⟨_,Z,_,Z,ns,Z,by show (0:Int)<(ns.length:Int);exact U4.2 d,ns,ns[j],Z,by rw[C];exact bJ<|L0 i,?_⟩;refine⟨_,Z,ns,Z,?_⟩;refine RZ (λe=>?_)<|λe=>?_
  .refine⟨⟨by decide,by decide,by decide⟩,?_⟩;refine RZ (λG=>?_)<|λG=>?_
   .refine⟨⟨a,by lia⟩,2,Z,a,?_⟩;exact q _ _ _ _ (b _).1 (b _).2 (M8 g)<|Int.ediv_nonneg (B _)<|X1 a
   .refine⟨by show (0:Int)<2147483587;decide,.inl ⟨by decide,by decide⟩,.inr ⟨by decide,by decide⟩,by show (0:Int)<2147483647;decide,?_⟩;refine⟨.inl ⟨by lia,by lia⟩,.inl ⟨by decide,by decide⟩,by show (0:Int)<2147483629;decide,?_⟩;exact⟨⟨by decide,by decide⟩,a,q _ _ _ _ (b _).1 (b _).2 (by omega) hl⟩
  .refine⟨by show (0:Int)<2147483587;decide,.inl ⟨by decide,by decide⟩,.inr ⟨by decide,by decide⟩,by show (0:Int)<2147483647;decide,?_⟩;refine⟨.inl ⟨by omega,by omega⟩,.inl ⟨by decide,by decide⟩,by show (0:Int)<2147483629;decide,?_⟩;exact⟨⟨by decide,by decide⟩,a,q _ _ _ _ (b _).1 (b _).2 (by omega) hl⟩
 .refine⟨_,Z,ns,Z,?_⟩;refine RZ (λe=>?_)<|λe=>?_
  .exfalso;have e:k<(ns.length:Int):=Ld e;refine d<|Pd ?_;exact X3 g e
  .refine⟨by show (0:Int)<2147483587;decide,.inl ⟨by decide,by decide⟩,.inr ⟨by decide,by decide⟩,by show (0:Int)<2147483647;decide,?_⟩;refine⟨.inl ⟨by lia,by lia⟩,.inl ⟨by decide,by decide⟩,by show (0:Int)<2147483629;decide,?_⟩;exact⟨⟨by decide,by decide⟩,a,q _ _ _ _ (b _).1 (b _).2 (M8 g) hl⟩
open L2 L3
noncomputable def Fb(p:Int×Int)(f:(q:Int×Int)->(q.2-q.1).toNat<(p.2-p.1).toNat->List Qo):List Qo:=[p.1,p.2]::if h:p.1<p.2 then f ((p.1+p.2) / 2+1,p.2) (ZP Z h)++f (p.1,(p.1+p.2) / 2) (aR Z h) else []
noncomputable def hl(lo hi:Int):List Qo:=(measure λp:Int×Int=>(p.2-p.1).toNat).wf.fix Fb (lo,hi)
theorem tq(lo hi:Int):hl lo hi=[lo,hi]::if h:lo<hi then hl ((lo+hi) / 2+1) hi++hl lo ((lo+hi) / 2) else []:=WellFounded.fix_eq _ Fb (lo,hi)
theorem rV{lo hi:Int}(h:lo<hi):hl lo hi=[lo,hi]::(hl ((lo+hi) / 2+1) hi++hl lo ((lo+hi) / 2)):=by rw[tq,dif_pos h]
theorem QG{lo hi:Int}(h:¬lo<hi):hl lo hi=[[lo,hi]]:=by rw[tq,dif_neg h]
theorem nj:∀(n:Nat) (lo hi:Int),(hi-lo).toNat=n->lo<=hi->((hl lo hi).length:Int)=2*(hi-lo+1)-1:=by
 intro n;induction n using V7 with
 |_ n a =>
  intro lo hi e h;by_cases ge:lo<hi
  .rw[rV ge,J2,T0];have b:=a _ (ZP e ge) ((lo+hi) / 2+1) hi rfl<|Cv ge;have c:=a _ (aR e ge) lo ((lo+hi) / 2) rfl<|zC<|X1 ge
   lia
  .rw[QG ge];simp
   lia
noncomputable abbrev jK(p:Int×Int):Od:=.tuple [.int p.1,.int p.2]
noncomputable abbrev gR(r:Qo):Od:=.tuple<|r.map n0
noncomputable def eK(a:Ot):List Qo:=a.reverse.flatMap λp=>hl p.1 p.2
theorem RG(a:Ot)(p:Int×Int):eK (a++[p])=hl p.1 p.2++eK a:=by simp[eK]
theorem iB(a b:Int):1<=(hl a b).length:=by rw[tq];simp
theorem uq(a:Ot):a.length<=(eK a).length:=by
 induction a with
 |nil=>simp
 |cons p a b =>
  have e:eK (p::a)=eK a++hl p.1 p.2:=by simp[eK]
  have:=iB p.1 p.2;rw[e,T0,J2];exact Nat.add_le_add b this
theorem DT:∀(n:Nat) (lo hi:Int),(hi-lo).toNat=n->∀r∈hl lo hi,r≠[]:=by
 intro n;induction n using V7 with
 |_ n b =>
  intro lo hi e r a;by_cases ge:lo<hi
  .rw[rV ge]at a;rcases R0.mp a with rfl|a
   .simp
   .rcases B2.mp a with a|a
    .exact b _ (by omega) _ _ Z r a
    .exact b _ (by omega) _ _ Z r a
  .rw[QG ge]at a;simp at a;subst a;simp
theorem UG:∀(n:Nat) (lo hi:Int),(hi-lo).toNat=n->lo<=hi->∀r∈hl lo hi,∃a b:Int,r=[a,b]/\lo<=a/\a<=b/\b<=hi:=by
 intro n;induction n using V7 with
 |_ n g =>
  intro lo hi e h r c;by_cases ge:lo<hi
  .rw[rV ge]at c;rcases R0.mp c with rfl|c
   .exact⟨lo,hi,Z,DQ Z,by omega,DQ Z⟩
   .rcases B2.mp c with c|c
    .obtain⟨a,b,e,j,d,i⟩:=g _ (by omega) _ _ Z (by omega) r c;exact⟨a,b,e,by lia,d,by omega⟩
    .obtain⟨a,b,e,j,d,i⟩:=g _ (by omega) _ _ Z (by omega) r c;exact⟨a,b,e,by omega,d,X1<|X3 i<|Cv ge⟩
  .rw[QG ge]at c;simp at c;subst c;exact⟨lo,hi,Z,by omega,by omega,by omega⟩
def XI:Con:=λc Q=>∃a b:Int,c=[.fz<|jK (a,b)]/\0<=a/\0<=b/\a<=10000/\b<=10000/\∀o,Q (.ow<|.list [jK (a,(a+b) / 2),jK ((a+b) / 2+1,b)]) o
theorem oP(F:Rr K "two_halves" (top 21) f fd):FnOk P w K mg base mJ 1 f fd ["stretch"] (QX K XI):=by have S:FnScope ["stretch","middle"] ["stretch"] (SX<|top 21):={};refine IJ F S (λd A outer s H E e=>RX (tZ 1<|w_bin mW jW (wx<|JJ (wx<|ZX (wn 0) UX)<|wx<|ZX (wn 0) UX) UX)<|sZ<|WZ<|iZ (DZ<|iZ (ZX (wn 0) UX)<|TX<|wv 1)<|TX<|DZ<|iZ (JJ (wn 1) UX)<|TX<|ZX (wn 0) UX) ?_;rintro c g ⟨a,b,rfl,i,j,k,l,q⟩;refine⟨_,Z,_,Z,⟨by decide,by decide⟩,?_⟩;refine⟨_,Z,_,Z,?_⟩;exact q _
variable (P w K mg base) in
structure CalsS:Prop where
 Kp:Cal P w K mg base 1 "two_halves" ["stretch"] (QX K XI)
def ET:Con:=λc Q=>∃n:Int,c=[.fz<|.int n]/\1<=n/\n<=1000/\∀(d:List Qo) (o:Ev),d.Perm (hl 0<|n-1)->d.Pairwise (λa b=>HT.lexLt b a=Er)->Q (.ow<|.list<|d.map gR) o
theorem pP(F:Rr K "stretches" (top 22) f fd)(T:Txt mg)(C:CalsS P w K mg base):FnOk P w K mg base mJ 2 f fd ["side"] (QX K ET):=by
 have S:FnScope ["side","found","waiting","stretch"] ["side"] (SX<|top 22):={};refine IJ F S (λke A outer s H E G=>RX (tZ 1<|WZ cK)<|RX (tZ 2<|WZ<|TX<|DZ<|iZ yZ<|TX<|WK (wn 0) UX)<|RX (EU PassesOwn.never (rJ lH PU (wx<|WJ T.Qp<|aZ 2) UX)<|RX (tZ 3<|GS cu Z PySem.F.slot_list_pop PySem.F.type_list_pop qy<|wn 2)<|RX (nK<|uu wK Z PySem.F.slot_list_append PySem.F.type_list_append vK (wn 1)<|TX<|wv 3)<|AZ<|lJ (rJ hU UW (wx<|ZX (wn 3) UX)<|wx<|ZX (wn 3) UX) (AZ<|nK<|uu PV Z PySem.F.slot_list_extend PySem.F.type_list_extend GV (wn 2)<|TX<|dZ C.Kp G.m<|aZ 3) GZ)<|sZ<|kZ QD (kU Z) T.Zo Ul<|aZ 1) ?_;rintro v Qd ⟨n,rfl,y,L,q⟩;have je:=nj _ 0 (n-1) rfl<|Q2 y;refine⟨λm ρ=>∃(dn:List Qo) (g:Ot) (x:Do Sl),ρ=[Zt<|.int n,Yt<|.list<|dn.map gR,Yt<|.list<|g.map jK,x]/\dn++eK g=hl 0 (n-1)/\(∀p∈g,0<=p.1/\p.1<=p.2/\p.2<=1000)/\m=(eK g).length/\(x=U\/∃d,x=Zt d),⟨_,[],[(0,n-1)],U,Z,by simp[eK],by simp;exact⟨y,X1<|mX L⟩,Z,.inl Z⟩,?_⟩;rintro m ρ ⟨dn,g,x,rfl,j,hw,rfl,hx⟩;rcases hx with rfl|⟨xd,rfl⟩;all_goals
  refine RZ (λh=>?_)<|λh=>?_
  .refine⟨λt=>∃M,M<(eK g).length/\_,λt h=>h,?_⟩;obtain⟨c,p,rfl⟩:∃c p,g=c++[p]:=by
    rcases Y8 g with e|⟨a,b,e⟩
    .subst e;simp at h
    .exact⟨a,b,by simpa using e⟩
   have R:((c++[p]).map jK)[((c++[p]).map jK).length-1]?=O (jK p):=by simp
   have Y:((c++[p]).map jK).dropLast=c.map jK:=by simp
   have B:(dn++[[p.1,p.2]]).map gR=dn.map gR++[jK p]:=by rw[u4];rfl
   have eb:(c++[(p.1,(p.1+p.2) / 2),((p.1+p.2) / 2+1,p.2)]).map jK=c.map jK++[jK (p.1,(p.1+p.2) / 2),jK ((p.1+p.2) / 2+1,p.2)]:=by rw[u4];rfl
   have l:=hw p (by simp);have k:∀p∈c,0<=p.1/\p.1<=p.2/\p.2<=1000:=λx hx=>hw x (by simp[hx]);rw[RG]at j ⊢;have hL:=Ae W5 j;rw[T0,T0]at hL;have hwl:c.length<=(eK c).length:=uq c;refine⟨_,R,?_⟩;rw[Y];refine⟨by rw[l0];exact L1 (show dn.length<=1999 by omega)<|by decide,?_⟩;refine⟨_,Z,_,Z,RZ (λi=>?_)<|λi=>?_⟩
   .have i:p.1<p.2:=Ld i;refine⟨p.1,p.2,Z,l.1,Y1 l.1<|X1 i,by omega,by omega,λo=>?_⟩;refine⟨by rw[l0];exact K0 (show c.length+2<=3000 by omega)<|by decide,?_⟩;rw[rV i]at j hL ⊢;refine⟨(eK<|c++[(p.1,(p.1+p.2) / 2),((p.1+p.2) / 2+1,p.2)]).length,?_,dn++[[p.1,p.2]],c++[(p.1,(p.1+p.2) / 2),((p.1+p.2) / 2+1,p.2)],_,by rw[B,eb];rfl,?_,?_,Z,.inr ⟨_,Z⟩⟩
    .simp[eK]
    .rw[<-j];simp[eK]
    .intro x hx;simp only[B2,R0,h7,or_false]at hx;rcases hx with hx|rfl|rfl
     .exact k x hx
     .exact⟨l.1,by show p.1<=(p.1+p.2) / 2;exact zC<|X1 i,by show (p.1+p.2) / 2<=1000;omega⟩
     .exact⟨by show 0<=(p.1+p.2) / 2+1;omega,by show (p.1+p.2) / 2+1<=p.2;exact Cv i,by show p.2<=1000;exact l.2.2⟩
   .have i:¬p.1<p.2:=λz=>i<|Pd z;rw[QG i]at j hL ⊢;refine⟨(eK c).length,by simp,dn++[[p.1,p.2]],c,_,by rw[B];rfl,?_,k,Z,.inr ⟨_,Z⟩⟩;rw[<-j];simp
  .have e:g=[]:=by
    cases g with
    |nil=>rfl
    |cons a b=>exact absurd (Pd<|by simp) h
   subst e;have j:dn=hl 0 (n-1):=by simpa [eK]using j
   subst j;refine⟨hl 0<|n-1,Z,K0 (show _<=3000 by omega)<|by decide,DT _ _ _ Z,λbf r1 r2=>?_⟩;exact q bf _ r1 r2
noncomputable def vZ:Qo->Int
 |[]=>1
 |a::r=>a*vZ r
theorem YK:∀{l:Qo},(∀c∈l,1<=c)->1<=vZ l
 |[],_=>N7 _
 |a::r,h=>by
  have b:=h a G0;have d:=YK (l:=r) λc e=>h c<|q0 _ e;show 1<=a*vZ r;have:=N6 b d (by decide)<|X1 b
  lia
theorem OF(l r:Qo):vZ (l++r)=vZ l*vZ r:=by
 induction l with
 |nil=>show vZ r=1*vZ r;rw[dX]
 |cons a l b=>show a*vZ (l++r)=a*vZ l*vZ r;rw[b,vX]
structure Sd(sd:Qo):Prop where
 l1:1<=sd.length
 l3:sd.length<=3
 p:∀c∈sd,1<=c
 m:vZ sd<=120
noncomputable abbrev tupD(p:Qo):Od:=.tuple<|p.map n0
noncomputable def mZ{α:Type}(acc:List (List α)):List (List α)->List (List α)
 |[]=>acc
 |c::cs=>mZ (acc.flatMap λp=>c.map λx=>p++[x]) cs
noncomputable def TZ{α:Type}:List (List α)->Nat
 |[]=>1
 |c::a=>c.length*TZ a
theorem bW{α:Type}:∀{cs:List (List α)},(∀c∈cs,c≠[])->1<=TZ cs
 |[],_=>P0 _
 |c::cs,h=>by have a:1<=c.length:=c5.mpr<|h c G0;have b:=bW (cs:=cs) λd hd=>h d<|q0 _ hd;exact Nat.mul_le_mul a b
theorem sV(c:List α):∀a:List (List α),(a.flatMap λp=>c.map λx=>p++[x]).length=a.length*c.length
 |[]=>by simp
 |p::a=>by rw[Y2,T0,sV c a,l0,J2,AQ,E8]
theorem IZ:∀(cs a:List (List α)),(mZ a cs).length=a.length*TZ cs
 |[],a=>by simp[mZ,TZ]
 |c::cs,a=>by rw[mZ,IZ cs,sV,TZ,cQ]
noncomputable def rng(s:Int):Qo:=(S1 s.toNat).map λ(n:Nat)=>(n:Int)
theorem DH(s:Int):wZ 0 s.toNat=(rng s).map n0:=by simp[wZ,rng,A0,Function.comp_def]
theorem wY(s:Int):(rng s).length=s.toNat:=by simp[rng]
noncomputable def tJ(sd:Qo):List Qo:=mZ [[]]<|sd.map rng
theorem tV:∀{sd:Qo},(∀c∈sd,1<=c)->(TZ (sd.map rng):Int)=vZ sd
 |[],_=>rfl
 |a::r,h=>by have b:=h a G0;have d:=tV (sd:=r) λc e=>h c<|q0 _ e;show ((((rng a).length*TZ (r.map rng):Nat)):Int)=a*vZ r;rw[wY,w8,d];congr 1;exact qX<|X1 b
theorem oJ(a b:Qo):tW (a.map n0) (b.map n0)=(a.zip b).map λp=>K1 [.int p.1,.int p.2]:=by rw[tW,IX,A0];rfl
noncomputable def UZ(a b:Int):Qo:=(S1 (b+1-a).toNat).map λ(n:Nat)=>a+(n:Int)
theorem vq(a b:Int):wZ a (b+1-a).toNat=(UZ a b).map n0:=by simp[wZ,UZ,A0,Function.comp_def]
theorem ZV(s:Int):UZ 0 (s-1)=rng s:=by unfold UZ rng;rw[show s-1+1-0=s by lia];simp
noncomputable def xU(a b:Qo):List Qo:=mZ [[]]<|(a.zip b).map λp=>UZ p.1 p.2
theorem EH:∀sd:Qo,((sd.map λ_=>(0:Int)).zip<|sd.map λs=>s-1)=sd.map λs=>(0,s-1)
 |[]=>rfl
 |a::r=>by simp[EH r]
theorem OZ:∀{sd:Qo},(∀c∈sd,1<=c)->∀c∈sd,c<=vZ sd
 |a::r,h,c,b=>by
  have g:=h a G0;have d:∀c∈r,1<=c:=λc b=>h c<|q0 _ b;have e:=YK d;show c<=a*vZ r;rcases R0.mp b with rfl|b
  .have:=t9 e (show (0:Int)<=c by lia);lia
  .have i:=OZ d c b;have:=j9 g (show (0:Int)<=vZ r by exact X1 e);lia
noncomputable def VG(sd a:Qo):Int:=(sd.zip a).foldl (λi p=>i*p.1+p.2) 0
noncomputable def lU{α:Type}:List α->List (List α)->Prop
 |[],[]=>True
 |x::a,c::b=>x∈c/\lU a b
 |_,_=>Fo
theorem wq{α:Type}:∀{cs b:List (List α)}{p:List α},p∈mZ b cs->∃a∈b,∃q,p=a++q/\lU q cs
 |[],b,p,h=>⟨p,h,[],by simp,trivial⟩
 |c::cs,b,p,h=>by obtain⟨j,d,q,rfl,e⟩:=wq (cs:=cs) h;obtain⟨a,g,i⟩:=i5.mp d;obtain⟨x,hx,rfl⟩:=v0.mp i;exact⟨a,g,x::q,by simp,hx,e⟩
theorem YZ{α:Type}{b:List (List α)}{p:List α}(h:p∈mZ [[]] b):lU p b:=by obtain⟨a,c,q,rfl,d⟩:=wq h;simp at c;subst c;exact d
theorem Qx{x s:Int}(h:x∈rng s):0<=x/\x<s:=by unfold rng at h;obtain⟨n,a,rfl⟩:=v0.mp h;have:=V4.mp a;exact⟨G3 _,Int.lt_toNat.1 this⟩
noncomputable def Wi:Qo->Qo->Prop
 |[],[]=>True
 |x::a,s::b=>(0<=x/\x<s)/\Wi a b
 |_,_=>Fo
theorem RW{sd p:Qo}(a:p∈tJ sd):Wi p sd:=by
 have h:=YZ a;clear a;induction sd generalizing p with
 |nil=>cases p with
  |nil=>trivial
  |cons _ _=>exact h.elim
 |cons s c b=>cases p with
  |nil=>exact h.elim
  |cons x d=>exact⟨Qx h.1,b h.2⟩
theorem xY{sd:Qo}(a:∀c∈sd,1<=c):((tJ sd).length:Int)=vZ sd:=by rw[tJ,IZ,<-tV a];simp
theorem cW:∀{p sd:Qo},Wi p sd->p.length=sd.length
 |[],[],_=>rfl
 |[],_::_,h=>h.elim
 |_::_,[],h=>h.elim
 |_::_,_::_,h=>by simp[cW h.2]
theorem sM:∀{sd pl:Qo}{i m:Int},Wi pl sd->0<=i->i<m->0<=(sd.zip pl).foldl (λi p=>i*p.1+p.2) i/\(sd.zip pl).foldl (λi p=>i*p.1+p.2) i<m*vZ sd
 |[],[],i,m,_,h0,a=>by simp[vZ];exact⟨h0,a⟩
 |[],_::_,_,_,h,_,_=>h.elim
 |_::_,[],_,_,h,_,_=>h.elim
 |s::c,x::d,i,m,h,h0,a=>by
  have hx:=h.1;have b:0<=s:=by lia
  have e:0<=i*s:=Int.mul_nonneg h0 b;have g:i*s<=(m-1)*s:=j9 (S6 a) b;rw[Int.sub_mul,dX]at g;have:=sM (sd:=c) (pl:=d) (i:=i*s+x) (m:=m*s) h.2 (Int.add_nonneg e hx.1) (by lia);rw[vX]at this;exact this
theorem qP{s:Int}{j:Nat}{x:Int}(h:(rng s)[j]?=O x):x=j/\(j:Int)<s:=by unfold rng at h;rw[Z0,Q7]at h;obtain⟨n,a,rfl⟩:=h;rw[O1]at a;obtain⟨b,c⟩:=a;simp at b c;exact⟨Int.ofNat_inj.2 c.symm,b⟩
theorem Rx{s:Int}(k:1<=s):∀{c:List Qo}{d:Nat}{e:Qo},(c.flatMap λp=>(rng s).map λx=>p++[x])[d]?=O e -> ∃(j:Nat) (a:Qo) (x:Int),c[j]?=O a/\e=a++[x]/\(0<=x/\x<s)/\(d:Int)=j*s+x
 |[],d,e,h=>by simp at h
 |a::c,d,e,h=>by
  rw[Y2]at h;rcases B9 d ((rng s).map λx=>a++[x]).length with g|g
  .rw[A4 g,Z0,Q7]at h;obtain⟨x,hx,rfl⟩:=h;obtain⟨rfl,i⟩:=qP hx;exact⟨0,a,_,Z,Z,⟨G3 _,i⟩,by simp⟩
  .rw[W2 g]at h;obtain⟨j,b,x,l,i,m,q⟩:=Rx k h;rw[l0,wY]at g q;refine⟨j+1,b,x,l,i,m,?_⟩;rw[show ((j+1:Nat):Int)=(j:Int)+1 by exact RQ _ _,Int.add_mul,dX];omega
theorem Ux:∀{sd:Qo}{b:List Qo}{k:Nat}{p:Qo},(∀c∈sd,1<=c)->(mZ b<|sd.map rng)[k]?=O p -> ∃(j:Nat) (a q:Qo),b[j]?=O a/\p=a++q/\Wi q sd/\(sd.zip q).foldl (λi p=>i*p.1+p.2) (j:Int)=k
 |[],b,k,p,_,h=>⟨k,p,[],h,by simp,trivial,Z⟩
 |s::g,b,k,p,d,h=>by obtain⟨G,L,l,m,t,v,e⟩:=Ux (sd:=g) (λc y=>d c<|q0 _ y) h;obtain⟨j,a,x,B,g2,C,F⟩:=Rx (d s G0) m;refine⟨j,a,x::l,B,by rw[t,g2];simp,⟨C,v⟩,?_⟩;rw[F]at e;exact e
theorem oj{sd:Qo}(e:∀c∈sd,1<=c){k:Nat}{p:Qo}(h:(tJ sd)[k]?=O p):Wi p sd/\VG sd p=k:=by
 obtain⟨j,a,q,b,d,g,i⟩:=Ux e h;have l:j=0:=by
  rcases j with _|j
  .rfl
  .simp at b
 subst l;simp at b;subst b;simp at d;subst d;exact⟨g,i⟩
theorem uV{a:Qo}{i:Nat}(h:i<a.length):vW (a.map n0) (i:Int)=O (.int<|a.getD i 0):=by refine bJ ?_;rw[Z0,L0 h,G1,L0 h];rfl
theorem Vx:∀{a b:Qo} (x y:Int),a.length=b.length->HT.lexLt a b=Ep->HT.lexLt (a++[x]) (b++[y])=Ep
 |[],[],x,y,_,h=>by cases h
 |[],_::_,x,y,e,_=>by simp at e
 |_::_,[],x,y,e,_=>by simp at e
 |u::a,v::b,x,y,e,h=>by
  rw[m8,m8,HT.lexLt_cons];rw[HT.lexLt_cons]at h;by_cases q:u=v
  .rw[Jd q]at h ⊢;exact Vx x y (by simpa using e) h
  .rw[Gd q]at h ⊢;exact h
theorem Wx:∀(a:Qo) {x y:Int},x<y->HT.lexLt (a++[x]) (a++[y])=Ep
 |[],x,y,h=>by show HT.lexLt [x] [y]=Ep;rw[HT.lexLt_cons,Gd<|Int.ne_of_lt h];exact Pd h
 |u::a,x,y,h=>by rw[m8,m8,HT.lexLt_cons,Jd Z];exact Wx a h
theorem CJ:∀{cs acc:List Qo}{n:Nat},acc.Pairwise (λa b=>HT.lexLt a b=Ep)->(∀p∈acc,p.length=n)->(∀c∈cs,c.Pairwise (· < ·))->(mZ acc cs).Pairwise (λa b=>HT.lexLt a b=Ep)
 |[],_,_,h,_,_=>h
 |c::cs,acc,n,h,e,g=>by
  refine CJ (cs:=cs) (n:=n+1) ?_ ?_ λd hd=>g d<|q0 _ hd
  .rw[Z8];refine⟨λp i=>?_,?_⟩
   .rw[N5];exact(g c G0).imp λh=>Wx p h
   .refine List.Pairwise.imp_of_mem (λ{a b} j k h=>?_) h;intro x hx y hy;obtain⟨u,_,rfl⟩:=v0.mp hx;obtain⟨v,_,rfl⟩:=v0.mp hy;exact Vx u v (by rw[e a j,e b k]) h
  .intro p i;obtain⟨q,l,hx⟩:=i5.mp i;obtain⟨x,_,rfl⟩:=v0.mp hx;rw[T0,e q l];rfl
theorem GU(a b:Int):(UZ a b).Pairwise (· < ·):=by unfold UZ;rw[N5];exact JQ.imp λh=>Int.add_lt_add_left (U4.2 h) _
theorem qj(lo hi:Qo):(xU lo hi).Pairwise (λa b=>HT.lexLt b a=Er):=by
 have h:=CJ (cs:=(lo.zip hi).map λp=>UZ p.1 p.2) (acc:=[[]]) (n:=0) (Q3 _ _) (by simp) λc d=>by obtain⟨p,_,rfl⟩:=v0.mp d;exact GU _ _
 refine List.Pairwise.imp (λ{a b} h=>?_) h;cases e:HT.lexLt b a
 .rfl
 .have:=SG.lex_wk.tr a b a h e;rw[SG.lex_wk.irr]at this;cases this
theorem xq(a b:Int):(UZ a b).length=(b+1-a).toNat:=by simp[UZ]
theorem TJ{α:Type}:∀{cs acc:List (List α)}{a q:List α},a∈acc->lU q cs->a++q∈mZ acc cs
 |[],acc,a,[],b,_=>by simpa [mZ]using b
 |[],_,_,_::_,_,h=>h.elim
 |_::_,_,_,[],_,h=>h.elim
 |c::cs,acc,a,x::q,b,h=>by have:=TJ (cs:=cs) (acc:=acc.flatMap λp=>c.map λx=>p++[x]) (a:=a++[x]) (q:=q) (i5.mpr ⟨a,b,v0.mpr ⟨x,h.1,Z⟩⟩) h.2;simpa [mZ]using this
theorem Xx{x s:Int}(h0:0<=x)(a:x<s):x∈rng s:=v0.mpr ⟨x.toNat,V4.mpr<|by lia,qX h0⟩
theorem jB:∀{p sd:Qo},Wi p sd->lU p (sd.map rng)
 |[],[],_=>trivial
 |[],_::_,h=>h.elim
 |_::_,[],h=>h.elim
 |x::p,s::sd,h=>⟨Xx h.1.1 h.1.2,jB h.2⟩
theorem lB{p sd:Qo}(h:Wi p sd):p∈tJ sd:=TJ (a:=[]) (by simp)<|jB h
noncomputable abbrev dJ(sd cl:Qo):Od:=.tuple [tupD sd,tupD cl]
noncomputable def cel(sd cl p:Qo):Int:=cl.getD (VG sd p).toNat 0
mutual
noncomputable def WH:Od->Bool
 | .dict b=>qY b
 | .list a=>okAll a
 | .tuple a=>okAll a
 | .none=>Ep
 | .bool _=>Ep
 | .int _=>Ep
 | .str _=>Ep
noncomputable def okAll:Rt->Bool
 |[]=>Ep
 |x::a=>WH x&&okAll a
end
theorem pJ:∀{a:Rt},okAll a=Ep->∀d∈a,WH d=Ep
 |[],_,d,h=>by simp at h
 |x::a,h,d,hd=>by
  simp[okAll]at h;rcases R0.mp hd with rfl|hd
  .exact h.1
  .exact pJ h.2 d hd
theorem dW:∀{a:Rt},(∀d∈a,WH d=Ep)->okAll a=Ep
 |[],_=>rfl
 |x::a,h=>by simp[okAll];exact⟨h x G0,dW λd hd=>h d<|q0 _ hd⟩
noncomputable def iD:Od->Bool
 | .int _=>Ep
 |_=>Er
noncomputable def mB(s:Int):Od->Bool
 | .int i=>Es (0<=i)&&Es (i<s)
 |_=>Er
noncomputable def Yq:Rt->Qo->Bool
 |d::ds,s::sd=>mB s d&&Yq ds sd
 |_,_=>Ep
noncomputable def OK(sd:Qo):Od->Bool
 | .tuple a=>Es (a.length=sd.length)&&Yq a sd
 |_=>Er
theorem ints_of:∀{ds:Rt},ds.all iD=Ep->∃ns:Qo,ds=ns.map n0
 |[],_=>⟨[],Z⟩
 |d::ds,h=>by simp at h;obtain⟨ns,e⟩:=ints_of (ds:=ds) (by simpa using h.2);cases d<;>simp[iD]at h;rename_i i;exact⟨i::ns,by rw[e];rfl⟩
theorem FH:∀{ds:Rt}{sd:Qo},ds.length=sd.length->Yq ds sd=Ep->ds.all iD=Ep
 |[],_,_,_=>rfl
 |d::ds,[],h,_=>by simp at h
 |d::ds,s::sd,h,k=>by simp[Yq]at k;have:=FH (ds:=ds) (sd:=sd) (by simpa using h) k.2;cases d<;>simp[mB]at k;rename_i i;show (iD (.int i)&&ds.all iD)=Ep;rw[this];rfl
noncomputable def nG(p:Int×Int):Bool:=Es (0<=p.1)&&Es (p.1<p.2)
theorem Yx:∀(ns sd:Qo),Yq (ns.map n0) sd=((ns.zip sd).map nG).all id
 |[],_=>by simp[Yq]
 |n::ns,[]=>by simp[Yq]
 |n::ns,s::sd=>by simp[Yq,mB,nG,Yx ns sd]
noncomputable def rP(ns a:Qo):Bool:=((ns.zip a).map λp=>decide<|p.1<=p.2).all id
noncomputable def unI:Od->Int
 | .int i=>i
 |_=>0
noncomputable def Xc:Od->Od->Bool
 | .tuple a,.tuple ys=>rP (a.map unI)<|ys.map unI
 |_,_=>Er
theorem KJ(ns:Qo):(ns.map n0).map unI=ns:=by rw[A0];exact B8 ns
noncomputable def eW(sd:Qo):Od->Bool
 | .tuple [a,b]=>OK sd a&&OK sd b&&Xc a b
 |_=>Er
theorem xK{sd:Qo}{d:Od}(h:OK sd d=Ep):∃ns:Qo,d=tupD ns/\ns.length=sd.length:=by cases d<;>simp[OK]at h;rename_i a;obtain⟨ns,e⟩:=ints_of<|FH h.1 h.2;subst e;exact⟨ns,Z,by simpa using h.1⟩
theorem nB{sd:Qo}{d:Rt}(h:d.length≠2):eW sd (.tuple d)=false:=by rcases d with _|⟨a,_|⟨b,_|⟨c,d⟩⟩⟩<;>first|rfl|simp at h
def rj:Con:=λa Q=>∃d,a=[.fz d]/\WH d=Ep/\∀o,Q (.fz<|.bool<|iD d) o
theorem oB(F:Rr K "is_whole" (top 4) f fd)(T:Txt mg):FnOk P w K mg base mJ 1 f fd ["thing"] (QX K rj):=by
 have S:FnScope ["thing"] ["thing"] (SX<|top 4):={};refine IJ F S (λe A outer s H E g=>sZ<|LD (TY .int Z T.Zp T.Xp boot_int<|wn 0)<|tu<|w_not<|TY .bl Z T.Zp T.Xr boot_bool<|wn 0) ?_;rintro a j ⟨d,rfl,hd,q⟩;cases d with
 |dict k=>exact⟨hd,q _⟩
 |int i=>exact q _
 |bool b=>exact q _
 |none=>exact q _
 |str x=>exact q _
 |list c=>exact q _
 |tuple c=>exact q _
variable (P w K mg base) in
structure CalsC:Prop where
 Kr:Cal P w K mg base 1 "is_whole" ["thing"] (QX K rj)
noncomputable def yY(n:Nat):Od->Bool
 | .tuple ds=>Es (ds.length=n)&&ds.all iD
 |_=>Er
def Zx:Con:=λa Q=>∃(d:Od) (n:Nat),a=[.fz d,.fz<|.int n]/\WH d=Ep/\n<=1000/\∀o,Q (.fz<|.bool<|yY n d) o
theorem YI(F:Rr K "are_wholes" (top 5) f fd)(T:Txt mg)(C:CalsC P w K mg base):FnOk P w K mg base mJ 2 f fd ["thing","many"] (QX K Zx):=by
 have S:FnScope ["thing","many"] ["thing","many"] (SX<|top 5):={};refine IJ F S (λk A outer s H E c=>RX (lJ (Hw<|vU (ZJ<|NJ<|TY .tup Z T.Zp T.Zs Fl<|wn 0)<|xW<|oq c (wx<|WJ T.Qp<|aZ 0)<|wn 1) (sZ EW) GZ)<|sZ<|kZ mY (zJ (K:=K) Z Z) T.Jo Sh<|TX<|SJ ["number"] [] (CZ rfl<|wv 0)<|λ_ _ _ _=>dZ C.Kr c.m<|aZ 0) ?_;rintro g l ⟨d,n,rfl,hd,j,q⟩;cases d with
 |dict t=>exact⟨hd,q _⟩
 |int i=>exact q _
 |bool b=>exact q _
 |none=>exact q _
 |str x=>exact q _
 |list a=>exact q _
 |tuple a =>
  refine RZ (λh=>?_)<|λh=>?_
  .have h:¬(a.length:Int)=n:=by simpa using h
   have e:yY n (.tuple a)=false:=by simp[yY];intro z;lia
   rw[e]at q;exact q _
  .have h:(a.length:Int)=n:=by simpa using h
   have hl:a.length=n:=E7 h;refine⟨WX<|le_of_eq_of_le hl j,sJ (λd=>.bool<|iD d) ?_ ?_⟩
   .intro d pi N hN;exact⟨d,Z,pJ (by simpa [WH]using hd) d pi,λo=>hN⟩
   .refine⟨a.map iD,by rw[A0];rfl,?_⟩;have e:yY n (.tuple a)=(a.map iD).all id:=by simp[yY,hl]
    rw[<-e];exact q _
variable (P w K mg base) in
structure CalsD:Prop where
 Ks:Cal P w K mg base 2 "are_wholes" ["thing","many"] (QX K Zx)
def GH:Con:=λa Q=>∃(sd:Qo) (d:Od),a=[.fz<|tupD sd,.fz d]/\WH d=Ep/\sd.length<=1000/\∀o,Q (.fz<|.bool<|OK sd d) o
noncomputable def Ca:Od->Od
 | .tuple [.int a,.int b]=>.bool<|nG (a,b)
 |_=>.none
theorem sj(F:Rr K "is_place" (top 12) f fd)(T:Txt mg)(C:CalsD P w K mg base):FnOk P w K mg base mJ 3 f fd ["sides","thing"] (QX K GH):=by
 have S:FnScope ["sides","thing"] ["sides","thing"] (SX<|top 12):={};refine IJ F S (λt A outer s H E k=>RX (lJ (ZJ<|NJ<|dZ C.Ks k.m<|hZ 1<|TX<|WJ T.Qp<|aZ 0) (sZ EW) GZ)<|sZ<|kZ mY (zJ (K:=K) Z Z) T.Jo Sh<|TX<|NF ["number","side"] [] (MK Z T.Xo<|hZ 1<|aZ 0) (λ_ _ _ _=>pK Z rfl<|lZ (HZ 0)<|lZ (HZ 1) EJ)<|λ_ _ _ _=>bI tG UW UX (wn 0)<|wn 1) ?_;rintro j v ⟨sd,d,rfl,hd,l,q⟩;refine⟨d,sd.length,by rw[l0];rfl,hd,l,λo=>?_⟩;cases g:yY sd.length d with
 |false =>
  have e:OK sd d=false:=by
   cases d<;>first|rfl|skip
   rename_i ds;simp[yY]at g;by_cases h:ds.length=sd.length
   .cases c:Yq ds sd with
    |false=>simp[OK,c]
    |true=>have:=FH h c;exact absurd this (by simpa using g h)
   .simp[OK,h]
  rw[e]at q;exact q _
 |true =>
  cases d<;>simp[yY]at g;rename_i ds;obtain⟨hl,hi⟩:=g;obtain⟨ns,rfl⟩:=ints_of (ds:=ds) (by simpa using hi);have c:tW (ns.map n0) (sd.map n0)=(ns.zip sd).map λp=>K1 [.int p.1,.int p.2]:=oJ ns sd;have i:ns.length=sd.length:=by simpa using hl
  refine⟨by rw[c,l0,U1];exact WX<|by lia,sJ Ca ?_ ?_⟩
  .intro d pi N hN;rw[c]at pi;obtain⟨⟨a,b⟩,_,rfl⟩:=v0.mp pi;have hN:N (.bool<|nG (a,b)) _:=hN;refine⟨Z,?_⟩;refine RZ (λh=>?_)<|λh=>?_
   .have e:nG (a,b)=Es (a<b):=by
     have h:Es (0<=a)=true:=h;simp[nG,Ld h]
    rw[e]at hN;exact hN
   .have e:nG (a,b)=false:=by
     have h:¬Es (0<=a)=true:=h;simp[nG];intro z;exact absurd (Pd z) h
    rw[e]at hN;exact hN
  .rw[c,A0];refine⟨(ns.zip sd).map nG,by rw[A0];rfl,?_⟩;have e:OK sd (.tuple<|ns.map n0)=((ns.zip sd).map nG).all id:=by
    rw[<-Yx];simp[OK,i]
   rw[<-e];exact q _
variable (P w K mg base) in
structure CalsE:Prop where
 Kt:Cal P w K mg base 3 "is_place" ["sides","thing"] (QX K GH)
def tj:Con:=λa Q=>∃(sd:Qo) (d:Od),a=[.fz<|tupD sd,.fz d]/\WH d=Ep/\sd.length<=1000/\∀o,Q (.fz<|.bool<|eW sd d) o
noncomputable def Yc:Od->Od
 | .tuple [.int a,.int b]=>.bool<|decide<|a<=b
 |_=>.none
theorem pB(F:Rr K "is_box" (top 13) f fd)(T:Txt mg)(C:CalsE P w K mg base):FnOk P w K mg base mJ 4 f fd ["sides","thing"] (QX K tj):=by
 have S:FnScope ["sides","thing"] ["sides","thing"] (SX<|top 13):={};refine IJ F S (λM A outer s H E k=>RX (lJ (Hw<|vU (ZJ<|NJ<|TY .tup Z T.Zp T.Zs Fl<|wn 1)<|xW<|oq k (wx<|WJ T.Qp<|aZ 1) UX) (sZ EW) GZ)<|RX (lJ (Hw<|vU (ZJ<|NJ<|dZ C.Kt k.m<|hZ 0<|TX<|ZX (wn 1) UX)<|xW<|ZJ<|NJ<|dZ C.Kt k.m<|hZ 0<|TX<|ZX (wn 1) UX) (sZ EW) GZ)<|sZ<|kZ mY (zJ (K:=K) Z Z) T.Jo Sh<|TX<|NF ["first","last"] [] (MK Z T.Xo<|iZ (ZX (wn 1) UX)<|TX<|ZX (wn 1) UX) (λ_ _ _ _=>pK Z rfl<|lZ (HZ 0)<|lZ (HZ 1) EJ)<|λ_ _ _ _=>SY JD tG (wn 0)<|wn 1) ?_;rintro B R ⟨sd,d,rfl,hd,l,q⟩;cases d with
 |dict Y=>exact⟨hd,q _⟩
 |int i=>exact q _
 |bool b=>exact q _
 |none=>exact q _
 |str x=>exact q _
 |list g=>exact q _
 |tuple g =>
  refine RZ (λh=>?_)<|λh=>?_
  .have h:¬(g.length:Int)=2:=by simpa using h
   rw[nB<|by lia]at q;exact q _
  .have h:(g.length:Int)=2:=by simpa using h
   obtain⟨a,b,rfl⟩:∃a b,g=[a,b]:=by
    rcases g with _|⟨a,_|⟨b,_|⟨c,g⟩⟩⟩
    .simp at h
    .simp at h
    .exact⟨a,b,Z⟩
    .simp at h;lia
   have G:WH a=Ep/\WH b=true:=by simpa [WH,okAll]using hd
   refine⟨a,Z,sd,a,Z,G.1,l,λo=>?_⟩;cases t:OK sd a with
   |false =>
    have e:eW sd (.tuple [a,b])=false:=by simp[eW,t]
    rw[e]at q;exact q _
   |true =>
    refine⟨b,Z,sd,b,Z,G.2,l,λo=>?_⟩;cases v:OK sd b with
    |false =>
     have e:eW sd (.tuple [a,b])=false:=by simp[eW,v]
     rw[e]at q;exact q _
    |true =>
     obtain⟨ns,rfl,L⟩:=xK t;obtain⟨j,rfl,ir⟩:=xK v;have y:=oJ ns j;refine⟨tupD ns,Z,tupD j,Z,by rw[y,l0,U1];exact WX<|K0 (t7 _ _)<|le_of_eq_of_le L l,sJ Yc ?_ ?_⟩
     .intro d pi N hN;rw[y]at pi;obtain⟨⟨a,b⟩,_,rfl⟩:=v0.mp pi;exact⟨Z,hN⟩
     .rw[y,A0];refine⟨(ns.zip j).map λp=>decide<|p.1<=p.2,by rw[A0];rfl,?_⟩;have e:eW sd (.tuple [tupD ns,tupD j])=((ns.zip j).map λp=>decide<|p.1<=p.2).all id:=by
       simp only[eW,t,v,Bool.true_and];show rP ((ns.map n0).map unI) ((j.map n0).map unI)=_;rw[KJ,KJ];rfl
      rw[<-e];exact q _
theorem ZK(f:α->β):∀(b a:List (List α)),(mZ a b).map (Y4 f)=mZ (a.map<|Y4 f) (b.map<|Y4 f)
 |[],a=>rfl
 |c::b,a=>by show (mZ (a.flatMap λp=>c.map λx=>p++[x]) b).map (Y4 f)=mZ ((a.map<|Y4 f).flatMap λp=>(c.map f).map λx=>p++[x]) (b.map<|Y4 f);rw[ZK f b];congr 1;rw[rQ,List.flatMap_map];congr 1;funext p;simp[A0,Function.comp_def]
def yq:Con:=λa Q=>∃b:List (Rt),a=[.fz<|.list<|b.map P2]/\(∀c∈b,c≠[])/\TZ b<=1000/\b.length<=1000/\∀o,Q (.ow<|.list<|(mZ [[]] b).map K1) o
theorem ZI(F:Rr K "one_of_each" (top 6) f fd):FnOk P w K mg base mJ 1 f fd ["choices"] (QX K yq):=by
 have S:FnScope ["choices","chosen","things","longer","ahead","thing"] ["choices"] (SX<|top 6):={};refine IJ F S (λke A outer s H E hr=>RX (tZ 1<|WZ<|TX<|DZ cK)<|RX (aW [2,3,4] (CZ rfl<|wv 0) (HZ 2)<|RX (tZ 3<|WZ cK)<|RX (aW [4,5] (CZ rfl<|wv 1) (HZ 4)<|AZ<|aW [5] (CZ rfl<|wv 2) (HZ 5)<|AZ<|nK<|uu wK Z PySem.F.slot_list_append PySem.F.type_list_append vK (wn 3)<|TX<|JJ (wn 4)<|wx<|DZ<|TX<|wv 5)<|AZ<|RV (i:=1) S.nd Z (Or.inl Z)<|wn 3)<|mG 1) ?_;rintro args Qd ⟨m,rfl,mf,je,cf,q⟩;refine YJ (λrest ρ=>∃(b e:List (Rt)),ρ=[Zt<|.list<|m.map P2,Yt<|.list<|b.map K1,U,U,U,U]/\rest=e.map P2/\(∀c∈e,c≠[])/\b.length*TZ e=TZ m/\mZ b e=mZ [[]] m/\(∀p∈b,p.length+e.length<=1000)) ?_ ?_
  ⟨[[]],m,Z,Z,mf,by simp,Z,λp y=>by simp at y;subst y;simpa using cf⟩
 .rintro d ds ρ ⟨b,e,rfl,k,qp,t,B,G⟩ N hN;cases e with
  |nil=>cases k
  |cons c e =>
   cases k;have zi:∀c∈e,c≠[]:=λc v=>qp c<|q0 _ v;have mm:=bW zi;have htot:(b.flatMap λp=>c.map λx=>p++[x]).length<=1000:=by rw[sV];have h1:b.length*(c.length*TZ e)=TZ m:=t;rw[<-cQ]at h1;have:b.length*c.length<=b.length*c.length*TZ e:=yQ _ mm;exact K0 this<|le_of_eq_of_le h1 je
   refine YJ (λrest ρ=>∃(l j:List (Rt)),ρ=[Zt<|.list<|m.map P2,Zt<|.list<|b.map K1,Zt<|.list c,Yt<|.list<|l.map K1,U,U]/\rest=j.map K1/\(l++j.flatMap λp=>c.map λx=>p++[x])=(b.flatMap λp=>c.map λx=>p++[x])/\(∀p∈j,p∈b)) ?_ ?_
    ⟨[],b,Z,Z,Z,λp y=>y⟩
   .rintro d ds ρ ⟨l,j,rfl,k,C,R⟩ M hM;cases j with
    |nil=>cases k
    |cons p j =>
     cases k;have Y:=G p<|R p G0;have im:l.length+c.length<=1000:=by
      have:=Ae W5 C;rw[T0,Y2,T0,l0]at this
      lia
     refine YJ (λrest ρ=>∃(g:Rt),c=g++rest/\ρ=[Zt<|.list<|m.map P2,Zt<|.list<|b.map K1,Zt<|.list c,Yt<|.list<|(l++g.map λx=>p++[x]).map K1,Zt<|.tuple p,U]) ?_ ?_
      ⟨[],Z,by simp;rfl⟩
     .rintro x ds' ρ ⟨g,v,rfl⟩ L hL;refine⟨by simp at Y ⊢;exact WX<|by lia,by rw[l0,T0,l0];have:=Ae W5 v;simp at this;exact u0 (show _<1000 by lia)<|by decide,?_⟩;refine hL _ ⟨g++[x],by rw[v];simp,?_⟩;have e1:((l++g.map λx=>p++[x]).map K1)++[K1<|p++[x]]=((l++(g++[x]).map λx=>p++[x]).map K1):=by simp
      rw[<-e1];rfl
     .rintro ρ ⟨g,v,rfl⟩;rw[E2]at v;subst v;exact hM _ ⟨l++c.map λx=>p++[x],j,Z,Z,by rw[V2,<-C,Y2],λp' vm=>R p'<|q0 _ vm⟩
   .rintro ρ ⟨l,j,rfl,k,C,R⟩;cases j with
    |cons p j=>cases k
    |nil =>
     rw[sQ,E2]at C;refine hN _ ⟨b.flatMap λp=>c.map λx=>p++[x],e,by rw[C];rfl,Z,zi,?_,B,λp y=>?_⟩
     .rw[sV,cQ];exact t
     .obtain⟨p',vm,hx⟩:=i5.mp y;obtain⟨x,_,rfl⟩:=v0.mp hx;have:=G p' vm;simp at this ⊢
      lia
 .rintro ρ ⟨b,e,rfl,k,qp,t,B,G⟩;cases e with
  |cons a e=>cases k
  |nil=>have B:b=mZ [[]] m:=B;rw[B];exact q _
variable (P w K mg base) in
structure CalsBt:Prop where
 Yo:Cal P w K mg base 1 "one_of_each" ["choices"] (QX K yq)
def aL:Con:=λb Q=>∃a c:Qo,b=[.fz<|tupD a,.fz<|tupD c]/\a.length=c.length/\a.length<=3/\(∀p∈a.zip c,0<=p.1/\p.1<=p.2/\p.2<=1000)/\TZ ((a.zip c).map λp=>UZ p.1 p.2)<=1000/\∀o,Q (.ow<|.list<|(xU a c).map tupD) o
theorem sP(F:Rr K "places_between" (top 7) f fd)(T:Txt mg)(C:CalsBt P w K mg base):FnOk P w K mg base mJ 2 f fd ["low","high"] (QX K aL):=by
 have S:FnScope ["low","high"] ["low","high"] (SX<|top 7):={};refine IJ F S (λke A outer s H E t=>sZ<|dZ C.Yo t.m<|TX<|NF ["first","last"] [] (MK Z T.Xo<|hZ 0<|aZ 1) (λ_ _ _ _=>pK Z rfl<|lZ (HZ 0)<|lZ (HZ 1) EJ)<|λ_ _ _ _=>X_ Z T.Zr T.Xs<|hZ 0<|TX<|JJ (wn 1) UX) ?_;rintro j Qd ⟨e,g,rfl,hl,h3,k,v,q⟩;have x:(tW (e.map n0)<|g.map n0).length<=sizeLine:=by rw[oJ,l0,U1];exact WX (by lia)
 refine⟨x,sJ (λd=>match d with | .tuple [.int a,.int b]=>.list (wZ a (b+1-a).toNat)|_=>.none) ?_ ?_⟩
 .intro d hd N hN;rw[oJ]at hd;obtain⟨⟨a,b⟩,i,rfl⟩:=v0.mp hd;have y:=k _ i;simp only at y;exact⟨Z,⟨by lia,by lia,by lia,by lia⟩,by lia,hN⟩
 .have B:(tW (e.map n0)<|g.map n0).map (λd=>match d with | .tuple [.int a,.int b]=>P2 (wZ a (b+1-a).toNat)|_=>.none)=(((e.zip g).map λp=>UZ p.1 p.2).map<|Y4 n0).map P2:=by
   rw[oJ,A0,A0,A0];refine A1 λp _=>?_;simp[vq]
  rw[B];have G:TZ (((e.zip g).map λp=>UZ p.1 p.2).map<|Y4 n0)=TZ ((e.zip g).map λp=>UZ p.1 p.2):=by
   generalize (e.zip g).map (λp=>UZ p.1 p.2)=l;induction l with
   |nil=>rfl
   |cons c l L=>simp[TZ,L]
  refine⟨((e.zip g).map λp=>UZ p.1 p.2).map<|Y4 n0,Z,?_,by rw[G];exact v,by simp;omega,λo=>?_⟩
  .intro c M;obtain⟨c',R,rfl⟩:=v0.mp M;obtain⟨p,i,rfl⟩:=v0.mp R;have:=k p i;intro z;have:=Ae W5 z;simp[UZ]at this
   lia
  .have Y:(mZ [[]]<|((e.zip g).map λp=>UZ p.1 p.2).map<|Y4 n0).map K1=(xU e g).map tupD:=by
    have:=ZK n0 ((e.zip g).map λp=>UZ p.1 p.2) [[]];simp only[G2,E9]at this;rw[<-this,A0];rfl
   rw[Y];exact q _
def uj:Con:=λa Q=>∃sd b:Qo,a=[.fz<|tupD sd,.fz<|tupD b]/\sd.length<=1000/\(∀s∈sd,0<=s/\s<2 ^ 64)/\∀o,Q (.fz<|.int<|VG sd b) o
theorem qB(F:Rr K "index_of" (top 8) f fd)(T:Txt mg):FnOk P w K mg base mJ 1 f fd ["sides","place"] (QX K uj):=by
 have S:FnScope ["sides","place","index","side","number"] ["sides","place"] (SX<|top 8):={};refine IJ F S (λl A outer s H E m=>RX (tZ 2 yZ)<|RX (aW [3,4] (MK Z T.Xo<|hZ 0<|aZ 1) (pK Z rfl<|lZ (HZ 3)<|lZ (HZ 4) EJ)<|AZ<|tZ 2<|JJ (wx<|rq (wn 2)<|wn 3)<|wn 4)<|mG 2) ?_;rintro g t ⟨sd,b,rfl,hl,j,q⟩;refine YJ (λrest ρ=>∃(i:Int) (a:Ot),ρ=[Zt<|tupD sd,Zt<|tupD b,Zt<|.int i,U,U]/\rest=a.map (λp=>K1 [.int p.1,.int p.2])/\(∀p∈a,p∈sd.zip b)/\a.foldl (λi p=>i*p.1+p.2) i=VG sd b) ?_ ?_
  ⟨0,sd.zip b,Z,oJ _ _,λ_ h=>h,Z⟩
 .rintro d v ρ ⟨i,a,rfl,c,e,hf⟩ N hN;cases a with
  |nil=>cases c
  |cons p a=>cases c;have k:=j p.1 (v6<|e p G0).1;exact⟨Z,.inr ⟨by lia,k.2⟩,hN _ ⟨i*p.1+p.2,a,Z,Z,λx hx=>e x<|q0 _ hx,hf⟩⟩
 .rintro ρ ⟨i,a,rfl,c,e,hf⟩;cases a with
  |nil=>have hf:i=VG sd b:=hf;subst hf;exact q _
  |cons _ _=>cases c
noncomputable def Bx:Qo->Qo->Qo->Prop
 |[],[],[]=>True
 |x::lo,y::hi,s::sd=>(0<=x/\x<=y/\y<s)/\Bx lo hi sd
 |_,_,_=>Fo
noncomputable abbrev tP(lo hi:Qo):Od:=.tuple [tupD lo,tupD hi]
theorem FJ:∀{lo hi sd:Qo},Bx lo hi sd->lo.length=sd.length/\hi.length=sd.length
 |[],[],[],_=>⟨Z,Z⟩
 |x::lo,y::hi,s::sd,h=>by have:=FJ h.2;simp[this.1,this.2]
 |[],[],_::_,h=>h.elim
 |[],_::_,z,h=>by cases z<;>exact h.elim
 |_::_,[],z,h=>by cases z<;>exact h.elim
 |_::_,_::_,[],h=>h.elim
theorem rB:∀{lo hi sd:Qo},Bx lo hi sd->Yq (lo.map n0) sd=Ep/\Yq (hi.map n0) sd=Ep/\rP lo hi=Ep
 |[],[],[],_=>⟨Z,Z,Z⟩
 |x::lo,y::hi,s::sd,h=>by
  obtain⟨a,b,c⟩:=rB h.2;have hx:=h.1;refine⟨?_,?_,?_⟩
  .simp only[G2,Yq,mB,a,F7,J1,decide_eq_true_eq];exact⟨hx.1,X3 hx.2.1 hx.2.2⟩
  .simp only[G2,Yq,mB,b,F7,J1,decide_eq_true_eq];exact⟨Y1 hx.1 hx.2.1,hx.2.2⟩
  .have e:rP (x::lo) (y::hi)=(Es (x<=y)&&rP lo hi):=by simp[rP]
   rw[e,c,F7,decide_eq_true_eq];exact hx.2.1
 |[],[],_::_,h=>h.elim
 |[],_::_,z,h=>by cases z<;>exact h.elim
 |_::_,[],z,h=>by cases z<;>exact h.elim
 |_::_,_::_,[],h=>h.elim
theorem ak{sd:Qo}(h:Bx lo hi sd):eW sd (tP lo hi)=true:=by
 obtain⟨a,b,c⟩:=rB h;obtain⟨d,e⟩:=FJ h;have g:OK sd (tupD lo)=true:=by show (Es ((lo.map n0).length=sd.length)&&Yq (lo.map n0) sd)=Ep;rw[l0,a,F7];exact Pd d
 have i:OK sd (tupD hi)=true:=by show (Es ((hi.map n0).length=sd.length)&&Yq (hi.map n0) sd)=Ep;rw[l0,b,F7];exact Pd e
 show (OK sd (tupD lo)&&OK sd (tupD hi)&&rP ((lo.map n0).map unI) ((hi.map n0).map unI))=Ep;rw[g,i,KJ,KJ,c];rfl
theorem vV(p:Qo):WH (tupD p)=true:=dW λd hd=>by obtain⟨i,_,rfl⟩:=v0.mp hd;rfl
theorem sB(lo hi:Qo):WH (tP lo hi)=true:=by show (WH (tupD lo)&&(WH (tupD hi)&&Ep))=Ep;rw[vV,vV];rfl
theorem ck:∀{lo hi sd:Qo}{x y s:Int},Bx lo hi sd->0<=x->x<=y->y<s->Bx (lo++[x]) (hi++[y]) (sd++[s])
 |[],[],[],_,_,_,_,d,e,g=>⟨⟨d,e,g⟩,trivial⟩
 |a::lo,b::hi,c::sd,_,_,_,h,d,e,g=>⟨h.1,ck h.2 d e g⟩
 |[],[],_::_,_,_,_,h,_,_,_=>h.elim
 |[],_::_,z,_,_,_,h,_,_,_=>by cases z<;>exact h.elim
 |_::_,[],z,_,_,_,h,_,_,_=>by cases z<;>exact h.elim
 |_::_,_::_,[],_,_,_,h,_,_,_=>h.elim
theorem fk:∀{lo hi sd:Qo},Bx lo hi sd->1<=sd.length->∃ls c d a b s,lo=ls++[a]/\hi=c++[b]/\sd=d++[s]/\Bx ls c d/\0<=a/\a<=b/\b<s
 |[],[],[],_,h=>by simp at h
 |x::lo,y::hi,s::sd,h,_=>by
  cases sd with
  |nil =>
   cases lo with
   |nil =>
    cases hi with
    |nil=>exact⟨[],[],[],x,y,s,Z,Z,Z,trivial,h.1⟩
    |cons _ _=>exact h.2.elim
   |cons _ _=>cases hi<;>exact h.2.elim
  |cons e sd=>obtain⟨ls,c,d,a,b,t,g,i,j,k,l⟩:=fk (sd:=e::sd) h.2 (by simp);exact⟨x::ls,y::c,s::d,a,b,t,by rw[g];rfl,by rw[i];rfl,by rw[j];rfl,⟨h.1,k⟩,l⟩
 |[],[],_::_,h,_=>h.elim
 |[],_::_,z,h,_=>by cases z<;>exact h.elim
 |_::_,[],z,h,_=>by cases z<;>exact h.elim
 |_::_,_::_,[],h,_=>h.elim
theorem HH{a b x:Int}(h:x∈UZ a b):a<=x/\x<=b:=by
 unfold UZ at h;obtain⟨n,c,rfl⟩:=v0.mp h;have:=V4.mp c
 lia
theorem uB:∀{lo hi sd p:Qo},Bx lo hi sd->lU p ((lo.zip hi).map λq=>UZ q.1 q.2)->Wi p sd
 |[],[],[],[],_,_=>trivial
 |[],[],[],_::_,_,h=>h.elim
 |x::lo,y::hi,s::sd,[],_,h=>h.elim
 |x::lo,y::hi,s::sd,z::p,h,k=>by have:=HH k.1;have hx:=h.1;simp only at this;exact⟨⟨Y1 hx.1 this.1,X3 this.2 hx.2.2⟩,uB h.2 k.2⟩
 |[],[],_::_,_,h,_=>h.elim
 |[],_::_,z,_,h,_=>by cases z<;>exact h.elim
 |_::_,[],z,_,h,_=>by cases z<;>exact h.elim
 |_::_,_::_,[],_,h,_=>h.elim
theorem vB{sd p:Qo}(h:Bx lo hi sd)(a:p∈xU lo hi):Wi p sd:=uB h<|YZ a
theorem pW:∀{lo hi sd:Qo},Bx lo hi sd->∀p∈lo.zip hi,0<=p.1/\p.1<=p.2/\∃s∈sd,p.2<s
 |[],[],[],_,p,a=>by simp at a
 |x::lo,y::hi,s::sd,h,p,a=>by
  rw[U2]at a;rcases R0.mp a with rfl|a
  .exact⟨h.1.1,h.1.2.1,s,G0,h.1.2.2⟩
  .obtain⟨b,c,t,d,e⟩:=pW h.2 p a;exact⟨b,c,t,q0 _ d,e⟩
 |[],[],_::_,h,_,_=>h.elim
 |[],_::_,z,h,_,_=>by cases z<;>exact h.elim
 |_::_,[],z,h,_,_=>by cases z<;>exact h.elim
 |_::_,_::_,[],h,_,_=>h.elim
theorem PF:∀{lo hi sd:Qo},Bx lo hi sd->(TZ ((lo.zip hi).map λq=>UZ q.1 q.2):Int)<=vZ sd/\1<=vZ sd
 |[],[],[],_=>by simp[TZ,vZ]
 |x::lo,y::hi,s::sd,h=>by
  obtain⟨a,b⟩:=PF h.2;have hx:=h.1;show (((UZ x y).length*TZ ((lo.zip hi).map λq=>UZ q.1 q.2):Nat):Int)<=s*vZ sd/\1<=s*vZ sd;rw[xq,w8];refine⟨N6 (by omega) a (G3 _)<|by lia,?_⟩;have:=N6 (show (1:Int)<=s by lia) b (by decide) (by omega)
  lia
 |[],[],_::_,h=>h.elim
 |[],_::_,z,h=>by cases z<;>exact h.elim
 |_::_,[],z,h=>by cases z<;>exact h.elim
 |_::_,_::_,[],h=>h.elim
theorem IH(c:List α):∀(b a:List (List α)),mZ a (b++[c])=(mZ a b).flatMap λp=>c.map λx=>p++[x]
 |[],a=>rfl
 |d::b,a=>IH c b _
theorem wB{ls c:Qo}(a b:Int)(h:ls.length=c.length):xU (ls++[a]) (c++[b])=(xU ls c).flatMap λp=>(UZ a b).map λx=>p++[x]:=by unfold xU;rw[PQ h,u4];exact IH _ _ _
theorem wV{a p:Qo}(s x:Int)(h:p.length=a.length):VG (a++[s]) (p++[x])=VG a p*s+x:=by unfold VG;rw[PQ h.symm,List.foldl_append];rfl
theorem vj{sd p:Qo}(h:Wi p sd):0<=VG sd p/\VG sd p<vZ sd:=by have:=sM h (N7 0) (by decide:(0:Int)<1);rw[dX]at this;exact this
theorem QF:∀{p c:Qo}{x s:Int},Wi p c->0<=x->x<s->Wi (p++[x]) (c++[s])
 |[],[],_,_,_,a,b=>⟨⟨a,b⟩,trivial⟩
 |_::_,_::_,_,_,h,a,b=>⟨h.1,QF h.2 a b⟩
 |[],_::_,_,_,h,_,_=>h.elim
 |_::_,[],_,_,h,_,_=>h.elim
noncomputable def jZ(sd cl lo hi:Qo):Qo:=(xU lo hi).map<|cel sd cl
noncomputable def mU(sd cl:Qo)(a b:Int)(p:Qo):Qo:=(UZ a b).map λx=>cel sd cl<|p++[x]
theorem xB{st:Nat}(h:st+n<=cl.length):(cl.take<|st+n).drop st=(S1 n).map λj=>cl.getD (st+j) 0:=by refine L7 (by simp;lia) λj b a=>?_;simp at b a;rw[P8,Q8,List.getElem_map,List.getElem_range,G1,L0<|u0 (Z4 a _) h];rfl
theorem bL{c p:Qo}{a b s:Int}(m:(cl.length:Int)=vZ (c++[s]))(d:Wi p c)(h0:0<=a)(g:a<=b)(i:b<s):0<=VG (c++[s]) (p++[a])/\0<=VG (c++[s]) (p++[a])+(b-a+1)/\((cl.map n0).take (VG (c++[s]) (p++[a])+(b-a+1)).toNat).drop (VG (c++[s])<|p++[a]).toNat=(mU (c++[s]) cl a b p).map n0:=by
 have hl:=cW d;have e:=vj<|QF d h0 (by lia:a<s);have g2:=vj<|QF d (by lia:0<=b) i;have q:VG (c++[s]) (p++[b])=VG (c++[s]) (p++[a])+(b-a):=by rw[wV s b hl,wV s a hl];lia
 have ex:∀x,VG (c++[s]) (p++[x])=VG (c++[s]) (p++[a])+(x-a):=λx=>by rw[wV s x hl,wV s a hl];lia
 unfold mU cel;generalize VG (c++[s]) (p++[a])=st at *;refine⟨e.1,by lia,?_⟩;obtain⟨k,rfl⟩:=j5 e.1;obtain⟨n,l⟩:=j5 (show 0<=b-a+1 by exact M8<|Q2 g);rw[l,show ((k:Int)+(n:Int)).toNat=k+n by rfl,A7,<-bQ,<-List.map_drop,xB<|by lia];congr 1;unfold UZ;rw[show b+1-a=(n:Int) by lia,A7,A0];refine A1 λj _=>?_;show _=cl.getD (VG (c++[s])<|p++[a+(j:Int)]).toNat 0;rw[ex];congr 1
 lia
theorem jv{d ls c:Qo}{a b s:Int}(h:ls.length=c.length):jZ (d++[s]) cl (ls++[a]) (c++[b])=(xU ls c).flatMap (mU (d++[s]) cl a b):=by unfold jZ mU;rw[wB a b h,rQ];congr 1;funext p;rw[A0];rfl
theorem XG(a:Qo)(z:Int):(((a++[z]).map n0).take<|if (-1:Int)<0 then ((-1:Int)+(((a++[z]).map n0).length:Nat)).toNat else (-1:Int).toNat)=a.map n0:=by rw[Jd<|by decide,l0,T0,Y5,show ((-1:Int)+((a.length+1:Nat):Int)).toNat=a.length by lia,u4,List.take_append_of_le_length (by rw[l0];exact P0 _),K3<|by rw[l0];exact P0 _]
theorem nU(a:Qo)(z:Int):if (-1:Int)<0 then 1<=((a++[z]).map n0).length else (-1:Int)<(((a++[z]).map n0).length:Nat):=by rw[Jd<|by decide,l0,T0,Y5];exact X2 _ _
theorem RF(a:Qo)(z:Int):vW ((a++[z]).map n0) (-1)=O (.int z):=by unfold vW oz;rw[Gd<|by decide,l0,T0,Y5,Jd<|by lia];show ((a++[z]).map n0)[((-1:Int)+((a.length+1:Nat):Int)).toNat]?=_;rw[show ((-1:Int)+((a.length+1:Nat):Int)).toNat=a.length by omega];simp
theorem gk{α β:Type}{f:α->List β}{c:Nat}:∀{l:List α},(∀p∈l,(f p).length<=c)->(l.flatMap f).length<=l.length*c
 |[],_=>by simp
 |p::l,h=>by
  have b:=h p G0;have d:=gk (l:=l) λq a=>h q<|q0 _ a;rw[Y2,T0,J2,AQ]
  lia
variable (P w K mg base) in
structure CalsAk:Prop where
 Yp:Cal P w K mg base 4 "is_box" ["sides","thing"] (QX K tj)
def FT:Con:=λa Q=>∃(sd:Qo) (d:Od),a=[.fz<|tupD sd,.fz d]/\WH d=Ep/\sd.length<=1000/\eW sd d=Ep/\∀o,Q (.fz .none) o
theorem uP(F:Rr K "ask_for_box" (top 14) f fd)(C:CalsAk P w K mg base):FnOk P w K mg base mJ 5 f fd ["sides","thing"] (QX K FT):=by have S:FnScope ["sides","thing"] ["sides","thing"] (SX<|top 14):={};refine IJ F S (λg A outer s H E b=>AZ<|lJ (ZJ<|NJ<|dZ C.Yp b.m<|hZ 0<|aZ 1) (AZ iI) GZ) ?_;rintro a i ⟨sd,d,rfl,hd,c,e,q⟩;refine⟨sd,d,Z,hd,c,λo=>?_⟩;rw[e];exact q _
variable (P w K mg base) in
structure CalsCi:Prop where
 Yr:Cal P w K mg base 5 "ask_for_box" ["sides","thing"] (QX K FT)
 Ys:Cal P w K mg base 2 "places_between" ["low","high"] (QX K aL)
 Wo:Cal P w K mg base 1 "index_of" ["sides","place"] (QX K uj)
def SF:Con:=λa Q=>∃(sd cl lo hi:Qo),a=[.fz<|dJ sd cl,.fz<|tP lo hi]/\Sd sd/\cl.length=(tJ sd).length/\Bx lo hi sd/\∀o,Q (.ow<|.list<|(jZ sd cl lo hi).map n0) o
theorem yB(F:Rr K "cells_in" (top 25) f fd)(T:Txt mg)(C:CalsCi P w K mg base):FnOk P w K mg base mJ 6 f fd ["field","box"] (QX K SF):=by
 have S:FnScope ["field","box","sides","low","high","length","found","line","start"] ["field","box"] (SX<|top 25):={};refine IJ F S (λke A outer s H E L=>RX (tZ 2<|ZX (wn 0) UX)<|RX (nK<|dZ C.Yr L.m<|hZ 2<|aZ 1)<|RX (tZ 3<|ZX (wn 1) UX)<|RX (tZ 4<|ZX (wn 1) UX)<|RX (tZ 5<|JJ (wx<|WK (wx<|ZX (wn 4)<|wx<|mH UX)<|wx<|ZX (wn 3)<|wx<|mH UX) UX)<|RX (tZ 6<|WZ cK)<|RX (aW [7,8] (CZ rfl<|dZ C.Ys L.m<|iZ (yu Z (wn 3)<|wx<|mH UX)<|TX<|yu Z (wn 4)<|wx<|mH UX) (HZ 7)<|RX (tZ 8<|dZ C.Wo L.m<|hZ 2<|TX<|JJ (wn 7)<|wx<|DZ<|TX<|ZX (wn 3)<|wx<|mH UX)<|AZ<|nK<|uu Uz Z PySem.F.slot_list_extend PySem.F.type_list_extend Tz (wn 6)<|TX<|bP Z (wx<|ZX (wn 0) UX) (wn 8)<|wx<|JJ (wn 8)<|wn 5)<|mG 6) ?_;rintro Y Qd ⟨sd,cl,lo,hi,rfl,i,cf,hb,q⟩;have h3:=i.l3;have hm:=i.m;have ye:=xY i.p;refine⟨_,Z,?_⟩;refine⟨sd,_,Z,sB lo hi,by lia,ak hb,λ_=>?_⟩;refine⟨_,Z,_,Z,?_⟩;obtain⟨ls,j,e,a,b,s,rfl,rfl,rfl,g,h0,h1,h2⟩:=fk hb i.l1;obtain⟨bl1,bl2⟩:=FJ g;have hss:e.length<=2:=by simp at h3;omega
 have mm:=PF g;have pp:vZ e<=120:=by
  have:vZ (e++[s])=vZ e*(s*1):=OF e [s];rw[Int.mul_one]at this;have:=t9 (show (1:Int)<=s by exact X3 h0<|X3 h1 h2) (show 0<=vZ e by exact X1 mm.2)
  lia
 have ui:s<=120:=by have:=OZ i.p s (by simp);exact Y1 this hm
 refine⟨_,RF j b,_,RF ls a,?_⟩;refine⟨nU ls a,nU j b,ls,j,by rw[XG,XG];rfl,by lia,by lia,λp B=>?_,by lia,λ_=>?_⟩
 .obtain⟨M,g2,t,ht,g3⟩:=pW g p B;have:=OZ i.p t (by simp[ht])
  lia
 have x:(cl.length:Int)=vZ (e++[s]):=by lia
 have hnb:(xU ls j).length<=120:=by unfold xU;rw[IZ];have:=mm.1;simp;exact G8.1<|Y1 this pp
 refine YJ (λrest ρ=>∃(dn k:List Qo),xU ls j=dn++k/\rest=k.map tupD/\ρ=[Zt<|dJ (e++[s]) cl,Zt<|tP (ls++[a])<|j++[b],Zt<|tupD<|e++[s],Zt<|tupD<|ls++[a],Zt<|tupD<|j++[b],Zt<|.int<|b-a+1,Yt<|.list<|(dn.flatMap<|mU (e++[s]) cl a b).map n0,U,U]) ?_ ?_ ⟨[],xU ls j,Z,Z,Z⟩
 .rintro d ds ρ ⟨dn,k,v,G,rfl⟩ N hN;cases k with
  |nil=>cases G
  |cons p k =>
   cases G;have B:Wi p e:=vB g (by rw[v];simp);have hpl2:=cW B;obtain⟨z1,z2,z3⟩:=bL x B h0 h1 h2;have y:∀p:Qo,(mU (e++[s]) cl a b p).length<=120:=λp=>by unfold mU;rw[l0,xq];lia
   have R:dn.length<=120:=by have:=Ae W5 v;simp at this;lia
   refine⟨_,RF ls a,by rw[l0];simp;exact WX<|by lia,e++[s],p++[a],by rw[show tupD (p++[a])=.tuple (p.map n0++[.int a]) by show K1 _=_;rw[u4];rfl];rfl,by simp;lia,λc hc=>?_,λ_=>?_⟩
   .have M:=i.p c hc;have g2:=OZ i.p c hc;exact⟨by exact X1 M,X3 (show c<=120 by exact Y1 g2 hm)<|by decide⟩
   refine⟨_,Z,z1,z2,?_⟩;rw[z3];refine⟨?_,?_⟩
   .rw[l0,l0];have M:=gk (l:=dn) (f:=mU (e++[s]) cl a b) (c:=120) λp _=>y p;have g2:=y p;have:dn.length*120<=120*120:=nX _ R;exact K0 (show _<=20000 by lia) (by decide)
   .refine hN _ ⟨dn++[p],k,by rw[v];simp,Z,?_⟩;rw[rX,u4,List.flatMap_singleton];rfl
 .rintro ρ ⟨dn,k,v,G,rfl⟩;cases k with
  |cons _ _=>cases G
  |nil=>rw[E2]at v;have:=q;rw[jv<|by omega,v]at this;exact this _
def iR(c:Int):Prop:=-(10 ^ 27)<c/\c<10 ^ 27
noncomputable def LeP:Qo->Qo->Prop
 |[],[]=>True
 |c::a,m::b=>(1<=c/\c<=m)/\LeP a b
 |_,_=>Fo
theorem LeP.snoc:∀{d e:Qo}{c m:Int},LeP d e->1<=c->c<=m->LeP (d++[c]) (e++[m])
 |[],[],_,_,_,a,b=>⟨⟨a,b⟩,trivial⟩
 |_::_,_::_,_,_,h,a,b=>⟨h.1,LeP.snoc h.2 a b⟩
 |[],_::_,_,_,h,_,_=>h.elim
 |_::_,[],_,_,h,_,_=>h.elim
theorem LeP.len:∀{a b:Qo},LeP a b->a.length=b.length
 |[],[],_=>rfl
 |_::_,_::_,h=>by simp[LeP.len h.2]
 |[],_::_,h=>h.elim
 |_::_,[],h=>h.elim
theorem LeP.pos:∀{a b:Qo},LeP a b->∀c∈a,1<=c
 |[],[],_,_,d=>by cases d
 |c::a,m::b,h,x,hx=>by
  rcases R0.mp hx with z|z
  .subst z;exact h.1.1
  .exact LeP.pos h.2 x z
 |[],_::_,h,_,_=>h.elim
 |_::_,[],h,_,_=>h.elim
theorem LeP.prod:∀{a b:Qo},LeP a b->vZ a<=vZ b
 |[],[],_=>N7 _
 |c::a,m::b,h=>by have d:=LeP.prod h.2;have e:=YK<|LeP.pos h.2;show c*vZ a<=m*vZ b;exact N6 h.1.2 d (X1 e) (by have:=h.1.1;have:=h.1.2;lia)
 |[],_::_,h=>h.elim
 |_::_,[],h=>h.elim
structure Mst(ms:Qo):Prop where
 l1:1<=ms.length
 l3:ms.length<=3
 p:∀c∈ms,1<=c/\c<=120
 m:vZ ms<=120
theorem LeP.sd{cs b:Qo}(h:LeP cs b)(a:Mst b):Sd cs:=⟨by rw[h.len];exact a.l1,by rw[h.len];exact a.l3,h.pos,Y1 h.prod a.m⟩
theorem IT{r:Int}(c:0<=r)(d:r<2):∃a b:Qo,vW [P2<|[10,6].map n0,P2<|[2,30].map n0] r=O (.list<|a.map n0)/\Mst a/\vW [P2<|[4,4,4].map n0,P2<|[2,2,14].map n0] r=O (.list<|b.map n0)/\Mst b:=by
 rcases (show r=0\/r=1 by lia) with rfl|rfl
 .exact⟨[10,6],[4,4,4],Z,⟨by decide,by decide,by decide,by decide⟩,Z,⟨by decide,by decide,by decide,by decide⟩⟩
 .exact⟨[2,30],[2,2,14],Z,⟨by decide,by decide,by decide,by decide⟩,Z,⟨by decide,by decide,by decide,by decide⟩⟩
variable (P w K mg base) in
structure CalsB:Prop where
 Wp:Cal P w K mg base 1 "_law_take" ["_law_pen_here","_law_most"] (QX K Px)
def ik:Con:=λa Q=>∃(ns:Qo) (k l:Int),a=[.io<|NZ ns k l]/\0<=k/\0<=l/\∀(r b c:Int) (o:Ev),iR r->0<=b->0<=c->Q (.fz<|.int r) (O (.io<|NZ ns b c)::o)
theorem kv(F:Rr K "_law_number" (top 68) f fd)(T:Txt mg)(C:CalsB P w K mg base):FnOk P w K mg base mJ 2 f fd ["_law_pen_here"] (QX K ik):=by
 have S:FnScope ["_law_pen_here","_law_way"] ["_law_pen_here"] (SX<|top 68):={};refine IJ F S (λR A outer s H E c=>RX (tZ 1<|wJ C.Wp c.m<|hZ 0<|TX yZ)<|RX (lJ (YV c (wn 1) UX) (sZ<|rq (wx<|WK (wx<|WK (wx<|w_bin lu Xv UX UX) UX)<|wx<|wJ C.Wp c.m<|hZ 0<|TX yZ)<|wx<|WK UX<|wx<|rq UX<|wx<|wJ C.Wp c.m<|hZ 0<|TX yZ) GZ)<|RX (lJ (rJ lH PU (wn 1) UX) (sZ<|WK (wx<|wJ C.Wp c.m<|hZ 0<|TX yZ) UX) GZ)<|sZ<|WK (wx<|wJ C.Wp c.m<|hZ 0<|TX yZ) UX) ?_;rintro y Y ⟨ns,k,l,rfl,L,hl,q⟩;refine⟨ns,k,l,_,Z,L,hl,by decide,by decide,λr i l1 _ r0 r1 j t=>?_⟩;refine RZ (λh=>?_)<|λh=>?_
 .refine⟨⟨by decide,by decide,by decide⟩,?_⟩;refine⟨ns,i,l1,_,Z,j,t,by decide,by decide,λa v l2 _ B G d g=>?_⟩;refine⟨ns,v,l2,_,Z,d,g,by decide,by decide,λb k3 l3 _ b0 b1 x M=>?_⟩;refine⟨.inl ⟨by decide,by decide⟩,.inr ⟨by lia,by lia⟩,?_⟩;refine q _ _ _ _ ?_ x M;show iR ((10 ^ (27:Int).toNat-1-a)*(1-2*b));have e:(10:Int) ^ (27:Int).toNat=10 ^ 27:=rfl;rw[e];rcases (show b=0\/b=1 by lia) with rfl|rfl
  .exact⟨by lia,by lia⟩
  .exact⟨by lia,by lia⟩
 refine RZ (λh=>?_)<|λh=>?_
 .refine⟨ns,i,l1,_,Z,j,t,by decide,by decide,λa v l2 _ B G d g=>?_⟩;exact q _ _ _ _ ⟨by lia,by lia⟩ d g
 .refine⟨ns,i,l1,_,Z,j,t,by decide,by decide,λa v l2 _ B G d g=>?_⟩;exact q _ _ _ _ ⟨by lia,by lia⟩ d g
def zB:Con:=λa Q=>∃(ns:Qo) (k l:Int),a=[.io<|NZ ns k l]/\0<=k/\0<=l/\∀(sd:Qo) (b c:Int) (o:Ev),Sd sd->0<=b->0<=c->Q (.fz<|tupD sd) (O (.io<|NZ ns b c)::o)
theorem AB(F:Rr K "_law_sides" (top 69) f fd)(T:Txt mg)(C:CalsB P w K mg base):FnOk P w K mg base mJ 2 f fd ["_law_pen_here"] (QX K zB):=by
 have S:FnScope ["_law_pen_here","_law_most","_law_wide"] ["_law_pen_here"] (SX<|top 69):={};refine IJ F S (λke A outer s H E R=>RX (tZ 1<|ZX (wx<|WZ<|iZ (WZ<|TX yZ)<|iZ (WZ<|iZ yZ<|TX yZ)<|TX<|WZ<|iZ yZ<|iZ yZ<|TX yZ)<|wx<|wJ C.Wp R.m<|hZ 0<|TX yZ)<|RX (lJ (YV R (wx<|wJ C.Wp R.m<|hZ 0<|TX yZ) UX) (RX (tZ 2<|wJ C.Wp R.m<|hZ 0<|TX yZ)<|AZ<|tZ 1<|ZX (wx<|WZ<|iZ (WZ<|TX yZ)<|iZ (ZX (wx<|WZ<|iZ (WZ<|iZ yZ<|TX yZ)<|TX<|WZ<|iZ yZ<|TX yZ)<|wn 2)<|TX<|ZX (wx<|WZ<|iZ (WZ<|iZ yZ<|iZ yZ<|TX yZ)<|TX<|WZ<|iZ yZ<|iZ yZ<|TX yZ)<|wn 2)<|wx<|WK (wx<|WJ T.Qp<|aZ 1) UX) GZ)<|sZ<|uW T.Zs<|TX<|SJ ["_law_side"] [0] (CZ rfl<|wv 1)<|λ_ _ _ _=>JJ UX<|wx<|wJ C.Wp R.m<|hZ 1<|aZ 0) ?_;rintro args Qd ⟨ns,k,l,rfl,hk,hl,q⟩;with_reducible refine xZ (λρ=>∃(g:Qo) (i l1:Int),Mst g/\0<=i/\0<=l1/\ρ=[O<|.io<|NZ ns i l1,Zt<|.list<|g.map n0,U]) ?_ ?_
 .intro N hN;refine⟨ns,k,l,3,Z,hk,hl,by decide,by decide,λr i l1 _ r0 r1 Y df=>?_⟩;rcases (show r=0\/r=1\/r=2 by lia) with rfl|rfl|rfl
  .exact⟨.list<|[16].map n0,Z,hN _ ⟨[16],i,l1,⟨by decide,by decide,by decide,by decide⟩,Y,df,Z⟩⟩
  .exact⟨.list<|[6,5].map n0,Z,hN _ ⟨[6,5],i,l1,⟨by decide,by decide,by decide,by decide⟩,Y,df,Z⟩⟩
  .exact⟨.list<|[3,3,3].map n0,Z,hN _ ⟨[3,3,3],i,l1,⟨by decide,by decide,by decide,by decide⟩,Y,df,Z⟩⟩
 rintro _ ⟨g,i,l1,t,Y,df,rfl⟩;with_reducible refine xZ (λρ=>∃(g:Qo) (i l1:Int) (o2:Do Sl),Mst g/\0<=i/\0<=l1/\ρ=[O<|.io<|NZ ns i l1,Zt<|.list<|g.map n0,o2]) ?_ ?_
 .intro N hN;refine⟨ns,i,l1,8,Z,Y,df,by decide,by decide,λr k2 l2 _ r0 r1 zh ef=>?_⟩;refine RZ (λh=>?_)<|λh=>hN _ ⟨g,k2,l2,U,t,zh,ef,Z⟩;with_reducible refine xZ (λρ=>∃(wd:Int) (i l1:Int),0<=wd/\wd<2/\0<=i/\0<=l1/\ρ=[O<|.io<|NZ ns i l1,Zt<|.list<|g.map n0,Zt<|.int wd]) ?_ ?_
  .intro M hM';exact⟨ns,k2,l2,2,Z,zh,ef,by decide,by decide,λr k3 l3 _ r0 r1 v yn=>hM' _ ⟨r,k3,l3,r0,r1,v,yn,Z⟩⟩
  rintro _ ⟨wd,k3,l3,w0,w1,v,yn,rfl⟩;obtain⟨a,b,ha,hA,hb,hB⟩:=IT w0 w1;have hml:(g.map n0).length=g.length:=l0 _;have h1:=t.l1;have h3:=t.l3;refine⟨_,ha,_,hb,?_⟩;obtain⟨c,hc,hC⟩:∃c:Qo,vW [P2<|[120].map n0,.list<|a.map n0,.list<|b.map n0] (((g.map n0).length:Int)-1)=O (.list<|c.map n0)/\Mst c:=by
   rw[hml];rcases (show g.length=1\/g.length=2\/g.length=3 by lia) with e|e|e<;>rw[e]
   .exact⟨[120],Z,⟨by decide,by decide,by decide,by decide⟩⟩
   .exact⟨a,Z,hA⟩
   .exact⟨b,Z,hB⟩
  exact⟨_,hc,hN _ ⟨c,k3,l3,_,hC,v,yn,Z⟩⟩
 rintro _ ⟨g,k2,l2,o2,t,zh,ef,rfl⟩;have h3:=t.l3;refine⟨WX (by rw[l0];lia),HG (λrest y τ=>∃(dn j B:Qo) (G L:Int),g=dn++j/\rest=j.map n0/\y=B.map n0/\LeP B dn/\τ=[U,O<|.io<|NZ ns G L]/\0<=G/\0<=L) ?_ ?_ ⟨[],g,[],k2,l2,Z,Z,Z,trivial,Z,zh,ef⟩⟩
 .rintro d ds y τ ⟨dn,j,B,G,L,em,er,rfl,jh,rfl,fi,oi⟩ N' we;cases j with
  |nil=>cases er
  |cons m j=>cases er;have hm:=t.p m (by rw[em];simp);refine⟨ns,G,L,m,Z,fi,oi,hm.1,by lia,λx k5 l5 _ x0 x1 hk5 im=>?_⟩;exact we _ _ ⟨dn++[m],j,B++[1+x],k5,l5,by rw[em];simp,Z,by simp[Sl.d],jh.snoc (by lia)<|by lia,Z,hk5,im⟩
 .rintro y τ ⟨dn,j,B,G,L,em,er,rfl,jh,rfl,fi,oi⟩;cases j with
  |cons _ _=>cases er
  |nil=>rw[E2]at em;subst em;exact q B G L _ (jh.sd t) fi oi
def jk:Con:=λa Q=>∃sd:Qo,a=[.fz<|tupD sd]/\(∀c∈sd,1<=c)/\vZ sd<=1000/\sd.length<=3/\∀o,Q (.ow<|.list<|(tJ sd).map tupD) o
theorem lv(F:Rr K "_law_places" (top 70) f fd)(T:Txt mg):FnOk P w K mg base mJ 1 f fd ["_law_sides_here"] (QX K jk):=by
 have S:FnScope ["_law_sides_here","_law_found","_law_side","_law_longer","_law_place"] ["_law_sides_here"] (SX<|top 70):={};refine IJ F S (λke A outer s H E hr=>RX (tZ 1<|WZ<|TX<|DZ cK)<|RX (aW [2,3,4] (CZ rfl<|wv 0) (HZ 2)<|RX (tZ 3<|WZ cK)<|RX (aW [4] (CZ rfl<|wv 1) (HZ 4)<|AZ<|nK<|uu PV Z PySem.F.slot_list_extend PySem.F.type_list_extend GV (wn 3)<|TX<|SJ ["_law_number_here"] [4] (FW T.Xs<|aZ 2)<|λ_ _ _ _=>JJ (wn 1)<|wx<|DZ<|TX<|wv 0)<|AZ<|RV (i:=1) S.nd Z (Or.inl Z)<|wn 3)<|mG 1) ?_;rintro args Qd ⟨sd,rfl,j,hm,y,q⟩;with_reducible refine xZ (λρ=>ρ=[Zt<|tupD sd,Yt<|.list [.tuple []],U,U,U]) ?_ ?_
 .intro N hN;exact hN _ Z
 rintro _ rfl;with_reducible refine xZ (λρ=>ρ=[Zt<|tupD sd,Yt<|.list<|(tJ sd).map tupD,U,U,U]) ?_ ?_
 rotate_left
 .rintro _ rfl;exact q _
 intro NE hE;refine YJ (λrest ρ=>∃(b:List Qo) (e:Qo),ρ=[Zt<|tupD sd,Yt<|.list<|b.map tupD,U,U,U]/\rest=e.map n0/\(∀c∈e,1<=c)/\mZ b (e.map rng)=tJ sd/\(∀p∈b,p.length+e.length<=3)) ?_ ?_
  ⟨[[]],sd,Z,Z,j,Z,λp j=>by simp at j;subst j;simpa using y⟩
 .rintro d ds ρ ⟨b,e,rfl,k,m,t,B⟩ N hN;cases e with
  |nil=>cases k
  |cons a e =>
   cases k;have zg:=m a G0;have zi:∀c∈e,1<=c:=λc C=>m c<|q0 _ C;have mm:=bW (cs:=e.map rng) λc C=>by
    obtain⟨x,hx,rfl⟩:=v0.mp C;intro z;have:=Ae W5 z;rw[wY]at this;have:=zi x hx;simp at *
    lia
   have htot:(b.flatMap λp=>(rng a).map λx=>p++[x]).length<=1000:=by
    have h1:=IZ (e.map rng)<|b.flatMap λp=>(rng a).map λx=>p++[x];have h2:(mZ (b.flatMap λp=>(rng a).map λx=>p++[x])<|e.map rng)=tJ sd:=t;rw[h2]at h1;have y:=IZ (sd.map rng) [[]];have h4:=tV j;unfold tJ at h1;have:(b.flatMap λp=>(rng a).map λx=>p++[x]).length<=(b.flatMap λp=>(rng a).map λx=>p++[x]).length*TZ (e.map rng):=yQ _ mm;simp only[Y5,NX]at y
    lia
   refine YJ (λrest ρ=>∃(l g:List Qo),ρ=[Zt<|tupD sd,Zt<|.list<|b.map tupD,Zt<|.int a,Yt<|.list<|l.map tupD,U]/\rest=g.map tupD/\(l++g.flatMap λp=>(rng a).map λx=>p++[x])=(b.flatMap λp=>(rng a).map λx=>p++[x])/\(∀p∈g,p∈b)) ?_ ?_
    ⟨[],b,Z,Z,Z,λp j=>j⟩
   .rintro d ds ρ ⟨l,g,rfl,k,v,G⟩ M hM;cases g with
    |nil=>cases k
    |cons p g =>
     cases k;have ye:=B p<|G p G0;have L:l.length+(rng a).length<=1000:=by
      have:=Ae W5 v;rw[T0,Y2,T0,l0]at this
      lia
     have Y:a.toNat<=1000:=by rw[wY]at L;exact c6 L
     refine⟨by lia,by lia,by rw[wZ,l0,v5];exact WX Y,sJ (λd=>.tuple<|p.map n0++[d]) ?_ ?_⟩
     .rintro d hd R hR;exact⟨by simp only[l0,Y5];simp at ye;exact WX<|by lia,hR⟩
     .refine⟨by rw[l0,l0,wZ,l0,v5];rw[wY]at L;exact WX<|by omega,?_⟩;refine hM _ ⟨l++(rng a).map λx=>p++[x],g,?_,Z,by rw[V2,<-v,Y2],λp' vm=>G p'<|q0 _ vm⟩;have e1:(l.map tupD)++((wZ 0 a.toNat).map λd=>K1<|p.map n0++[d])=(l++(rng a).map λx=>p++[x]).map tupD:=by
       rw[DH,u4,A0,A0];congr 1;refine A1 λx _=>?_;simp[tupD]
      rw[<-e1];rfl
   .rintro ρ ⟨l,g,rfl,k,v,G⟩;cases g with
    |cons p g=>cases k
    |nil =>
     rw[sQ,E2]at v;refine hN _ ⟨b.flatMap λp=>(rng a).map λx=>p++[x],e,?_,Z,zi,t,λp j=>?_⟩
     .rw[v];rfl
     .obtain⟨p',vm,hx⟩:=i5.mp j;obtain⟨x,_,rfl⟩:=v0.mp hx;have:=B p' vm;simp at this ⊢
      lia
 .rintro ρ ⟨b,e,rfl,k,m,t,B⟩;cases e with
  |cons a e=>cases k
  |nil=>have t:b=tJ sd:=t;rw[t];exact hE _ Z
theorem YG{sd:Qo}(a:∀c∈sd,1<=c):(tJ sd).Nodup:=by
 rw[List.nodup_iff_pairwise_ne,B4];intro i j hi d l e;have b:=oj a (k:=i) (p:=(tJ sd)[i]) (by simp[hi]);have g:=oj a (k:=j) (p:=(tJ sd)[j]) (by simp[d]);rw[e]at b;have:=b.2.symm.trans g.2
 lia
theorem vP{a b:Qo}(h:HT.lexLt a b=Ep):HT.lexLt b a=false:=by
 cases e:HT.lexLt b a
 .rfl
 .have:=SG.lex_wk.tr a b a h e;rw[SG.lex_wk.irr]at this;cases this
theorem wj(sd:Qo):(tJ sd).Pairwise (λa b=>HT.lexLt b a=Er):=by
 have h:=CJ (cs:=sd.map rng) (acc:=[[]]) (n:=0) (Q3 _ _) (by simp) λc d=>by obtain⟨s,_,rfl⟩:=v0.mp d;rw[<-ZV];exact GU _ _
 exact h.imp vP
theorem BB{l:List Qo}(h:l.Pairwise (λa b=>HT.lexLt a b=Ep)):l.Nodup:=h.imp λ{a b} z e=>by rw[e,SG.lex_wk.irr]at z;cases z
theorem nv(lo hi:Qo):(xU lo hi).Nodup:=by
 unfold xU;exact BB (CJ (cs:=(lo.zip hi).map λp=>UZ p.1 p.2) (acc:=[[]]) (n:=0) (Q3 _ _) (by simp) λc a=>by obtain⟨p,_,rfl⟩:=v0.mp a;exact GU _ _)
noncomputable def DY:Qo->Qo->Qo->Bool
 |a::lo,x::p,b::hi=>(Es (a<=x)&&Es (x<=b))&&DY lo p hi
 |_,_,_=>Ep
theorem rng2_mem{a b x:Int}:x∈UZ a b↔a<=x/\x<=b:=by refine⟨HH,λh=>?_⟩;unfold UZ;exact v0.mpr ⟨(x-a).toNat,V4.mpr<|by lia,by lia⟩
theorem nk:∀{lo hi sd p:Qo},Bx lo hi sd->p.length=sd.length->DY lo p hi=Ep->lU p ((lo.zip hi).map λq=>UZ q.1 q.2)
 |[],[],[],[],_,_,_=>trivial
 |a::lo,b::hi,s::sd,x::p,h,hl,c=>by have c:((Es (a<=x)&&Es (x<=b))&&DY lo p hi)=true:=c;rw[J1,J1,decide_eq_true_eq,decide_eq_true_eq]at c;exact⟨rng2_mem.mpr c.1,nk h.2 (by simpa using hl) c.2⟩
 |[],[],[],_::_,_,h,_=>by simp at h
 |_::_,_::_,_::_,[],_,h,_=>by simp at h
 |[],[],_::_,_,h,_,_=>h.elim
 |[],_::_,z,_,h,_,_=>by cases z<;>exact h.elim
 |_::_,[],z,_,h,_,_=>by cases z<;>exact h.elim
 |_::_,_::_,[],_,h,_,_=>h.elim
theorem qk:∀{lo hi p:Qo},lo.length=hi.length->lU p ((lo.zip hi).map λq=>UZ q.1 q.2)->DY lo p hi=Ep
 |[],_,_,_,_=>by simp[DY]
 |a::lo,b::hi,x::p,hl,h=>by show ((Es (a<=x)&&Es (x<=b))&&DY lo p hi)=Ep;have c:=rng2_mem.mp h.1;rw[qk (by simpa using hl) h.2,Pd c.1,Pd c.2];rfl
 |_::_,[],_,hl,_=>by simp at hl
 |_::_,_::_,[],_,h=>h.elim
theorem aU{sd:Qo}(h:Bx lo hi sd):(tJ sd).filter (λp=>DY lo p hi)=xU lo hi:=by
 have hl:=FJ h;have i:∀c∈sd,1<=c:=by
  have e:∀{lo hi sd:Qo},Bx lo hi sd->∀c∈sd,1<=c:=by
   intro lo;induction lo with
   |nil=>intro hi sd h c g;cases hi<;>cases sd<;>first|exact h.elim|cases g
   |cons a lo j =>
    intro hi sd h c g;cases hi with
    |nil=>cases sd<;>exact h.elim
    |cons b hi =>
     cases sd with
     |nil=>exact h.elim
     |cons s sd =>
      rcases R0.mp g with z|z
      .subst z;have:=h.1;lia
      .exact j h.2 c z
  exact e h
 refine SG.sorted_uniq (lt:=HT.lexLt) (λa b=>SG.lex_eq) ((List.perm_ext_iff_of_nodup ((YG i).filter _)<|nv lo hi).mpr λp=>?_) ((wj sd).filter _)<|qj lo hi;rw[v8];constructor
 .rintro⟨d,k⟩;exact TJ (a:=[]) (by simp)<|nk h (cW<|RW d) k
 .intro d;exact⟨lB<|vB h d,qk (by lia)<|YZ d⟩
noncomputable def JT(sd cl lo hi:Qo):Qo:=(((tJ sd).zip cl).filter λr=>DY lo r.1 hi).map (·.2)
theorem cL{sd:Qo}(a:∀c∈sd,1<=c)(hl:cl.length=(tJ sd).length):(tJ sd).zip cl=(tJ sd).map λp=>(p,cel sd cl p):=by
 refine List.ext_getElem? λi=>?_;by_cases hi:i<(tJ sd).length
 .have b:i<((tJ sd).zip cl).length:=by rw[U1];exact T5 hi<|le_of_le_of_eq hi hl.symm
  rw[Z0,L0 hi,L0 b,g9];have d:=oj a (k:=i) (p:=(tJ sd)[i]) (by simp[hi]);show O ((tJ sd)[i],cl[i])=O ((tJ sd)[i],cel sd cl (tJ sd)[i]);have e:cel sd cl (tJ sd)[i]=cl[i]:=by unfold cel;rw[d.2,show ((i:Int)).toNat=i by rfl,G1,L0<|by omega];rfl
  rw[e]
 .rw[S4.mpr (by rw[U1];exact K0 (t7 _ _)<|E1 hi),S4.mpr<|by rw[l0];exact E1 hi]
theorem CB{sd:Qo}(a:∀c∈sd,1<=c)(hl:cl.length=(tJ sd).length)(h:Bx lo hi sd):JT sd cl lo hi=jZ sd cl lo hi:=by unfold JT jZ;rw[cL a hl,SQ,A0,<-aU h];rfl
theorem bU(a b c:Qo):jH (a.map n0) (b.map n0) (c.map n0)=(a.zip<|b.zip c).map λq=>K1 [.int q.1,.int q.2.1,.int q.2.2]:=by unfold jH;rw[IX,IX,A0];rfl
noncomputable def wP:Od->Bool
 | .tuple [.int a,.int p,.int b]=>Es (p<a)||decide (b<p)
 |_=>Er
theorem sk:∀{lo p hi:Qo},(((lo.zip<|p.zip hi).map λq=>K1 [.int q.1,.int q.2.1,.int q.2.2]).filter wP=[]↔DY lo p hi=Ep)
 |[],_,_=>by simp[DY]
 |_::_,[],_=>by simp[DY]
 |_::_,_::_,[]=>by simp[DY]
 |a::lo,x::p,b::hi=>by
  have c:=sk (lo:=lo) (p:=p) (hi:=hi);rw[U2,U2,G2,K6];show (if (Es (x<a)||decide (b<x))=Ep then _ else _)=[]↔((Es (a<=x)&&Es (x<=b))&&DY lo p hi)=Ep;by_cases h:a<=x/\x<=b
  .rw[Gd (by simp;omega),Pd h.1,Pd h.2];simpa using c
  .rw[Jd<|by simp;lia];constructor
   .intro z;cases z
   .intro z;rw[J1,J1,decide_eq_true_eq,decide_eq_true_eq]at z;exact absurd z.1 h
noncomputable def PZ(sd cl:Qo):List (Qo×Od):=((tJ sd).zip cl).map λr=>(r.1,n0 r.2)
variable (P w K mg base) in
structure CalsFd:Prop where
 Wr:Cal P w K mg base 2 "_law_sides" ["_law_pen_here"] (QX K zB)
 Ws:Cal P w K mg base 1 "_law_places" ["_law_sides_here"] (QX K jk)
 Wt:Cal P w K mg base 2 "_law_number" ["_law_pen_here"] (QX K ik)
def DB:Con:=λa Q=>∃(ns:Qo) (k l:Int),a=[.io<|NZ ns k l]/\0<=k/\0<=l/\∀(sd cl:Qo) (b d:Int) (o:Ev),Sd sd->cl.length=(tJ sd).length->(∀c∈cl,iR c)->0<=b->0<=d->Q (.fz<|.tuple [dJ sd cl,uU<|PZ sd cl]) (O (.io<|NZ ns b d)::o)
theorem EB(F:Rr K "_law_field" (top 71) f fd)(T:Txt mg)(C:CalsFd P w K mg base):FnOk P w K mg base mJ 3 f fd ["_law_pen_here"] (QX K DB):=by
 have S:FnScope ["_law_pen_here","_law_sides_here","_law_places_here","_law_cells"] ["_law_pen_here"] (SX<|top 71):={};refine IJ F S (λke A outer s H E v=>RX (tZ 1<|wJ C.Wr v.m<|aZ 0)<|RX (tZ 2<|dZ C.Ws v.m<|aZ 1)<|RX (tZ 3<|uW T.Zs<|TX<|SJ ["_law_place"] [0] (CZ rfl<|wv 2)<|λ_ _ _ _=>wJ C.Wt v.m<|aZ 1)<|sZ<|DZ<|iZ (DZ<|iZ (wv 1)<|TX<|wv 3)<|TX<|wa Z Z (BF v) T.Jr (by decide +kernel) T.Xo<|hZ 2<|aZ 3) ?_;rintro args Qd ⟨ns,k,l,rfl,hk,hl,q⟩;with_reducible refine xZ (λρ=>∃(sd:Qo) (a l1:Int),Sd sd/\0<=a/\0<=l1/\ρ=[O<|.io<|NZ ns a l1,Zt<|tupD sd,U,U]) ?_ ?_
 .intro N hN;exact⟨ns,k,l,Z,hk,hl,λsd a l1 _ b y B=>hN _ ⟨sd,a,l1,b,y,B,Z⟩⟩
 rintro _ ⟨sd,a,l1,b,y,B,rfl⟩;have hm:=b.m;have ye:=xY b.p;with_reducible refine xZ (λρ=>ρ=[O<|.io<|NZ ns a l1,Zt<|tupD sd,Yt<|.list<|(tJ sd).map tupD,U]) ?_ ?_
 .intro N hN;exact⟨sd,Z,b.p,by lia,b.l3,λo=>hN _ Z⟩
 rintro _ rfl;with_reducible refine xZ (λρ=>∃(cl:Qo) (a l1:Int),cl.length=(tJ sd).length/\(∀c∈cl,iR c)/\0<=a/\0<=l1/\ρ=[O<|.io<|NZ ns a l1,Zt<|tupD sd,Zt<|.list<|(tJ sd).map tupD,Zt<|tupD cl]) ?_ ?_
 .intro N hN;refine⟨WX (by rw[l0];lia),HG (λrest g G=>∃(i:Qo) (j t:Int),g=i.map n0/\i.length+rest.length=(tJ sd).length/\(∀c∈i,iR c)/\G=[U,O<|.io<|NZ ns j t]/\0<=j/\0<=t) ?_ ?_ ⟨[],a,l1,Z,by simp,λc L=>(by cases L),Z,y,B⟩⟩
  .rintro d ds g G ⟨i,j,t,rfl,M,hB,rfl,R,Y⟩ N' we;refine⟨ns,j,t,Z,R,Y,λx k5 l5 _ hx hk5 im=>?_⟩;refine we _ _ ⟨i++[x],k5,l5,by simp[Sl.d],by simp at M ⊢;lia,λc L=>?_,Z,hk5,im⟩;rcases B2.mp L with z|z
   .exact hB c z
   .rw[T1.mp z];exact hx
  .rintro g G ⟨i,j,t,rfl,M,hB,rfl,R,Y⟩;exact hN _ ⟨i,j,t,by simpa using M,hB,R,Y,Z⟩
 rintro _ ⟨cl,k2,l2,cf,hB,zh,ef,rfl⟩;have e1:(tJ sd).map tupD=(PZ sd cl).map λp=>tI p.1:=by
  unfold PZ;rw[A0];have e:(tJ sd).map tupD=(((tJ sd).zip cl).map (·.1)).map tupD:=by rw[List.map_fst_zip<|V0 cf.symm]
  rw[e,A0];rfl
 have e2:cl.map n0=(PZ sd cl).map (·.2):=by
  unfold PZ;rw[A0];have e:cl.map n0=(((tJ sd).zip cl).map (·.2)).map n0:=by rw[List.map_snd_zip<|V0 cf]
  rw[e,A0];rfl
 have e3:(PZ sd cl).map (·.1)=tJ sd:=by unfold PZ;rw[A0];exact List.map_fst_zip (by omega)
 refine⟨PZ sd cl,Ae O e1,Ae O e2,by rw[e3];exact YG b.p,?_⟩;exact q sd cl k2 l2 _ b cf hB zh ef
def uk:Con:=λa Q=>∃sd cl lo hi:Qo,a=[.fz<|uU<|PZ sd cl,.fz<|tupD lo,.fz<|tupD hi]/\(tJ sd).length<=1000/\lo.length<=3/\∀o,Q (.ow<|.list<|(JT sd cl lo hi).map n0) o
theorem qv(F:Rr K "_law_within" (top 72) f fd)(T:Txt mg):FnOk P w K mg base mJ 1 f fd ["_law_known","_law_low","_law_high"] (QX K uk):=by
 have S:FnScope ["_law_known","_law_low","_law_high","_law_found","_law_place","_law_number_here"] ["_law_known","_law_low","_law_high"] (SX<|top 72):={};refine IJ F S (λke A outer s H E Y=>RX (tZ 3<|WZ cK)<|RX (aW [4,5] (RI<|wn 0) (pK Z rfl<|lZ (HZ 4)<|lZ (HZ 5) EJ)<|AZ<|lJ (YV Y (wx<|Aa ["_law_a","_law_p","_law_b"] [] (Mz Z T.Xo<|hZ 1<|hZ 4<|aZ 2) (λ_ _ _ _=>pK Z rfl<|lZ (HZ 0)<|lZ (HZ 1)<|lZ (HZ 2) EJ) (λ_ _ _ _=>Z_<|Hw<|vU (rJ hU UW (wn 1)<|wn 0)<|xW<|rJ lH PU (wn 1)<|wn 2)<|λ_ _ _ _=>yZ)<|wx<|WZ cK) (AZ<|nK<|uu wK Z PySem.F.slot_list_append PySem.F.type_list_append vK (wn 3)<|TX<|wv 5) GZ)<|mG 3) ?_;rintro B Qd ⟨sd,cl,lo,hi,rfl,hn,h3,q⟩;with_reducible refine xZ (λρ=>ρ=[Zt<|uU<|PZ sd cl,Zt<|tupD lo,Zt<|tupD hi,Yt<|.list [],U,U]) ?_ ?_
 .intro N hN;exact hN _ Z
 rintro _ rfl;with_reducible refine xZ (λρ=>ρ=[Zt<|uU<|PZ sd cl,Zt<|tupD lo,Zt<|tupD hi,Yt<|.list<|(JT sd cl lo hi).map n0,U,U]) ?_ ?_
 .intro N hN;have g:((tJ sd).zip cl).length<=1000:=by rw[U1];exact K0 (t7 _ _) hn
  refine(?_:oY _ _ _ _ ((PZ sd cl).map λp=>.tuple [tI p.1,p.2]) _);have er:(PZ sd cl).map (λp=>K1 [tI p.1,p.2])=((tJ sd).zip cl).map λr=>K1 [tupD r.1,.int r.2]:=by unfold PZ;rw[A0];rfl
  rw[er];unfold JT at hN;generalize (tJ sd).zip cl=zs at hN g ⊢;refine YJ (λrest ρ=>∃dn e:List (Qo×Int),zs=dn++e/\rest=e.map (λr=>K1 [tupD r.1,.int r.2])/\ρ=[Zt<|uU<|PZ sd cl,Zt<|tupD lo,Zt<|tupD hi,Yt (.list (((dn.filter λr=>DY lo r.1 hi).map (·.2)).map n0)),U,U]) ?_ ?_ ⟨[],zs,Z,Z,Z⟩
  .rintro d ds ρ ⟨dn,e,k,i,rfl⟩ M C;cases e with
   |nil=>cases i
   |cons r e =>
    cases i;obtain⟨p,c⟩:=r;refine⟨Z,?_⟩;have l:=bU lo p hi;have lp:(dn.filter λr=>DY lo r.1 hi).length<=dn.length:=a9 _ _;have m:dn.length<=1000:=by rw[k,T0]at g;exact N1 g
    refine⟨by rw[l,l0,U1];exact WX<|by lia,GO wP (λ_=>.int 1) ?_ ?_⟩
    .intro d hd N' M' G t;rw[l]at hd;obtain⟨⟨a,x,b⟩,_,rfl⟩:=v0.mp hd;refine⟨Z,RZ (λh=>?_)<|λh=>RZ (λj=>?_)<|λj=>?_⟩
     .have h:Es (x<a)=true:=h;exact G (by show (Es (x<a)||decide (b<x))=Ep;rw[h];rfl)
     .have j:Es (b<x)=true:=j;exact G (by show (Es (x<a)||decide (b<x))=Ep;rw[j,Bool.or_true])
     .have h:¬Es (x<a)=true:=h;have j:¬Es (b<x)=true:=j;exact t (by show (Es (x<a)||decide (b<x))=Er;rw[u6.mpr h,u6.mpr j];rfl)
    rw[l];have v:=sk (lo:=lo) (p:=p) (hi:=hi);generalize ((lo.zip<|p.zip hi).map λq=>K1 [.int q.1,.int q.2.1,.int q.2.2]).filter wP=us at v;have el:us.map (λ_=>n0 1)=(us.map λ_=>(1:Int)).map n0:=by rw[A0];rfl
    rw[el];have L:=Nice.ints<|us.map λ_=>(1:Int);have R:=Nice.ints [];have i:Ng (.list<|(us.map λ_=>(1:Int)).map n0) (.list [])=Es (us=[]):=by cases us<;>simp[Ng,Og]
    have em:SeqAt.noMix (.list<|(us.map λ_=>(1:Int)).map n0) (.list [])=true:=by cases us<;>simp[SeqAt.noMix,SeqAt.noMixAll]
    refine⟨L.p,R.p,L.sh<|by decide,R.sh<|by decide,em,RZ (λh=>?_)<|λh=>?_⟩
    .have h:Ng (.list<|(us.map λ_=>(1:Int)).map n0) (.list [])=true:=h;rw[i,decide_eq_true_eq]at h;have y:=v.mp h;refine⟨by rw[l0,l0];exact L1 (show _<=1000 by exact K0 lp m)<|by decide,?_⟩;refine C _ ⟨dn++[(p,c)],e,by rw[k];simp,Z,?_⟩;rw[DX,K6,Jd y];simp only[List.filter_nil,u4,G2,E9];rfl
    .have h:¬Ng (.list<|(us.map λ_=>(1:Int)).map n0) (.list [])=true:=h;have y:¬DY lo p hi=true:=λz=>h (by rw[i,v.mpr z];rfl);refine C _ ⟨dn++[(p,c)],e,by rw[k];simp,Z,?_⟩;rw[DX,K6,Gd y];simp only[List.filter_nil,E2];rfl
  .rintro ρ ⟨dn,e,k,i,rfl⟩;cases e with
   |cons _ _=>cases i
   |nil=>rw[E2]at k;subst k;exact hN _ Z
 rintro _ rfl;exact q _
noncomputable def sv{α:Type}(lt:α->α->Bool)(l:List α):List α:=l.mergeSort λa b=>!lt b a
theorem ZZ(lt:α->α->Bool)(l:List α):(sv lt l).Perm l:=List.mergeSort_perm _ _
theorem TF{lt:α->α->Bool}(h:SG.Wk lt)(l:List α):(sv lt l).Pairwise λa b=>lt b a=false:=by
 have:=List.pairwise_mergeSort (le:=λa b=>!lt b a) (λa b c d e=>by
   simp only[Bool.not_eq_true']at d e ⊢;exact h.nt c b a e d) (λa b=>by
   cases g:lt b a with
   |false=>rfl
   | true =>
     cases i:lt a b with
     |false=>rfl
     |true=>have:=h.tr _ _ _ g i;rw[h.irr]at this;cases this) l;exact this.imp λ{a b} z=>by simpa using z
noncomputable def uv(n:Int):List Qo:=sv HT.lexLt<|hl 0<|n-1
theorem dL{n:Int}{c:List Qo}(d:c.Perm (hl 0<|n-1))(e:c.Pairwise λa b=>HT.lexLt b a=Er):c=uv n:=SG.sorted_uniq (lt:=HT.lexLt) (λa b=>SG.lex_eq) (d.trans (ZZ _ _).symm) e<|TF SG.lex_wk _
theorem strS_mem{n:Int}{r:Qo}:r∈uv n↔r∈hl 0 (n-1):=(ZZ _ _).mem_iff
noncomputable def Zc(r:Qo):Int×Int:=(r.getD 0 0,r.getD 1 0)
noncomputable def UJ(n:Int):Ot:=(uv n).map Zc
theorem FB{n:Int}(h:1<=n):(uv n).map gR=(UJ n).map jK:=by unfold UJ;rw[A0];refine A1 λr c=>?_;obtain⟨a,b,rfl,_⟩:=UG _ 0 (n-1) Z (Q2 h) r<|strS_mem.mp c;rfl
theorem vk{n:Int}(h:1<=n){p:Int×Int}(d:p∈UJ n):[p.1,p.2]∈hl 0 (n-1)/\0<=p.1/\p.1<=p.2/\p.2<n:=by obtain⟨r,c,rfl⟩:=v0.mp d;have c:=strS_mem.mp c;obtain⟨a,b,rfl,e,g,i⟩:=UG _ 0 (n-1) Z (by omega) r c;exact⟨c,e,g,by show b<n;exact Int.le_sub_one_iff.1 i⟩
theorem UF{n:Int}{a b:Int}(h:[a,b]∈hl 0 (n-1)):(a,b)∈UJ n:=v0.mpr ⟨[a,b],strS_mem.mpr h,Z⟩
theorem zq{n:Int}(h:1<=n):((UJ n).length:Int)=2*n-1:=by
 unfold UJ uv;rw[l0,(ZZ _ _).length_eq];have:=nj _ 0 (n-1) Z (by omega)
 lia
noncomputable def bo(a:Ot):qZ:=(a.map (·.1),a.map (·.2))
noncomputable def MT(sd:Qo):List qZ:=(mZ [[]]<|sd.map UJ).map bo
noncomputable def hbs(sd:Qo):List qZ:=sv NK<|MT sd
theorem Aq:∀{sd:Qo},(∀c∈sd,1<=c)->(TZ (sd.map UJ):Int)<=2 ^ sd.length*vZ sd
 |[],_=>by show (1:Int)<=2 ^ 0*1;decide
 |s::sd,h=>by
  have b:=h s G0;have d:=Aq (sd:=sd) λc a=>h c<|q0 _ a;have j:=YK (l:=sd) λc a=>h c<|q0 _ a;have e:(TZ ((s::sd).map UJ):Int)=((UJ s).length:Int)*(TZ (sd.map UJ):Int):=by show (((UJ s).length*TZ (sd.map UJ):Nat):Int)=_;exact w8 _ _
  rw[e,zq b];show (2*s-1)*(TZ (sd.map UJ):Int)<=2 ^ (sd.length+1)*(s*vZ sd);have g:(2*s-1)*(TZ (sd.map UJ):Int)<=(2*s)*(2 ^ sd.length*vZ sd):=N6 (by lia) d (G3 _) (by lia);have i:(2*s)*(2 ^ sd.length*vZ sd)=2 ^ (sd.length+1)*(s*vZ sd):=by rw[F9];simp only[vX,j8,Int.mul_left_comm]
  exact le_of_le_of_eq g i
theorem Bq{sd:Qo}(h:Sd sd):TZ (sd.map UJ)<=960:=by
 have d:=Aq h.p;have a:=h.m;have g:=h.l3;have b:=YK h.p;have c:(2:Int) ^ sd.length<=8:=by rcases (show sd.length=0\/sd.length=1\/sd.length=2\/sd.length=3 by lia) with e|e|e|e<;>rw[e]<;>decide
 have i:(2:Int) ^ sd.length*vZ sd<=8*120:=N6 c a (X1 b) (by decide)
 lia
theorem eL{sd:Qo}(h:Sd sd):(MT sd).length<=960:=by have a:=Bq h;unfold MT;rw[l0,IZ];simpa using a
theorem HU{sd:Qo}(h:Sd sd):(hbs sd).length<=960:=by unfold hbs;rw[(ZZ _ _).length_eq];exact eL h
theorem tM:∀{sd:Qo}{a:Ot},(∀c∈sd,1<=c)->lU a (sd.map UJ)->Bx (bo a).1 (bo a).2 sd
 |[],[],_,_=>trivial
 |s::sd,p::a,d,h=>by have b:=vk (d s G0) h.1;exact⟨⟨b.2.1,b.2.2.1,b.2.2.2⟩,tM (λc e=>d c<|q0 _ e) h.2⟩
 |[],_::_,_,h=>h.elim
 |_::_,[],_,h=>h.elim
theorem hbs_mem{sd:Qo}{b:qZ}:b∈hbs sd ↔ ∃c,lU c (sd.map UJ)/\b=bo c:=by
 unfold hbs;rw[(ZZ _ _).mem_iff];unfold MT;constructor
 .intro h;obtain⟨c,d,rfl⟩:=v0.mp h;exact⟨c,YZ d,Z⟩
 .rintro⟨c,d,rfl⟩;exact v0.mpr ⟨c,TJ (a:=[]) (by simp) d,Z⟩
theorem EK{sd:Qo}(h:∀c∈sd,1<=c){b:qZ}(a:b∈hbs sd):Bx b.1 b.2 sd:=by obtain⟨e,d,rfl⟩:=hbs_mem.mp a;exact tM h d
noncomputable def Gb:Od->Od
 | .tuple (x::_)=>x
 |_=>.none
noncomputable def Hb:Od->Od
 | .tuple (_::y::_)=>y
 |_=>.none
theorem aF(f:α->β):∀a:List (List α),TZ (a.map<|Y4 f)=TZ a
 |[]=>rfl
 |c::a=>by show (c.map f).length*_=c.length*_;rw[aF f a,l0]
theorem xk:∀{p:List α}{a:List (List α)},lU p a->p.length=a.length
 |[],[],_=>rfl
 |_::_,_::_,h=>by rw[J2,J2,xk h.2]
 |[],_::_,h=>h.elim
 |_::_,[],h=>h.elim
def Ib:Con:=λa Q=>∃b:Ot,a=[.fz<|.tuple<|b.map jK]/\b.length<=1000/\∀o,Q (.fz<|VX<|bo b) o
theorem NT(F:Rr K "box_of" (top 30) f fd)(T:Txt mg):FnOk P w K mg base mJ 1 f fd ["pairs"] (QX K Ib):=by
 have S:FnScope ["pairs"] ["pairs"] (SX<|top 30):={};refine IJ F S (λi A outer s H E j=>sZ<|DZ<|iZ (uW T.Zs<|TX<|SJ ["pair"] [] (CZ rfl<|wv 0)<|λ_ _ _ _=>ZX (wn 0) UX)<|TX<|uW T.Zs<|TX<|SJ ["pair"] [] (CZ rfl<|wv 0)<|λ_ _ _ _=>ZX (wn 0) UX) ?_;rintro b k ⟨a,rfl,hl,q⟩;have c:(a.map jK).length=a.length:=l0 _;refine⟨WX<|le_of_eq_of_le c hl,sJ Gb ?_ ⟨WX<|by omega,sJ Hb ?_ ?_⟩⟩
 .intro d hd N hN;obtain⟨p,_,rfl⟩:=v0.mp hd;exact⟨_,Z,hN⟩
 .intro d hd N hN;obtain⟨p,_,rfl⟩:=v0.mp hd;exact⟨_,Z,hN⟩
 .have e:(a.map jK).map Gb=(bo a).1.map n0:=by unfold bo;rw[A0,A0];rfl
  have g:(a.map jK).map Hb=(bo a).2.map n0:=by unfold bo;rw[A0,A0];rfl
  have q:=q;unfold VX at q;rw[<-e,<-g]at q;exact q _
variable (P w K mg base) in
structure CalsBy:Prop where
 Yo:Cal P w K mg base 1 "one_of_each" ["choices"] (QX K yq)
 Vo:Cal P w K mg base 1 "box_of" ["pairs"] (QX K Ib)
noncomputable def Ea:Od->Int×Int
 | .tuple [.int a,.int b]=>(a,b)
 |_=>(0,0)
noncomputable def Fa:Od->Od
 | .tuple a=>VX<|bo<|a.map Ea
 |_=>.none
theorem GB(a:Ot):Fa (.tuple<|a.map jK)=VX (bo a):=by
 show VX (bo<|(a.map jK).map Ea)=_;rw[A0];have:a.map (Ea∘jK)=a:=by
  conv=>rhs;rw[<-B8 a]
  exact A1 λp _=>rfl
 rw[this]
def Ga:Con:=λa Q=>∃b:List (List<|Int×Int),a=[.fz<|.list<|b.map λc=>.list<|c.map jK]/\(∀c∈b,c≠[])/\TZ b<=960/\b.length<=3/\∀o,Q (.ow<|.list<|(sv NK<|(mZ [[]] b).map bo).map VX) o
theorem OT(F:Rr K "boxes_by" (top 31) f fd)(T:Txt mg)(C:CalsBy P w K mg base):FnOk P w K mg base mJ 2 f fd ["choices"] (QX K Ga):=by
 have S:FnScope ["choices"] ["choices"] (SX<|top 31):={};refine IJ F S (λke A outer s H E j=>sZ<|kZ Ru (gq rfl<|BF j) T.Zo Ul<|TX<|SJ ["pairs"] [] (CZ rfl<|dZ C.Yo j.m<|aZ 0)<|λ_ _ _ _=>dZ C.Vo j.m<|aZ 0) ?_;rintro k Qd ⟨g,rfl,l,h9,t,q⟩;have v:(g.map λc=>P2<|c.map jK)=(g.map<|Y4 jK).map P2:=by rw[A0];rfl
 have mm:=aF jK g;refine⟨g.map<|Y4 jK,by rw[<-v];rfl,λc x=>?_,by lia,by rw[l0];exact K0 t<|X2 _ _,λo=>?_⟩
 .obtain⟨y,B,rfl⟩:=v0.mp x;intro z;exact l y B<|Q4.mp z
 have G:(mZ [[]]<|g.map<|Y4 jK).map K1=(mZ [[]] g).map λi=>K1 (i.map jK):=by have:=ZK jK g [[]];have e:([[]]:List (List<|Int×Int)).map (Y4 jK)=[[]]:=rfl;rw[e]at this;rw[<-this,A0];rfl
 rw[G];have L:(mZ [[]] g).length<=960:=by rw[IZ];simp;omega
 refine⟨WX (by rw[l0];exact K0 L<|X2 _ _),sJ Fa ?_ ?_⟩
 .intro d hd N hN;obtain⟨i,M,rfl⟩:=v0.mp hd;rw[GB]at hN;have R:i.length<=1000:=by
   have:=xk<|YZ M
   lia
  exact⟨i,Z,R,λo=>hN⟩
 .have Y:((mZ [[]] g).map λi=>K1<|i.map jK).map Fa=((mZ [[]] g).map bo).map VX:=by
   rw[A0,A0];exact A1 λi _=>GB i
  rw[Y];refine⟨(mZ [[]] g).map bo,Z,by rw[l0];exact WX<|by lia,λbf hp hu=>?_⟩;rw[SG.sorted_uniq (lt:=NK) (λa b=>Ou) (hp.trans (ZZ _ _).symm) hu<|TF ltB_wk _];exact q _
variable (P w K mg base) in
structure CalsHx:Prop where
 Vp:Cal P w K mg base 2 "boxes_by" ["choices"] (QX K Ga)
 Vr:Cal P w K mg base 2 "stretches" ["side"] (QX K ET)
def Ha:Con:=λa Q=>∃sd:Qo,a=[.fz<|tupD sd]/\Sd sd/\∀o,Q (.ow<|.list<|(hbs sd).map VX) o
noncomputable def jd:Od->Od
 | .int s=>.list<|(UJ s).map jK
 |_=>.none
theorem QT(F:Rr K "half_boxes" (top 32) f fd)(T:Txt mg)(C:CalsHx P w K mg base):FnOk P w K mg base mJ 3 f fd ["sides"] (QX K Ha):=by
 have S:FnScope ["sides"] ["sides"] (SX<|top 32):={};refine IJ F S (λx A outer s H E g=>sZ<|dZ C.Vp g.m<|TX<|SJ ["side"] [] (CZ rfl<|wv 0)<|λ_ _ _ _=>dZ C.Vr g.m<|aZ 0) ?_;rintro i y ⟨sd,rfl,a,q⟩;have j:=a.l3;have B:=a.m;refine⟨WX (by rw[l0];exact K0 j<|X2 _ _),sJ jd ?_ ?_⟩
 .intro d hd N hN;obtain⟨s,b,rfl⟩:=v0.mp hd;have e:=a.p s b;have k:=OZ a.p s b;refine⟨s,Z,e,by lia,λG o l t=>?_⟩;have hN:N (.list<|(UJ s).map jK) _:=hN;rw[<-FB e,<-dL l t]at hN;exact hN
 .refine⟨sd.map UJ,by rw[A0,A0];rfl,λc v=>?_,Bq a,by rw[l0];omega,λo=>q _⟩;obtain⟨s,b,rfl⟩:=v0.mp v;intro z;have e:=zq<|a.p s b;have k:=a.p s b;rw[z,W6]at e
  lia
noncomputable def GJ:Qo->Int
 |[]=>0
 |[x]=>x
 |x::y::l=>min x<|GJ (y::l)
noncomputable def HJ:Qo->Int
 |[]=>0
 |[x]=>x
 |x::y::l=>max x<|HJ (y::l)
theorem eJ:∀{l:Qo},l≠[]->GJ l∈l/\∀y∈l,GJ l<=y
 |[],h=>absurd Z h
 | [x],_=>⟨by simp[GJ],λy hy=>by
   have e:y=x:=by simpa using hy
   rw[e];exact N7 _⟩
 |x::y::l,_=>by
  obtain⟨a,b⟩:=eJ (l:=y::l) (by simp);show min x (GJ (y::l))∈x::y::l/\_;constructor
  .rcases (show min x (GJ (y::l))=x\/min x (GJ (y::l))=GJ (y::l) by lia) with e|e<;>rw[e]
   .exact G0
   .exact q0 _ a
  .intro z c;show min x (GJ (y::l))<=z;rcases R0.mp c with e|e
   .lia
   .have:=b z e;omega
theorem fJ:∀{l:Qo},l≠[]->HJ l∈l/\∀y∈l,y<=HJ l
 |[],h=>absurd Z h
 | [x],_=>⟨by simp[HJ],λy hy=>by
   have e:y=x:=by simpa using hy
   rw[e];exact N7 _⟩
 |x::y::l,_=>by
  obtain⟨a,b⟩:=fJ (l:=y::l) (by simp);show max x (HJ (y::l))∈x::y::l/\_;constructor
  .rcases (show max x (HJ (y::l))=x\/max x (HJ (y::l))=HJ (y::l) by lia) with e|e<;>rw[e]
   .exact G0
   .exact q0 _ a
  .intro z c;show z<=max x (HJ (y::l));rcases R0.mp c with e|e
   .exact le_of_eq_of_le e (TQ _ _)
   .have:=b z e;exact Y1 this<|tQ _ _
theorem PK{l:Qo}{m:Int}(c:m∈l)(e:∀y∈l,m<=y):m=GJ l:=by have d:=eJ (l:=l) (λz=>by rw[z]at c;cases c);have a:=e _ d.1;have b:=d.2 _ c;exact UQ a b
theorem QK{l:Qo}{m:Int}(c:m∈l)(e:∀y∈l,y<=m):m=HJ l:=by have d:=fJ (l:=l) (λz=>by rw[z]at c;cases c);have a:=e _ d.1;have b:=d.2 _ c;exact UQ b a
noncomputable def fL(l:Qo):Qo:=[l.sum,GJ l,HJ l]
noncomputable def IU(sd cl:Qo)(b:qZ):Qo:=fL<|jZ sd cl b.1 b.2
noncomputable abbrev KH(sd cl:Qo)(b:qZ):Od:=.tuple [VX b,tupD<|IU sd cl b]
theorem xP{sd:Qo}(h:Bx lo hi sd):xU lo hi≠[]:=λz=>by
 have:lo∈xU lo hi:=by
  refine TJ (a:=[]) (by simp) ?_;clear z;induction lo generalizing hi sd with
  |nil=>cases hi with
   |nil=>trivial
   |cons b hi=>cases sd<;>exact h.elim
  |cons a lo c =>
   cases hi with
   |nil=>cases sd<;>exact h.elim
   |cons b hi =>
    cases sd with
    |nil=>exact h.elim
    |cons s sd=>exact⟨rng2_mem.mpr ⟨N7 _,h.1.2.1⟩,c h.2⟩
 rw[z]at this;cases this
theorem jJ{sd:Qo}(h:Bx lo hi sd):jZ sd cl lo hi≠[]:=λz=>xP h<|Q4.mp z
noncomputable def Ia(sd cl:Qo):Od->Od
 | .tuple [.tuple lo,.tuple hi]=>KH sd cl (lo.map unI,hi.map unI)
 |_=>.none
theorem HB(sd cl:Qo)(b:qZ):Ia sd cl (VX b)=KH sd cl b:=by show KH sd cl ((b.1.map n0).map unI,(b.2.map n0).map unI)=_;rw[KJ,KJ]
def Jb:Con:=λa Q=>∃l:Qo,a=[.fz<|.list<|l.map n0]/\l≠[]/\∀o,Q (.fz<|tupD<|fL l) o
theorem UT(F:Rr K "told_of" (top 34) f fd)(T:Txt mg):FnOk P w K mg base mJ 1 f fd ["cells"] (QX K Jb):=by have S:FnScope ["cells"] ["cells"] (SX<|top 34):={};refine IJ F S (λg A outer s H E i=>sZ<|DZ<|iZ (kZ zF (nW (K:=K) Z Z) T.Jp Bo<|aZ 0)<|iZ (kZ IW (CK (K:=K) Z Z) T.Qt Ti<|aZ 0)<|TX<|kZ JW (DK (K:=K) Z Z) T.Qs Ui<|aZ 0) ?_;rintro a j ⟨l,rfl,hl,q⟩;have h0:0<l.length:=c5.mpr hl;refine⟨l,Z,l,Z,h0,λm b c=>⟨l,Z,h0,λM d e=>?_⟩⟩;rw[PK b c,QK d e];exact q _
variable (P w K mg base) in
structure CalsHo:Prop where
 Vs:Cal P w K mg base 3 "half_boxes" ["sides"] (QX K Ha)
 Vt:Cal P w K mg base 6 "cells_in" ["field","box"] (QX K SF)
 Uo:Cal P w K mg base 1 "told_of" ["cells"] (QX K Jb)
def Kb:Con:=λa Q=>∃sd cl:Qo,a=[.fz<|dJ sd cl]/\Sd sd/\cl.length=(tJ sd).length/\∀o,Q (.ow<|.list<|(hbs sd).map<|KH sd cl) o
theorem VT(F:Rr K "halves_of" (top 33) f fd)(T:Txt mg)(C:CalsHo P w K mg base):FnOk P w K mg base mJ 7 f fd ["field"] (QX K Kb):=by
 have S:FnScope ["field"] ["field"] (SX<|top 33):={};refine IJ F S (λk A outer s H E c=>sZ<|SJ ["box"] [0] (CZ rfl<|dZ C.Vs c.m<|TX<|ZX (wn 0) UX)<|λ_ _ _ _=>DZ<|iZ (wv 0)<|TX<|dZ C.Uo c.m<|TX<|dZ C.Vt c.m<|hZ 1<|aZ 0) ?_;rintro g l ⟨sd,cl,rfl,a,i,q⟩;have hl:=HU a;refine⟨_,Z,sd,Z,a,λo=>⟨WX (by rw[l0];lia),sJ (Ia sd cl) ?_ ?_⟩⟩
 .intro d hd N hN;obtain⟨b,j,rfl⟩:=v0.mp hd;have ff:=EK a.p j;rw[HB]at hN;exact⟨sd,cl,b.1,b.2,Z,a,i,ff,λo=>⟨jZ sd cl b.1 b.2,Z,jJ ff,λo=>hN⟩⟩
 .have e:((hbs sd).map VX).map (Ia sd cl)=(hbs sd).map (KH sd cl):=by
   rw[A0];exact A1 λb _=>HB sd cl b
  rw[e];exact q _
theorem yk(lo hi:Int):[lo,hi]∈hl lo hi:=by rw[tq];exact G0
theorem IB:∀(n:Nat) (lo hi:Int),(hi-lo).toNat=n->lo<=hi->∀a c:Int,[a,c]∈hl lo hi->a<c->[a,(a+c) / 2]∈hl lo hi/\[(a+c) / 2+1,c]∈hl lo hi:=by
 intro n;induction n using V7 with
 |_ n d =>
  intro lo hi e h a c b g;by_cases ge:lo<hi
  .rw[rV ge]at b ⊢;rcases R0.mp b with z|z
   .injection z with z1 z2;injection z2 with z2 _;subst z1;subst z2;exact⟨q0 _<|B1 _<|yk _ _,q0 _<|Y3 _<|yk _ _⟩
   .rcases B2.mp z with z|z
    .have:=d _ (ZP e ge) ((lo+hi) / 2+1) hi Z (Cv ge) a c z g;exact⟨q0 _<|Y3 _ this.1,q0 _<|Y3 _ this.2⟩
    .have:=d _ (aR e ge) lo ((lo+hi) / 2) Z (zC<|X1 ge) a c z g;exact⟨q0 _<|B1 _ this.1,q0 _<|B1 _ this.2⟩
  .rw[QG ge]at b;have z:=T1.mp b;injection z with z1 z2;injection z2 with z2 _
   lia
theorem JB:∀(n:Nat) (lo hi:Int),(hi-lo).toNat=n->lo<=hi->(hl lo hi).Nodup:=by
 intro n;induction n using V7 with
 |_ n d =>
  intro lo hi e h;by_cases ge:lo<hi
  .rw[rV ge,i6,Y9];have g:=UG _ ((lo+hi) / 2+1) hi rfl<|Cv ge;have i:=UG _ lo ((lo+hi) / 2) rfl<|zC<|X1 ge;refine⟨λz=>?_,d _ (ZP e ge) _ _ rfl<|by omega,d _ (aR e ge) _ _ rfl<|by omega,λx hx y hy z=>?_⟩
   .rcases B2.mp z with z|z
    .obtain⟨a,b,c,j,k,l⟩:=g _ z;injection c with c _
     lia
    .obtain⟨a,b,c,j,k,l⟩:=i _ z;injection c with _ c;injection c with c _
     lia
   .obtain⟨a,b,c,j,k,l⟩:=g _ hx;obtain⟨B,C,m,q,t,v⟩:=i _ hy;rw[c,m]at z;injection z with z1 _
    lia
  .rw[QG ge];exact Q3 _ _
theorem xj{n:Int}(h:1<=n):(UJ n).Nodup:=by unfold UJ;have d:(uv n).Nodup:=(ZZ _ _).nodup_iff.mpr<|JB _ 0 (n-1) rfl<|Q2 h;refine N5.mpr<|List.Pairwise.imp_of_mem (λ{a b} e g c z=>?_) d;obtain⟨x,y,i,_⟩:=UG _ 0 (n-1) Z (by omega) a<|strS_mem.mp e;obtain⟨j,k,l,_⟩:=UG _ 0 (n-1) Z (Q2 h) b<|strS_mem.mp g;rw[i,l]at z c;have z:(x,y)=(j,k):=z;injection z with z1 z2;exact c (by rw[z1,z2])
theorem LH{α:Type}:∀{cs:List (List α)}{e:List (List α)},e.Nodup->(∀c∈cs,c.Nodup)->(mZ e cs).Nodup
 |[],_,h,_=>h
 |c::cs,e,h,i=>by
  refine LH (cs:=cs) ?_ λd hd=>i d<|q0 _ hd;refine Z8.mpr ⟨λp j=>?_,h.imp λ{a b} g x hx y hy z=>?_⟩
  .refine N5.mpr ((i c G0).imp λ{a b} g z=>g ?_);have:=List.append_cancel_left z;injection this
  .obtain⟨u,_,rfl⟩:=v0.mp hx;obtain⟨v,_,rfl⟩:=v0.mp hy;exact g (List.append_inj' z Z).1
theorem yP{b c:Ot}(h:bo b=bo c):b=c:=by
 unfold bo at h;injection h with h1 h2;have e:∀l:Ot,l=(l.map (·.1)).zip (l.map (·.2)):=λl=>by
  induction l with
  |nil=>rfl
  |cons a l d=>rw[G2,G2,U2,<-d]
 rw[e b,e c,h1,h2]
theorem cU{sd:Qo}(h:∀c∈sd,1<=c):(hbs sd).Nodup:=by refine(ZZ _ _).nodup_iff.mpr ?_;unfold MT;refine N5.mpr<|(LH (Q3 _ _) λc d=>?_).imp λ{a b} e z=>e<|yP z;obtain⟨s,g,rfl⟩:=v0.mp d;exact xj<|h s g
noncomputable def LJ(b:qZ)(i:Nat)(p:Int×Int):qZ:=(b.1.set i p.1,b.2.set i p.2)
theorem VF:∀{sd:Qo}{a:Ot}{i:Nat}{s:Int}{q:Int×Int},lU a (sd.map UJ)->sd[i]?=O s->q∈UJ s->lU (a.set i q) (sd.map UJ)
 |[],_,_,_,_,_,h,_=>by simp at h
 |s::sd,p::a,0,s',q,h,e,b=>by simp only[P5,Option.some.injEq]at e;subst e;exact⟨b,h.2⟩
 |s::sd,p::a,i+1,s',q,h,e,b=>by simp only[B3]at e;exact⟨h.1,VF h.2 e b⟩
 |_::_,[],_,_,_,h,_,_=>h.elim
theorem KB:∀{sd:Qo}{a:Ot}{i:Nat}{s:Int},lU a (sd.map UJ)->sd[i]?=O s->∃p,a[i]?=O p/\p∈UJ s
 |[],_,_,_,_,h=>by simp at h
 |s::sd,p::a,0,s',h,e=>by simp only[P5,Option.some.injEq]at e;subst e;exact⟨p,Z,h.1⟩
 |s::sd,p::a,i+1,s',h,e=>by simp only[B3]at e ⊢;exact KB h.2 e
 |_::_,[],_,_,h,_=>h.elim
theorem LB(a:Ot)(i:Nat)(q:Int×Int):bo (a.set i q)=LJ (bo a) i q:=by unfold bo LJ;rw[EQ,EQ]
theorem xV{sd:Qo}(q:∀c∈sd,1<=c){b:qZ}(t:b∈hbs sd){i:Nat}(hi:i<sd.length){a c:Int}(v:b.1[i]?=O a)(x:b.2[i]?=O c)(h:a<c):LJ b i (a,(a+c) / 2)∈hbs sd/\LJ b i ((a+c) / 2+1,c)∈hbs sd:=by
 obtain⟨e,j,rfl⟩:=hbs_mem.mp t;obtain⟨s,g⟩:∃s,sd[i]?=O s:=⟨_,L0 hi⟩;obtain⟨p,k,y⟩:=KB j g;have d:=q s<|A3 g;have B:p.1=a:=by
  have:(bo e).1[i]?=O p.1:=by unfold bo;rw[Z0,k];rfl
  rw[v]at this;exact(O2 this).symm
 have C:p.2=c:=by
  have:(bo e).2[i]?=O p.2:=by unfold bo;rw[Z0,k];rfl
  rw[x]at this;exact(O2 this).symm
 have l:=(vk d y).1;rw[B,C]at l;have m:=IB _ 0 (s-1) Z (Q2 d) a c l h;refine⟨hbs_mem.mpr ⟨e.set i (a,(a+c) / 2),VF j g<|UF m.1,(LB _ _ _).symm⟩,hbs_mem.mpr ⟨e.set i ((a+c) / 2+1,c),VF j g<|UF m.2,(LB _ _ _).symm⟩⟩
theorem bF:∀{lo hi x:Qo}{i:Nat}{a c m:Int},lo.length=x.length->hi.length=x.length->lo[i]?=O a->hi[i]?=O c->a<=m->m<c -> (DY lo x hi=(DY (lo.set i a) x (hi.set i m)||DY (lo.set i<|m+1) x (hi.set i c)))/\¬(DY (lo.set i a) x (hi.set i m)=Ep/\DY (lo.set i<|m+1) x (hi.set i c)=Ep)
 |[],_,_,_,_,_,_,_,_,h,_,_,_=>by simp at h
 |l::lo,h::hi,y::x,0,a,c,m,e,g,b,d,j,k=>by
  simp only[P5,Option.some.injEq]at b d;subst b;subst d;simp only[P9,DY];cases DY lo x hi
  .simp
  .by_cases v:l<=y<;>by_cases B:y<=m<;>by_cases C:m+1<=y<;>by_cases F:y<=h<;>simp[v,B,C,F]<;>lia
 |l::lo,h::hi,y::x,i+1,a,c,m,e,g,b,d,j,k=>by
  simp only[B3]at b d;obtain⟨G,g2⟩:=bF (lo:=lo) (hi:=hi) (x:=x) (i:=i) (by simpa using e) (by simpa using g) b d j k;simp only[Q9,DY];rw[G];constructor
  .cases (Es (l<=y)&&Es (y<=h))<;>simp
  .rintro⟨q,t⟩;rw[J1]at q t;exact g2 ⟨q.2,t.2⟩
 |_::_,[],_::_,_,_,_,_,_,h,_,_,_,_=>by simp at h
 |_::_,_,[],_,_,_,_,h,_,_,_,_,_=>by simp at h
theorem zk{α:Type}{p q r:α->Bool}:∀{l:List α},(∀x∈l,p x=(q x||r x)/\¬(q x=Ep/\r x=Ep))->(l.filter p).Perm (l.filter q++l.filter r)
 |[],_=>List.Perm.refl _
 |x::l,h=>by
  have b:=zk (l:=l) λy hy=>h y<|q0 _ hy;obtain⟨c,d⟩:=h x G0;rw[K6,K6,K6,c];cases e:q x with
  |true =>
   have a:r x=false:=by cases a:r x with|false=>rfl|true=>exact absurd ⟨e,a⟩ d
   rw[a];simpa using b
  |false =>
   cases a:r x with
   |false=>simpa using b
   |true=>simp only[Bool.false_or,if_true,J3,if_false];exact(b.cons x).trans List.perm_middle.symm
theorem cF{sd:Qo}{b:qZ}(d:Bx b.1 b.2 sd){i:Nat}{a c m:Int}(e:b.1[i]?=O a)(g:b.2[i]?=O c)(j:a<=m)(k:m<c)(l:Bx (LJ b i (a,m)).1 (LJ b i (a,m)).2 sd)(q:Bx (LJ b i (m+1,c)).1 (LJ b i (m+1,c)).2 sd):(jZ sd cl b.1 b.2).Perm (jZ sd cl (LJ b i (a,m)).1 (LJ b i (a,m)).2++jZ sd cl (LJ b i (m+1,c)).1 (LJ b i (m+1,c)).2):=by
 unfold jZ;rw[<-u4];refine List.Perm.map _ ?_;rw[<-aU d,<-aU l,<-aU q];refine zk λx hx=>?_;have hl:=cW<|RW hx;have t:=FJ d;exact bF (by lia) (by lia) e g j k
theorem Cq:∀{l m:Qo},l.Perm m->l.sum=m.sum:=λh=>by
 induction h with
 |nil=>rfl
 |cons x _ a=>rw[M6,M6,a]
 |swap x y l=>rw[M6,M6,M6,M6];exact Int.add_left_comm _ _ _
 |trans _ _ b c=>rw[b,c]
theorem gL{l a b:Qo}(h:l.Perm (a++b))(c:a≠[])(d:b≠[]):fL l=[a.sum+b.sum,min (GJ a)<|GJ b,max (HJ a)<|HJ b]:=by
 unfold fL;have m:l.sum=a.sum+b.sum:=by rw[Cq h,List.sum_append]
 have g:=eJ c;have i:=eJ d;have j:=fJ c;have k:=fJ d;have q:min (GJ a) (GJ b)=GJ l:=by
  refine PK (h.mem_iff.mpr ?_) λy hy=>?_
  .rcases (show min (GJ a) (GJ b)=GJ a\/min (GJ a) (GJ b)=GJ b by lia) with e|e<;>rw[e]
   .exact Y3 _ g.1
   .exact B1 _ i.1
  .rcases B2.mp (h.mem_iff.mp hy) with z|z
   .have:=g.2 y z;lia
   .have:=i.2 y z;lia
 have t:max (HJ a) (HJ b)=HJ l:=by
  refine QK (h.mem_iff.mpr ?_) λy hy=>?_
  .rcases (show max (HJ a) (HJ b)=HJ a\/max (HJ a) (HJ b)=HJ b by lia) with e|e<;>rw[e]
   .exact Y3 _ j.1
   .exact B1 _ k.1
  .rcases B2.mp (h.mem_iff.mp hy) with z|z
   .have:=j.2 y z;exact Y1 this<|TQ _ _
   .have:=k.2 y z;exact Y1 this<|tQ _ _
 rw[m,q,t]
theorem NH:∀(lo b:Qo),mZ [b] ((lo.zip lo).map λq=>UZ q.1 q.2)=[b++lo]
 |[],b=>by simp[mZ]
 |a::lo,b=>by
  have e:UZ a a=[a]:=by unfold UZ;rw[show (a+1-a).toNat=1 by lia];simp
  rw[U2,G2];show mZ ([b].flatMap λp=>(UZ a a).map λx=>p++[x]) _=_;rw[e];show mZ [b++[a]] _=_;rw[NH lo<|b++[a]];simp
theorem zP(sd cl lo:Qo):IU sd cl (lo,lo)=[cel sd cl lo,cel sd cl lo,cel sd cl lo]:=by unfold IU jZ xU;rw[NH lo []];show [(cel sd cl lo+0:Int),_,_]=_;rw[Int.add_zero];rfl
noncomputable def XT(a b:Int)(p:Int×Int)(f:(q:Int×Int)->(q.2-q.1).toNat<(p.2-p.1).toNat->Ot):Ot:=if a<=p.1/\p.2<=b then [(p.1,p.2)] else if h:p.1<p.2 then f (p.1,(p.1+p.2) / 2) (aR Z h)++f ((p.1+p.2) / 2+1,p.2) (ZP Z h) else []
noncomputable def JU(lo hi a b:Int):Ot:=(measure λp:Int×Int=>(p.2-p.1).toNat).wf.fix (XT a b) (lo,hi)
theorem yj(lo hi a b:Int):JU lo hi a b=if a<=lo/\hi<=b then [(lo,hi)] else if h:lo<hi then JU lo ((lo+hi) / 2) a b++JU ((lo+hi) / 2+1) hi a b else []:=WellFounded.fix_eq _ (XT a b) (lo,hi)
theorem OH{lo hi a b:Int}(h:a<=lo/\hi<=b):JU lo hi a b=[(lo,hi)]:=by rw[yj,Jd h]
theorem dU{lo hi a b:Int}(h:¬(a<=lo/\hi<=b))(hl:lo<hi):JU lo hi a b=JU lo ((lo+hi) / 2) a b++JU ((lo+hi) / 2+1) hi a b:=by rw[yj,Gd h,dif_pos hl]
theorem WF{lo hi a b:Int}(h:¬(a<=lo/\hi<=b))(hl:¬lo<hi):JU lo hi a b=[]:=by rw[yj,Gd h,dif_neg hl]
theorem halves{p:Int->Int->Prop}(h:∀lo hi:Int,lo<=hi->(lo<hi->p lo ((lo+hi) / 2))->(lo<hi->p ((lo+hi) / 2+1) hi)->p lo hi):∀lo hi:Int,lo<=hi->p lo hi:=by
 have a:∀(n:Nat) (lo hi:Int),(hi-lo).toNat=n->lo<=hi->p lo hi:=by
  intro n;induction n using V7 with
  |_ n c=>intro lo hi e b;exact h lo hi b (λhl=>c _ (aR e hl) _ _ rfl<|zC<|X1 hl)<|λhl=>c _ (ZP e hl) _ _ rfl<|Cv hl
 exact λlo hi b=>a _ lo hi Z b
theorem XF{a b:Int}:∀lo hi:Int,lo<=hi->(b<lo\/hi<a)->JU lo hi a b=[]:=by
 refine halves λlo hi g d e h=>?_;have c:¬(a<=lo/\hi<=b):=by lia
 by_cases hl:lo<hi
 .rw[dU c hl,d hl<|by lia,e hl<|by lia];rfl
 .exact WF c hl
noncomputable abbrev BP(p:Int×Int):Qo:=[p.1,p.2]
theorem PH{a b:Int}:∀lo hi:Int,lo<=hi->∀p∈JU lo hi a b,BP p∈hl lo hi/\a<=p.1/\p.1<=p.2/\p.2<=b/\lo<=p.1/\p.2<=hi:=by
 refine halves λlo hi l m q p c=>?_;by_cases hw:a<=lo/\hi<=b
 .rw[OH hw]at c;have:p=(lo,hi):=by simpa using c
  subst this;exact⟨by rw[tq];exact G0,hw.1,l,hw.2,N7 _,N7 _⟩
 .by_cases ge:lo<hi
  .rw[dU hw ge]at c;rcases B2.mp c with c|c
   .obtain⟨d,e,g,i,k,j⟩:=m ge p c;exact⟨by rw[rV ge];exact q0 _<|B1 _ d,e,g,i,k,X1<|X3 j<|Cv ge⟩
   .obtain⟨d,e,g,i,k,j⟩:=q ge p c;exact⟨by rw[rV ge];exact q0 _<|Y3 _ d,e,g,i,by lia,j⟩
  .rw[WF hw ge]at c;simp at c
noncomputable def Tl:Int->Int->Ot->Prop
 |s,e,[]=>s=e+1
 |s,e,p::l=>p.1=s/\p.1<=p.2/\Tl (p.2+1) e l
theorem Tl.app:∀{l a:Ot}{s m e:Int},Tl s m l->Tl (m+1) e a->Tl s e (l++a)
 |[],_,_,_,_,h,h'=>by have h:_=_:=h;subst h;exact h'
 |p::l,a,s,m,e,⟨b,c,d⟩,h'=>⟨b,c,d.app h'⟩
theorem CP{a b:Int}(m:a<=b):∀lo hi:Int,lo<=hi->lo<=b->a<=hi->Tl (max lo a) (min hi b) (JU lo hi a b):=by
 refine halves λlo hi q g i d j=>?_;by_cases hw:a<=lo/\hi<=b
 .rw[OH hw];exact⟨by show lo=max lo a;omega,q,by show hi+1=min hi b+1;omega⟩
 .by_cases ge:lo<hi
  .rw[dU hw ge];by_cases e:(lo+hi) / 2<a
   .rw[XF lo ((lo+hi) / 2) (zC<|X1 ge)<|.inr e,MQ];have:=i ge (Y1 e m) j;rwa [show max ((lo+hi) / 2+1) a=max lo a by lia]at this
   .by_cases c:b<(lo+hi) / 2+1
    .rw[XF ((lo+hi) / 2+1) hi (Cv ge)<|.inl c,E2];have:=g ge d<|K9.1 e;rwa [show min ((lo+hi) / 2) b=min hi b by exact Qc c d]at this
    .have k:=g ge d (by omega);have l:=i ge (K9.1 c) j;rw[show min ((lo+hi) / 2) b=(lo+hi) / 2 by exact Int.min_eq_left<|X1<|Int.lt_of_add_one_le<|K9.1 c]at k;rw[show max ((lo+hi) / 2+1) a=(lo+hi) / 2+1 by omega]at l;exact k.app l
  .lia
theorem Ak{a b:Int}:∀lo hi:Int,lo<=hi->((JU lo hi a b).length:Int)<=hi-lo+1:=by
 refine halves λlo hi c d e=>?_;by_cases hw:a<=lo/\hi<=b
 .rw[OH hw];simp;exact B7<|Q2 c
 .by_cases ge:lo<hi
  .rw[dU hw ge,T0];have:=d ge;have:=e ge
   lia
  .rw[WF hw ge];simp;exact M8<|Q2 c
theorem MB{a b:Int}:∀lo hi:Int,lo<=hi->(JU lo hi a b).Pairwise λp q=>p.1<q.1:=by
 refine halves λlo hi i c d=>?_;by_cases hw:a<=lo/\hi<=b
 .rw[OH hw];exact Q3 ..
 .by_cases ge:lo<hi
  .rw[dU hw ge,o6];refine⟨c ge,d ge,λp e q g=>?_⟩;have:=PH _ _ (zC<|X1 ge) p e;have:=PH _ _ (Cv ge) q g;omega
  .rw[WF hw ge];exact List.Pairwise.nil
theorem Ja{a b c d:Int}(h:a<c):HT.lexLt [c,d] [a,b]=false:=by rw[HT.lexLt_cons,Gd<|F8 h];exact Ee<|J6<|X1 h
theorem zj{lo hi a b:Int}(h:lo<=hi):((JU lo hi a b).map BP).Pairwise λx y=>HT.lexLt y x=false:=by rw[N5];exact(MB lo hi h).imp λh=>Ja h
noncomputable abbrev YT(n a b:Int):Od:=.list<|(JU 0 (n-1) a b).map jK
theorem Bk(l:Ot):l.map jK=(l.map BP).map gR:=by rw[A0];rfl
variable (P w K mg base) in
structure CalsCv:Prop where
 Kp:Cal P w K mg base 1 "two_halves" ["stretch"] (QX K XI)
def ZT:Con:=λc Q=>∃n a b:Int,c=[.fz<|.int n,.fz<|.int a,.fz<|.int b]/\1<=n/\n<=1000/\0<=a/\a<=b/\b<n/\∀o,Q (.ow<|YT n a b) o
theorem DP(F:Rr K "cover" (top 23) f fd)(T:Txt mg)(C:CalsCv P w K mg base):FnOk P w K mg base mJ 2 f fd ["side","low","high"] (QX K ZT):=by
 have S:FnScope ["side","low","high","found","waiting","stretch"] ["side","low","high"] (SX<|top 23):={};refine IJ F S (λke A outer s H E L=>RX (tZ 3<|WZ cK)<|RX (tZ 4<|WZ<|TX<|DZ<|iZ yZ<|TX<|WK (wn 0) UX)<|RX (EU PassesOwn.never (rJ lH PU (wx<|WJ T.Qp<|aZ 4) UX)<|RX (tZ 5<|GS cu Z PySem.F.slot_list_pop PySem.F.type_list_pop qy<|wn 4)<|AZ<|lJ (Hw<|wu (rJ JD tG (wn 1)<|wx<|ZX (wn 5) UX)<|Lz<|rJ JD tG (wx<|ZX (wn 5) UX)<|wn 2) (AZ<|nK<|uu wK Z PySem.F.slot_list_append PySem.F.type_list_append vK (wn 3)<|TX<|wv 5)<|AZ<|lJ (Hw<|wu (rJ JD tG (wx<|ZX (wn 5) UX)<|wn 2)<|Lz<|rJ JD tG (wn 1)<|wx<|ZX (wn 5) UX) (AZ<|nK<|uu PV Z PySem.F.slot_list_extend PySem.F.type_list_extend GV (wn 4)<|TX<|dZ C.Kp L.m<|aZ 5) GZ)<|sZ<|kZ QD (kU Z) T.Zo Ul<|aZ 3) ?_;rintro args Qd ⟨n,a,b,rfl,M,n2,a0,ab,bn,q⟩;have je:=nj _ 0 (n-1) rfl<|Q2 M;have cf:=Ak (a:=a) (b:=b) 0 (n-1) (by omega);refine⟨λm ρ=>∃(dn i:Ot) (x:Do Sl),ρ=[Zt<|.int n,Zt<|.int a,Zt<|.int b,Yt<|.list<|dn.map jK,Yt<|.list<|i.map jK,x]/\(dn++i.flatMap λp=>JU p.1 p.2 a b).Perm (JU 0 (n-1) a b)/\(∀p∈i,0<=p.1/\p.1<=p.2/\p.2<=1000)/\m=(eK i).length/\m<=1999/\(x=U\/∃d,x=Zt d),⟨_,[],[(0,n-1)],U,Z,by simp,by simp;exact⟨M,X1<|mX n2⟩,Z,by simp[eK];omega,.inl Z⟩,?_⟩;rintro m ρ ⟨dn,i,x,rfl,g,hw,rfl,hm,hx⟩;rcases hx with rfl|⟨xd,rfl⟩;all_goals
  refine RZ (λh=>?_)<|λh=>?_
  .refine⟨λR=>∃m',m'<(eK i).length/\_,λR h=>h,?_⟩;obtain⟨c,p,rfl⟩:∃c p,i=c++[p]:=by
    rcases Y8 i with e|⟨a,b,e⟩
    .subst e;simp at h
    .exact⟨a,b,by simpa using e⟩
   have e1:((c++[p]).map jK)[((c++[p]).map jK).length-1]?=O (jK p):=by simp
   have e2:((c++[p]).map jK).dropLast=c.map jK:=by simp
   have ea:(dn++[p]).map jK=dn.map jK++[jK p]:=by rw[u4];rfl
   have eb:(c++[(p.1,(p.1+p.2) / 2),((p.1+p.2) / 2+1,p.2)]).map jK=c.map jK++[jK (p.1,(p.1+p.2) / 2),jK ((p.1+p.2) / 2+1,p.2)]:=by rw[u4];rfl
   have k:=hw p (by simp);have l:∀p∈c,0<=p.1/\p.1<=p.2/\p.2<=1000:=λx hx=>hw x (by simp[hx]);have hL:=g.length_eq;rw[T0]at hL;have hwl:c.length<=(eK c).length:=uq c;have t:=hm;rw[RG,T0]at t ⊢;have j:=iB p.1 p.2;have Y:((c++[p]).flatMap λp=>JU p.1 p.2 a b)=(c.flatMap λp=>JU p.1 p.2 a b)++JU p.1 p.2 a b:=by simp
   rw[Y]at g;refine⟨_,e1,?_⟩;rw[e2];refine⟨_,Z,RZ (λv=>⟨_,Z,RZ (λy=>?_)<|λy=>?_⟩)<|λv=>?_⟩
   .have v:a<=p.1:=Ld v;have y:p.2<=b:=Ld y;rw[OH ⟨v,y⟩]at g;refine⟨by rw[l0];exact L1 (show dn.length<=1999 by omega)<|by decide,?_⟩;refine⟨(eK c).length,KQ j,dn++[p],c,_,by rw[ea];rfl,?_,l,Z,c6 t,.inr ⟨_,Z⟩⟩;refine List.Perm.trans ?_ g;rw[V2];exact List.Perm.append_left _ b8
   all_goals
    have ni:¬(a<=p.1/\p.2<=b):=by first|exact λz=>y (Pd z.2)|exact λz=>v<|Pd z.1
    refine⟨_,Z,RZ (λB=>⟨_,Z,RZ (λG=>?_)<|λG=>?_⟩)<|λB=>?_⟩
    .have B:p.1<=b:=Ld B;have G:a<=p.2:=Ld G;have ge:p.1<p.2:=by omega
     rw[dU ni ge]at g;rw[rV ge]at t ⊢;refine⟨p.1,p.2,Z,k.1,Y1 k.1<|X1 ge,Y1 (X1 ge) (Y1 k.2.2<|by decide),Y1 k.2.2<|by decide,λo=>?_⟩;refine⟨by rw[l0];exact K0 (show c.length+2<=3000 by omega)<|by decide,?_⟩;simp only[J2,T0]at t ⊢;have epl:(eK<|c++[(p.1,(p.1+p.2) / 2),((p.1+p.2) / 2+1,p.2)]).length=(hl ((p.1+p.2) / 2+1) p.2).length+(hl p.1<|(p.1+p.2) / 2).length+(eK c).length:=by simp[eK];exact Eq.symm<|o5 _ _ _
     refine⟨(eK<|c++[(p.1,(p.1+p.2) / 2),((p.1+p.2) / 2+1,p.2)]).length,by omega,dn,c++[(p.1,(p.1+p.2) / 2),((p.1+p.2) / 2+1,p.2)],_,by rw[eb];rfl,?_,?_,Z,by omega,.inr ⟨_,Z⟩⟩
     .simpa using g
     .intro x hx;simp only[B2,R0,h7,or_false]at hx;rcases hx with hx|rfl|rfl
      .exact l x hx
      .exact⟨k.1,by show p.1<=(p.1+p.2) / 2;exact zC<|X1 ge,by show (p.1+p.2) / 2<=1000;omega⟩
      .exact⟨by show 0<=(p.1+p.2) / 2+1;omega,by show (p.1+p.2) / 2+1<=p.2;exact Cv ge,by show p.2<=1000;exact k.2.2⟩
    all_goals
     have no:b<p.1\/p.2<a:=by
      first
      |exact .inr<|L9.mp λz=>G<|Pd z
      |exact .inl<|L9.mp λz=>B<|Pd z
     rw[XF _ _ k.2.1 no,E2]at g;exact⟨(eK c).length,KQ j,dn,c,_,Z,g,l,Z,c6 t,.inr ⟨_,Z⟩⟩
  .have e:i=[]:=by
    cases i with
    |nil=>rfl
    |cons a b=>exact absurd (Pd<|by simp) h
   subst e;have g:dn.Perm (JU 0 (n-1) a b):=by simpa using g
   have lp:=g.length_eq;refine⟨dn.map BP,Bk dn,by rw[l0];exact K0 (show _<=3000 by omega)<|by decide,λr L=>?_,λbf r1 r2=>?_⟩
   .obtain⟨p,_,rfl⟩:=v0.mp L;simp
   .have e:bf=(JU 0 (n-1) a b).map BP:=SG.sorted_uniq (λa b=>SG.lex_eq) (r1.trans<|g.map _) r2<|zj<|Q2 M;subst e;have:=q;rw[<-Bk];exact q _
structure Prs(n:Int)(ps:Ot):Prop where
 perm:(ps.map BP).Perm (hl 0<|n-1)
 srt:(ps.map BP).Pairwise λx y=>HT.lexLt y x=Er
noncomputable def iL(q:Int×Int×Int):Ot:=JU 0 (q.1-1) q.2.1 q.2.2
noncomputable def Ck(sd lo hi:Qo):List (List<|Int×Int):=(sd.zip<|lo.zip hi).map iL
noncomputable def aA(sd lo hi:Qo):List qZ:=(mZ [[]]<|Ck sd lo hi).map bo
noncomputable def Dq(sd lo hi:Qo):List qZ:=sv NK<|aA sd lo hi
theorem Aj:∀{sd lo hi:Qo},Bx lo hi sd->∀q∈sd.zip (lo.zip hi),q.1∈sd/\0<=q.2.1/\q.2.1<=q.2.2/\q.2.2<q.1
 |[],[],[],_,q,h=>by simp at h
 |s::sd,a::lo,b::hi,h,q,c=>by
  have c:q∈(s,a,b)::sd.zip (lo.zip hi):=c;rcases R0.mp c with rfl|c
  .exact⟨G0,h.1.1,h.1.2.1,h.1.2.2⟩
  .have:=Aj h.2 q c;exact⟨q0 _ this.1,this.2⟩
 |_::_,[],[],h,_,_=>h.elim
 |z,[],_::_,h,_,_=>by cases z<;>exact h.elim
 |z,_::_,[],h,_,_=>by cases z<;>exact h.elim
 |[],_::_,_::_,h,_,_=>h.elim
theorem Bj{q:Int×Int×Int}(h0:0<=q.2.1)(c:q.2.1<=q.2.2)(d:q.2.2<q.1):iL q≠[]/\((iL q).length:Int)<=q.1/\Tl q.2.1 q.2.2 (iL q):=by
 have t:=CP c 0 (q.1-1) (by lia) (Y1 h0 c)<|Y1 c<|S6 d;rw[show max 0 q.2.1=q.2.1 by exact Int.max_eq_right h0,show min (q.1-1) q.2.2=q.2.2 by exact mQ<|S6 d]at t;have l:=Ak (a:=q.2.1) (b:=q.2.2) 0 (q.1-1) (by omega);refine⟨λz=>?_,by unfold iL;omega,t⟩;have t:Tl q.2.1 q.2.2 (iL q):=t;rw[z]at t;have t:q.2.1=q.2.2+1:=t
 lia
theorem YF:∀{sd lo hi:Qo},Bx lo hi sd->(TZ (Ck sd lo hi):Int)<=vZ sd
 |[],[],[],_=>by show (1:Int)<=1;decide
 |s::sd,a::lo,b::hi,h=>by
  have c:=YF h.2;obtain⟨_,l,_⟩:=Bj (q:=(s,a,b)) h.1.1 h.1.2.1 h.1.2.2;have e:(TZ (Ck (s::sd) (a::lo) (b::hi)):Int)=((iL (s,a,b)).length:Int)*(TZ (Ck sd lo hi):Int):=by show (((iL (s,a,b)).length*TZ (Ck sd lo hi):Nat):Int)=_;exact w8 _ _
  rw[e];show _<=s*vZ sd;have d:=h.1;exact N6 l c (G3 _) (by lia)
 |_::_,[],[],h=>h.elim
 |z,[],_::_,h=>by cases z<;>exact h.elim
 |z,_::_,[],h=>by cases z<;>exact h.elim
 |[],_::_,_::_,h=>h.elim
theorem NB{sd:Qo}(h:Bx lo hi sd):∀c∈Ck sd lo hi,c≠[]:=λc a=>by obtain⟨q,b,rfl⟩:=v0.mp a;obtain⟨_,h0,d,e⟩:=Aj h q b;exact(Bj h0 d e).1
theorem uM{sd:Qo}(h:Bx lo hi sd):(Ck sd lo hi).length=sd.length:=by
 have hl:=FJ h;unfold Ck;rw[l0,U1,U1]
 lia
theorem jL{sd:Qo}(a:Sd sd)(h:Bx lo hi sd):(aA sd lo hi).length<=120:=by have b:=YF h;have c:=a.m;unfold aA;rw[l0,IZ];simp;exact G8.1<|Y1 b c
noncomputable def md:Od->Od
 | .tuple [.int s,.int a,.int b]=>YT s a b
 |_=>.none
variable (P w K mg base) in
structure CalsBc:Prop where
 Vp:Cal P w K mg base 2 "boxes_by" ["choices"] (QX K Ga)
 Up:Cal P w K mg base 2 "cover" ["side","low","high"] (QX K ZT)
def Lb:Con:=λa Q=>∃sd lo hi:Qo,a=[.fz<|tupD sd,.fz<|VX (lo,hi)]/\Sd sd/\Bx lo hi sd/\∀o,Q (.ow<|.list<|(Dq sd lo hi).map VX) o
theorem bA(F:Rr K "box_cover" (top 46) f fd)(T:Txt mg)(C:CalsBc P w K mg base):FnOk P w K mg base mJ 3 f fd ["sides","box"] (QX K Lb):=by
 have S:FnScope ["sides","box"] ["sides","box"] (SX<|top 46):={};refine IJ F S (λx A outer s H E k=>sZ<|dZ C.Vp k.m<|TX<|NF ["side","low","high"] [] (Mz Z T.Xo<|hZ 0<|iZ (ZX (wn 1) UX)<|TX<|ZX (wn 1) UX) (λ_ _ _ _=>pK Z rfl<|lZ (HZ 0)<|lZ (HZ 1)<|lZ (HZ 2) EJ)<|λ_ _ _ _=>dZ C.Up k.m<|hZ 0<|hZ 1<|aZ 2) ?_;rintro l y ⟨sd,lo,hi,rfl,c,ff,q⟩;have t:=c.l3;have B:=c.m;have G:=FJ ff;have e:=bU sd lo hi;refine⟨_,Z,_,Z,by rw[e,l0,U1];exact WX<|K0 (t7 _ _)<|K0 t<|X2 _ _,sJ md ?_ ?_⟩
 .intro d hd N hN;rw[e]at hd;obtain⟨⟨s,a,b⟩,hx,rfl⟩:=v0.mp hd;obtain⟨v,g,i,j⟩:=Aj ff _ hx;have L:=OZ c.p s v;simp only at g i j;exact⟨Z,s,a,b,Z,X3 g<|X3 i j,by lia,g,i,j,λo=>hN⟩
 .refine⟨Ck sd lo hi,?_,NB ff,by have:=YF ff;lia,by rw[uM ff];exact t,λo=>q _⟩;rw[e,A0];unfold Ck;rw[A0];rfl
noncomputable def hit:Ot->Qo->Bool
 |p::a,x::b=>(Es (p.1<=x)&&Es (x<=p.2))&&hit a b
 |_,_=>Ep
theorem Dk:∀(a:Ot) (b:Qo),DY (bo a).1 b (bo a).2=hit a b
 |[],b=>by simp[bo,DY,hit]
 |p::a,[]=>by simp[bo,DY,hit]
 |p::a,x::b=>by show ((Es (p.1<=x)&&Es (x<=p.2))&&DY (bo a).1 b (bo a).2)=_;rw[Dk a b];rfl
theorem Fq:∀{p:Ot}{a:Qo} (y:Int×Int) (x:Int),p.length=a.length->hit (p++[y]) (a++[x])=(hit p a&&(Es (y.1<=x)&&Es (x<=y.2)))
 |[],[],y,x,_=>by simp[hit]
 |q::p,z::a,y,x,h=>by show ((Es (q.1<=z)&&Es (z<=q.2))&&hit (p++[y]) (a++[x]))=(((Es (q.1<=z)&&Es (z<=q.2))&&hit p a)&&_);rw[Fq y x<|by simpa using h];simp only[Bool.and_assoc]
 |[],_::_,_,_,h=>by simp at h
 |_::_,[],_,_,h=>by simp at h
noncomputable def vv:List (List<|Int×Int)->Qo->Nat
 |c::a,x::xs=>c.countP (λp=>Es (p.1<=x)&&Es (x<=p.2))*vv a xs
 |_,_=>1
theorem Gq{b:Qo}(x:Int)(c:Ot):∀(a:List (List<|Int×Int)),(∀p∈a,p.length=b.length) -> (a.flatMap λp=>c.map λy=>p++[y]).countP (λd=>hit d<|b++[x])=a.countP (λd=>hit d b)*c.countP (λp=>Es (p.1<=x)&&Es (x<=p.2))
 |[],_=>by simp
 |p::a,h=>by
  have g:=Gq x c a λq i=>h q<|q0 _ i;have j:=h p G0;rw[Y2,List.countP_append,g,g7,Nat.add_mul,E8,List.countP_map];congr 1;have e:((λd=>hit d<|b++[x])∘λy=>p++[y])=λy:Int×Int=>hit p b&&(Es (y.1<=x)&&Es (x<=y.2)):=by funext y;exact Fq y x j
  rw[e];cases hit p b with
  |true=>simp
  |false=>simp
theorem Hq:∀(g a:List (List<|Int×Int)) (d b:Qo),(∀p∈a,p.length=d.length)->b.length=g.length->(mZ a g).countP (λi=>hit i<|d++b)=a.countP (λi=>hit i d)*vv g b
 |[],a,d,b,_,hl=>by have e:b=[]:=U6.mp hl;subst e;rw[E2];show a.countP _=_*1;rw[Nat.mul_one]
 |c::g,a,d,[],_,hl=>by simp at hl
 |c::g,a,d,x::b,h,hl=>by
  have e:d++x::b=(d++[x])++b:=by simp
  rw[e];show (mZ (a.flatMap λp=>c.map λy=>p++[y]) g).countP _=_*(c.countP _*vv g b);rw[Hq g _ (d++[x]) b (λq j=>?_) (by simpa using hl),Gq x c a h,cQ];obtain⟨p,k,j⟩:=i5.mp j;obtain⟨y,_,rfl⟩:=v0.mp j;rw[T0,T0,h p k];rfl
theorem Tl.le:∀{l:Ot}{s e:Int},Tl s e l->s<=e+1
 |[],s,e,h=>by have h:s=e+1:=h;exact DQ h
 |p::l,s,e,h=>by
  have a:=Tl.le h.2.2;have b:=h.1;have c:=h.2.1
  lia
theorem Tl.cnt(x:Int):∀{l:Ot}{s e:Int},Tl s e l->l.countP (λp=>Es (p.1<=x)&&Es (x<=p.2))=if s<=x/\x<=e then 1 else 0
 |[],s,e,h=>by have h:s=e+1:=h;rw[Gd<|by lia];rfl
 |p::l,s,e,h=>by
  have c:=Tl.cnt x h.2.2;have d:=Tl.le h.2.2;have g:=h.1;have i:=h.2.1;rw[g7,c];by_cases a:p.1<=x/\x<=p.2
  .rw[Gd<|by lia,Jd (by rw[Pd a.1,Pd a.2];rfl),Jd<|⟨Y1 (DQ g.symm) a.1,Y1 a.2<|l9 d⟩]
  .rw[Gd<|show ¬(Es (p.1<=x)&&Es (x<=p.2))=Ep from λz=>a<|by simpa using z];by_cases b:p.2+1<=x/\x<=e
   .rw[Jd b,Jd<|by lia]
   .rw[Gd b,Gd<|by lia]
theorem Ek:∀{sd lo hi xs:Qo},Bx lo hi sd->xs.length=sd.length->vv (Ck sd lo hi) xs=if DY lo xs hi=Ep then 1 else 0
 |[],[],[],[],_,_=>by simp[Ck,vv,DY]
 |s::sd,a::lo,b::hi,x::xs,h,hl=>by
  have e:=Ek (xs:=xs) h.2 (by simpa using hl);have d:=h.1;obtain⟨_,_,t⟩:=Bj (q:=(s,a,b)) d.1 d.2.1 d.2.2;have g:=Tl.cnt x t;show (iL (s,a,b)).countP _*vv (Ck sd lo hi) xs=if ((Es (a<=x)&&Es (x<=b))&&DY lo xs hi)=Ep then 1 else 0;rw[g,e];simp only;by_cases c:a<=x/\x<=b
  .rw[Jd c,Pd c.1,Pd c.2,NX];rfl
  .rw[Gd c,Nat.zero_mul,Gd];intro z;rw[J1,J1,decide_eq_true_eq,decide_eq_true_eq]at z;exact c z.1
 |[],[],[],_::_,_,h=>by simp at h
 |_::_,_::_,_::_,[],_,h=>by simp at h
 |_::_,[],[],_,h,_=>h.elim
 |z,[],_::_,_,h,_=>by cases z<;>exact h.elim
 |z,_::_,[],_,h,_=>by cases z<;>exact h.elim
 |[],_::_,_::_,_,h,_=>h.elim
theorem kL{sd a:Qo}(h:Bx lo hi sd)(hl:a.length=sd.length):(Dq sd lo hi).countP (λb=>DY b.1 a b.2)=if DY lo a hi=Ep then 1 else 0:=by
 unfold Dq;rw[(ZZ _ _).countP_eq];unfold aA;rw[List.countP_map];have e:((λb:qZ=>DY b.1 a b.2)∘bo)=λc=>hit c ([]++a):=by funext c;exact Dk c a
 rw[e,Hq _ [[]] [] a (by simp) (by rw[uM h];exact hl),Ek h hl];show 1*_=_;rw[NX]
theorem QH(f g:β->List α):∀bs:List β,(bs.flatMap λb=>f b++g b).Perm (bs.flatMap f++bs.flatMap g)
 |[]=>.refl _
 |b::bs=>by have a:=QH f g bs;rw[Y2,Y2,Y2];have c:(f b++g b++bs.flatMap λb=>f b++g b).Perm (f b++g b++(bs.flatMap f++bs.flatMap g)):=a.append_left _;refine c.trans ?_;rw[V2,V2];refine List.Perm.append_left _ ?_;rw[<-V2,<-V2];exact b8.append_right _
theorem Iq{p:α->Bool}{q:β->α->Bool}(bs:List β):∀{l:List α},(∀x∈l,bs.countP (λb=>q b x)=if p x=Ep then 1 else 0)->(l.filter p).Perm (bs.flatMap λb=>l.filter<|q b)
 |[],_=>by
  have e:(bs.flatMap λb=>([]:List α).filter<|q b)=[]:=by simp
  rw[e];exact .refl _
 |x::l,h=>by
  have a:=Iq bs (l:=l) λy hy=>h y<|q0 _ hy;have hx:=h x G0;have e:(bs.flatMap λb=>(x::l).filter<|q b)=bs.flatMap λb=>(if q b x=Ep then [x] else [])++l.filter (q b):=by congr 1;funext b;rw[K6];split<;>rfl
  rw[e];refine List.Perm.trans ?_ (QH _ _ bs).symm;have c:(bs.flatMap λb=>if q b x=Ep then [x] else [])=u3 (bs.countP λb=>q b x) x:=by
   clear h a hx e;induction bs with
   |nil=>rfl
   |cons b bs a =>
    rw[Y2,g7,a];by_cases z:q b x=Ep
    .rw[Jd z,Jd z,U5];rfl
    .rw[Gd z,Gd z];rfl
  rw[c,hx,K6];by_cases z:p x=Ep
  .rw[Jd z,Jd z];exact a.cons x
  .rw[Gd z,Gd z];exact a
theorem Fk{sd:Qo}(h:Bx lo hi sd){b:qZ}(e:b∈Dq sd lo hi):b∈hbs sd:=by
 unfold Dq at e;rw[(ZZ _ _).mem_iff]at e;obtain⟨c,i,rfl⟩:=v0.mp e;refine hbs_mem.mpr ⟨c,?_,Z⟩;have g:∀{sd lo hi:Qo}{c:Ot},Bx lo hi sd->lU c (Ck sd lo hi)->lU c (sd.map UJ):=by
  intro sd;induction sd with
  |nil =>
   intro lo hi c h d;cases c with
   |nil=>trivial
   |cons=>cases lo<;>cases hi<;>first|exact h.elim|exact d.elim
  |cons s sd j =>
   intro lo hi c h d;cases lo with
   |nil=>cases hi<;>exact h.elim
   |cons a lo =>
    cases hi with
    |nil=>exact h.elim
    |cons b hi =>
     cases c with
     |nil=>exact d.elim
     |cons p c=>have l:=h.1;have k:p∈JU 0 (s-1) a b:=d.1;exact⟨UF (PH _ _ (by lia) p k).1,j h.2 d.2⟩
 exact g h<|YZ i
theorem OB{sd:Qo}(h:Bx lo hi sd):Dq sd lo hi≠[]:=λz=>by
 have b:=bW<|NB h;have a:=Ae W5 z;unfold Dq at a;rw[(ZZ _ _).length_eq]at a;unfold aA at a;rw[l0,IZ]at a;simp at a
 lia
theorem lL{sd:Qo}(d:∀c∈sd,1<=c)(h:Bx lo hi sd):(jZ sd cl lo hi).Perm ((Dq sd lo hi).flatMap λb=>jZ sd cl b.1 b.2):=by
 have e:((Dq sd lo hi).flatMap λb=>jZ sd cl b.1 b.2)=((Dq sd lo hi).flatMap λb=>(tJ sd).filter λp=>DY b.1 p b.2).map (cel sd cl):=by
  rw[rQ];have a:∀l:List qZ,(∀b∈l,b∈hbs sd)->(l.flatMap λb=>jZ sd cl b.1 b.2)=l.flatMap λb=>((tJ sd).filter λp=>DY b.1 p b.2).map (cel sd cl):=λl=>by
   induction l with
   |nil=>intro _;rfl
   |cons b l g=>intro hl;rw[Y2,Y2,g λc i=>hl c<|q0 _ i];rw[aU<|EK d<|hl b G0];rfl
  exact a _ λb j=>Fk h j
 rw[e];unfold jZ;refine List.Perm.map _ ?_;rw[<-aU h];exact Iq _ λx hx=>kL h<|cW<|RW hx
theorem PB{l:Qo}{bs:List qZ}{f:qZ->Qo}(h:l.Perm (bs.flatMap f))(g:bs≠[])(hf:∀b∈bs,f b≠[]):fL l=[(bs.map λb=>(f b).sum).sum,GJ<|bs.map λb=>GJ<|f b,HJ<|bs.map λb=>HJ<|f b]:=by
 unfold fL;have k:l.sum=(bs.map λb=>(f b).sum).sum:=by
  rw[Cq h];clear h g hf;induction bs with
  |nil=>rfl
  |cons b bs m=>rw[Y2,List.sum_append,m];rfl
 have c:(bs.map λb=>GJ<|f b)≠[]:=λz=>g<|Q4.mp z;have d:(bs.map λb=>HJ<|f b)≠[]:=λz=>g<|Q4.mp z;have q:GJ (bs.map λb=>GJ<|f b)=GJ l:=by
  refine PK (h.mem_iff.mpr ?_) λy hy=>?_
  .obtain⟨b,a,e⟩:=v0.mp (eJ c).1;rw[<-e];exact i5.mpr ⟨b,a,(eJ<|hf b a).1⟩
  .obtain⟨b,a,hy⟩:=i5.mp<|h.mem_iff.mp hy;have i:=(eJ c).2 _<|v0.mpr ⟨b,a,Z⟩;have j:=(eJ<|hf b a).2 y hy;exact Y1 i j
 have t:HJ (bs.map λb=>HJ<|f b)=HJ l:=by
  refine QK (h.mem_iff.mpr ?_) λy hy=>?_
  .obtain⟨b,a,e⟩:=v0.mp (fJ d).1;rw[<-e];exact i5.mpr ⟨b,a,(fJ<|hf b a).1⟩
  .obtain⟨b,a,hy⟩:=i5.mp<|h.mem_iff.mp hy;have i:=(fJ d).2 _<|v0.mpr ⟨b,a,Z⟩;have j:=(fJ<|hf b a).2 y hy;exact Y1 j i
 rw[k,q,t]
theorem FP{sd:Qo}(d:∀c∈sd,1<=c):(hbs sd).Pairwise λa b=>NK a b=true:=by
 have e:(hbs sd).Pairwise λa b=>NK b a=false:=TF ltB_wk _;refine(e.and<|cU d).imp λ{a b} ⟨x,y⟩=>?_;cases z:NK a b with
 |true=>rfl
 |false=>exact absurd (Ou z x) y
theorem vM{L:List qZ}(hl:L.Pairwise λa b=>NK a b=Ep){t:Nat}{b:qZ}(l:L[t]?=O b){m:Nat}{c:qZ}(v:L[m]?=O c):NK c b=Es (m<t):=by
 obtain⟨g,e⟩:=O1.mp l;obtain⟨i,d⟩:=O1.mp v;have j:=B4.mp hl;by_cases q:m<t
 .rw[Pd q,<-e,<-d];exact j m t i g q
 .rw[Ee q];by_cases x:m=t
  .subst x;rw[e]at d;rw[<-d];exact ltB_wk.irr b
  .have k:=j t m g i (by lia);rw[e,d]at k;cases y:NK c b with
   |false=>rfl
   |true=>have:=ltB_wk.tr _ _ _ k y;rw[ltB_wk.irr]at this;cases this
def Mb:Con:=λa Q=>∃(sd cl:Qo) (b:qZ),a=[.fz<|.list<|(hbs sd).map<|KH sd cl,.fz<|.tuple [VX b]]/\Sd sd/\b∈hbs sd/\∀o,Q (.fz<|KH sd cl b) o
theorem cA:FnScope ["table","key","low","high","middle"] ["table","key"] (SX<|top 10):={}
theorem dA(F:Rr K "entry_at" (top 10) f fd)(T:Txt mg):FnOk P w K mg base mJ 1 f fd ["table","key"] (QX K Mb):=by
 have S:=cA;refine IJ F S (λke A outer s H E hr=>RX (tZ 2 yZ)<|RX (tZ 3<|WK (wx<|WJ T.Qp<|aZ 0) UX)<|RX (EU PassesOwn.never (rJ hU UW (wn 2)<|wn 3)<|RX (tZ 4<|w_bin mW jW (wx<|JJ (wn 2)<|wn 3) UX)<|AZ<|lJ (rJ fB (eB<|BF hr) (wx<|ZX (wn 0)<|wn 4)<|wn 1) (AZ<|tZ 2<|JJ (wn 4) UX)<|AZ<|RV (i:=3) S.nd Z (Or.inl Z)<|wn 4)<|sZ<|ZX (wn 0)<|wn 2) ?_;rintro G Qd ⟨sd,cl,b,rfl,M,hb,q⟩;have hn:=HU M;obtain⟨t,v,R⟩:=l6.mp hb;have g:(hbs sd)[t]?=O b:=by rw[L0 v,R]
 have ge:=FP M.p;generalize hbs sd=L at hn v R g ge ⊢;have Y:∀{m:Nat},m<L.length->∃c,L[m]?=O c/\vW (L.map<|KH sd cl) (m:Int)=O (KH sd cl c):=λ{m} hm=>⟨L[m],L0 hm,bJ<|by rw[Z0,L0 hm];rfl⟩;have je:(L.map<|KH sd cl).length=L.length:=l0 _;with_reducible refine xZ (λρ=>ρ=[Zt<|.list<|L.map<|KH sd cl,Zt<|.tuple [VX b],Zt<|.int 0,U,U]) ?_ ?_
 .intro N hN;exact hN _ Z
 rintro _ rfl;with_reducible refine xZ (λρ=>ρ=[Zt<|.list<|L.map<|KH sd cl,Zt<|.tuple [VX b],Zt<|.int 0,Zt<|.int<|(L.length:Int)-1,U]) ?_ ?_
 .intro N hN;rw[<-je]at hN;exact hN _ Z
 rintro _ rfl;with_reducible refine xZ (λρ=>∃e:Do Sl,ρ=[Zt<|.list<|L.map<|KH sd cl,Zt<|.tuple [VX b],Zt<|.int (t:Nat),Zt<|.int (t:Nat),e]) ?_ ?_
 .intro N hN;refine⟨λm ρ=>∃(lo hi:Nat) (e:Do Sl),(e=U\/∃d,e=Zt d)/\lo<=t/\t<=hi/\hi<L.length/\m=hi-lo/\ρ=[Zt<|.list<|L.map<|KH sd cl,Zt<|.tuple [VX b],Zt<|.int (lo:Nat),Zt<|.int (hi:Nat),e],⟨L.length-1,0,L.length-1,U,.inl Z,v4 _,Q1 v,Q6 _ _<|Nat.zero_lt_of_lt v,Z,?_⟩,?_⟩
  .rw[show ((L.length-1:Nat):Int)=(L.length:Int)-1 by lia];rfl
  rintro m ρ ⟨lo,hi,e,y,h1,h2,h3,rfl,rfl⟩;refine RZ (λh=>?_)<|λh=>?_
  .have h:(lo:Int)<(hi:Int):=Ld h;refine⟨λρ=>∃(k j:Nat) (d:Od),j-k<hi-lo/\k<=t/\t<=j/\j<L.length/\ρ=[Zt<|.list<|L.map<|KH sd cl,Zt<|.tuple [VX b],Zt<|.int (k:Nat),Zt<|.int (j:Nat),Zt d],?_,?_⟩
   .rintro ρ' ⟨k,j,d,k1,k2,k3,k4,rfl⟩;exact⟨j-k,k1,k,j,Zt d,.inr ⟨d,Z⟩,k2,k3,k4,Z,Z⟩
   have em:((lo:Int)+(hi:Int)) / 2=(((lo+hi) / 2:Nat):Int):=rfl;have x:(lo+hi) / 2<L.length:=by lia
   obtain⟨c,l,B⟩:=Y x;have jo:=vM ge g l;with_reducible refine xZ (λρ=>ρ=[Zt<|.list<|L.map<|KH sd cl,Zt<|.tuple [VX b],Zt<|.int (lo:Nat),Zt<|.int (hi:Nat),Zt<|.int (((lo+hi) / 2:Nat):Int)]) ?_ ?_
   .intro N2 C;rw[<-em]at C;rcases y with rfl|⟨d,rfl⟩
    .exact⟨⟨by decide,by decide⟩,C _ Z⟩
    .exact⟨⟨by decide,by decide⟩,C _ Z⟩
   rintro _ rfl;refine⟨_,B,c,b,.inr ⟨_,Z,Z⟩,?_⟩;refine RZ (λa=>?_)<|λa=>?_
   .have a:NK c b=true:=a;rw[jo]at a;have a:=Ld a;exact⟨(lo+hi) / 2+1,hi,_,by exact cb<|U4.1 h,by exact a,h2,h3,by rw[show (((lo+hi) / 2+1:Nat):Int)=(((lo+hi) / 2:Nat):Int)+1 by exact RQ _ _];rfl⟩
   .have a:¬NK c b=true:=a;rw[jo]at a;have a:¬(lo+hi) / 2<t:=λz=>a<|Pd z;exact⟨lo,(lo+hi) / 2,_,Za<|U4.1 h,h1,E1 a,by omega,Z⟩
  .have h:¬(lo:Int)<(hi:Int):=λz=>h<|Pd z;have e1:lo=t:=by lia
   have e2:hi=t:=by lia
   subst e1;subst e2;exact hN _ ⟨e,Z⟩
 rintro _ ⟨e,rfl⟩;obtain⟨c,l,B⟩:=Y v;have ec:c=b:=by rw[g]at l;injection l with l;exact l.symm
 subst ec;exact⟨_,B,q _⟩
noncomputable def f30:Od->Od
 | .tuple [a,_,_]=>a
 |_=>.none
noncomputable def f31:Od->Od
 | .tuple [_,b,_]=>b
 |_=>.none
noncomputable def f32:Od->Od
 | .tuple [_,_,c]=>c
 |_=>.none
noncomputable def Ka(sd cl:Qo):Od->Od
 | .tuple [.tuple p,.tuple q]=>tupD<|IU sd cl (p.map unI,q.map unI)
 |_=>.none
theorem QB(sd cl:Qo)(b:qZ):Ka sd cl (VX b)=tupD (IU sd cl b):=by show tupD (IU sd cl ((b.1.map n0).map unI,(b.2.map n0).map unI))=_;rw[KJ,KJ]
def La:Con:=λb Q=>∃a:List (Int×Int×Int),b=[.fz<|.list<|a.map λe=>tupD [e.1,e.2.1,e.2.2]]/\a≠[]/\a.length<=1000/\∀o,Q (.fz<|tupD [(a.map λe=>e.1).sum,GJ<|a.map λe=>e.2.1,HJ<|a.map λe=>e.2.2]) o
theorem fA(F:Rr K "put_together" (top 35) f fd)(T:Txt mg):FnOk P w K mg base mJ 1 f fd ["parts"] (QX K La):=by
 have S:FnScope ["parts","total"] ["parts"] (SX<|top 35):={};refine IJ F S (λy A outer s H E B=>RX (tZ 1<|kZ zF (nW (K:=K) Z Z) T.Jp Bo<|TX<|SJ ["part"] [] (CZ rfl<|wv 0)<|λ_ _ _ _=>ZX (wn 0) UX)<|sZ<|DZ<|iZ (wv 1)<|iZ (kZ IW (CK (K:=K) Z Z) T.Qt Ti<|TX<|SJ ["part"] [] (CZ rfl<|wv 0)<|λ_ _ _ _=>ZX (wn 0) UX)<|TX<|kZ JW (DK (K:=K) Z Z) T.Qs Ui<|TX<|SJ ["part"] [] (CZ rfl<|wv 0)<|λ_ _ _ _=>ZX (wn 0) UX) ?_;rintro b C ⟨a,rfl,c,hl,q⟩;have h0:0<a.length:=c5.mpr c;have g:(a.map λe=>tupD [e.1,e.2.1,e.2.2]).map f30=(a.map λe=>e.1).map n0:=by rw[A0,A0];rfl
 have i:(a.map λe=>tupD [e.1,e.2.1,e.2.2]).map f31=(a.map λe=>e.2.1).map n0:=by rw[A0,A0];rfl
 have j:(a.map λe=>tupD [e.1,e.2.1,e.2.2]).map f32=(a.map λe=>e.2.2).map n0:=by rw[A0,A0];rfl
 with_reducible refine xZ (λρ=>ρ=[Zt<|.list<|a.map λe=>tupD [e.1,e.2.1,e.2.2],Zt<|.int (a.map λe=>e.1).sum]) ?_ ?_
 .intro N hN;refine⟨WX (by rw[l0];omega),sJ f30 ?_ ?_⟩
  .intro d hd G k;obtain⟨e,_,rfl⟩:=v0.mp hd;exact⟨_,Z,k⟩
  rw[g];exact⟨_,Z,hN _ Z⟩
 rintro _ rfl;refine⟨WX (by rw[l0];omega),sJ f31 ?_ ?_⟩
 .intro d hd N hN;obtain⟨e,_,rfl⟩:=v0.mp hd;exact⟨_,Z,hN⟩
 rw[i];refine⟨a.map λe=>e.2.1,Z,by rw[l0];exact h0,λm l t=>?_⟩;refine⟨WX (by rw[l0];omega),sJ f32 ?_ ?_⟩
 .intro d hd N hN;obtain⟨e,_,rfl⟩:=v0.mp hd;exact⟨_,Z,hN⟩
 rw[j];refine⟨a.map λe=>e.2.2,Z,by rw[l0];exact h0,λM v x=>?_⟩;rw[PK l t,QK v x];exact q _
variable (P w K mg base) in
structure CalsBh:Prop where
 Ur:Cal P w K mg base 3 "box_cover" ["sides","box"] (QX K Lb)
 Us:Cal P w K mg base 1 "entry_at" ["table","key"] (QX K Mb)
 Ut:Cal P w K mg base 1 "put_together_tables" ["parts"] (QX K La)
def Ma:Con:=λa Q=>∃sd cl lo hi:Qo,a=[.fz<|tupD sd,.fz<|.list<|(hbs sd).map<|KH sd cl,.fz<|VX (lo,hi)]/\Sd sd/\Bx lo hi sd/\∀o,Q (.fz<|tupD<|IU sd cl (lo,hi)) o
theorem gA(F:Rr K "by_halves" (top 47) f fd)(T:Txt mg)(C:CalsBh P w K mg base):FnOk P w K mg base mJ 4 f fd ["sides","table","box"] (QX K Ma):=by
 have S:FnScope ["sides","table","box"] ["sides","table","box"] (SX<|top 47):={};refine IJ F S (λl A outer s H E c=>sZ<|dZ C.Ut c.m<|TX<|SJ ["piece"] [1] (CZ rfl<|dZ C.Ur c.m<|hZ 0<|aZ 2)<|λ_ _ _ _=>ZX (wx<|dZ C.Us c.m<|hZ 1<|TX<|DZ<|TX<|wv 0) UX) ?_;rintro i j ⟨sd,cl,lo,hi,rfl,a,ff,q⟩;have t:(Dq sd lo hi).length<=120:=by unfold Dq;rw[(ZZ _ _).length_eq];exact jL a ff
 refine⟨sd,lo,hi,Z,a,ff,λo=>⟨WX (by rw[l0];lia),sJ (Ka sd cl) ?_ ?_⟩⟩
 .intro d hd N hN;obtain⟨b,g,rfl⟩:=v0.mp hd;rw[QB]at hN;exact⟨sd,cl,b,Z,a,Fk ff g,λo=>⟨_,Z,hN⟩⟩
 have e:((Dq sd lo hi).map VX).map (Ka sd cl)=((Dq sd lo hi).map λb=>((jZ sd cl b.1 b.2).sum,GJ<|jZ sd cl b.1 b.2,HJ<|jZ sd cl b.1 b.2)).map λe=>tupD [e.1,e.2.1,e.2.2]:=by rw[A0,A0];exact A1 λb _=>QB sd cl b
 rw[e];refine⟨_,Z,λz=>OB ff<|Q4.mp z,by rw[l0];omega,λo=>?_⟩;have h:=PB (f:=λb=>jZ sd cl b.1 b.2) (lL (cl:=cl) a.p ff) (OB ff) λb g=>jJ<|EK a.p<|Fk ff g;unfold IU at q;rw[h]at q;have k:∀o,j (.fz<|tupD [(((Dq sd lo hi).map λb=>((jZ sd cl b.1 b.2).sum,GJ<|jZ sd cl b.1 b.2,HJ<|jZ sd cl b.1 b.2)).map λe=>e.1).sum,GJ<|((Dq sd lo hi).map λb=>((jZ sd cl b.1 b.2).sum,GJ<|jZ sd cl b.1 b.2,HJ<|jZ sd cl b.1 b.2)).map λe=>e.2.1,HJ<|((Dq sd lo hi).map λb=>((jZ sd cl b.1 b.2).sum,GJ<|jZ sd cl b.1 b.2,HJ<|jZ sd cl b.1 b.2)).map λe=>e.2.2]) o:=λo=>by rw[A0,A0,A0];exact q o
 exact k _
theorem RB:∀{sd:Qo},(∀c∈sd,1<=c)->Bx (sd.map λ_=>0) (sd.map λs=>s-1) sd
 |[],_=>trivial
 |s::sd,h=>by have a:=h s G0;exact⟨⟨by show (0:Int)<=0;decide,by show (0:Int)<=s-1;exact Q2 a,by show s-1<s;lia⟩,RB λc b=>h c<|q0 _ b⟩
theorem wM:∀{lo sd:Qo},Wi lo sd->Bx lo lo sd
 |[],[],_=>trivial
 |x::lo,s::sd,h=>⟨⟨h.1.1,N7 _,h.1.2⟩,wM h.2⟩
 |[],_::_,h=>h.elim
 |_::_,[],h=>h.elim
theorem Nb:∀{lo dn:Qo}{x s:Int},Wi lo dn->0<=x->x<s->Wi (lo++[x]) (dn++[s])
 |[],[],_,_,_,a,b=>⟨⟨a,b⟩,trivial⟩
 |y::lo,t::dn,_,_,h,a,b=>⟨h.1,Nb h.2 a b⟩
 |[],_::_,_,_,h,_,_=>h.elim
 |_::_,[],_,_,h,_,_=>h.elim
noncomputable def Ob:Od->Od
 |_=>.int 0
noncomputable def Pb:Od->Od
 | .int s=>.int<|s-1
 |_=>.none
theorem SB:∀{lo hi sd:Qo},Bx lo hi sd->Wi lo sd
 |[],[],[],_=>trivial
 |a::lo,b::hi,s::sd,h=>⟨⟨h.1.1,by have:=h.1;exact X3 this.2.1 this.2.2⟩,SB h.2⟩
 |[],[],_::_,h=>h.elim
 |[],_::_,z,h=>by cases z<;>exact h.elim
 |_::_,[],z,h=>by cases z<;>exact h.elim
 |_::_,_::_,[],h=>h.elim
theorem yV(b:qZ):Nice 2 (VX b):=.tuple λd hd=>by
 have hd:d=tupD b.1\/d=tupD b.2:=by simpa using hd
 rcases hd with rfl|rfl
 .exact Nice.tup _
 .exact Nice.tup _
theorem iA{s:Str}:(!Es (s=s))=false:=by simp
def jA:Con:=λa Q=>∃(ns:Qo) (k l:Int) (sd:Qo),a=[.io<|NZ ns k l,.fz<|tupD sd]/\0<=k/\0<=l/\Sd sd /\
 ∀(lo hi:Qo) (b c:Int) (o:Ev),Bx lo hi sd->0<=b->0<=c->Q (.fz<|VX (lo,hi)) (O (.io<|NZ ns b c)::o)
theorem GP(F:Rr K "_law_box" (top 73) f fd)(T:Txt mg)(C:CalsB P w K mg base):FnOk P w K mg base mJ 2 f fd ["_law_pen_here","_law_sides_here"] (QX K jA):=by
 have S:FnScope ["_law_pen_here","_law_sides_here","_law_way","_law_low","_law_high"] ["_law_pen_here","_law_sides_here"] (SX<|top 73):={};refine IJ F S (λke A outer s H E hr=>RX (tZ 2<|wJ C.Wp hr.m<|hZ 0<|TX yZ)<|RX (lJ (YV hr (wn 2) UX) (sZ<|DZ<|iZ (uW T.Zs<|TX<|SJ ["_law_side"] [] (CZ rfl<|wv 1)<|λ_ _ _ _=>yZ)<|TX<|uW T.Zs<|TX<|SJ ["_law_side"] [] (CZ rfl<|wv 1)<|λ_ _ _ _=>WK (wn 0) UX) GZ)<|RX (GW (i:=3) S.nd Z Z Z (own:=["_law_side"]) (fr:=[0]) (by kernel_rfl) (CZ rfl<|wv 1) (λ_ _ _ _=>HZ 0) (λ_ _ _ _=>RL)<|λ_ _ _ _=>wJ C.Wp hr.m<|hZ 1<|aZ 0)<|RX (lJ (YV hr (wn 2) UX) (sZ<|DZ<|iZ (uW T.Zs<|aZ 3)<|TX<|uW T.Zs<|aZ 3) GZ)<|RX (GW (i:=4) S.nd Z Z Z (own:=["_law_a","_law_side"]) (fr:=[0]) (by kernel_rfl) (MK Z T.Xo<|iZ (wv 3)<|TX<|wv 1) (λ_ _ _ _=>pK Z rfl<|lZ (HZ 0)<|lZ (HZ 1) EJ) (λ_ _ _ _=>RL)<|λ_ _ _ _=>JJ (wn 0)<|wx<|wJ C.Wp hr.m<|hZ 2<|TX<|WK (wn 1)<|wn 0)<|sZ<|DZ<|iZ (uW T.Zs<|aZ 3)<|TX<|uW T.Zs<|aZ 4) ?_;rintro args Qd ⟨ns,k,l,sd,rfl,hk,hl,de,q⟩;have h3:=de.l3;have hm:=de.m;with_reducible refine xZ (λρ=>∃(r L l1:Int),0<=L/\0<=l1/\ρ=[O<|.io<|NZ ns L l1,Zt<|tupD sd,Zt<|.int r,U,U]) ?_ ?_
 .intro N hN;exact⟨ns,k,l,6,Z,hk,hl,by decide,by decide,λr L l1 _ r0 r1 uf df=>hN _ ⟨r,L,l1,uf,df,Z⟩⟩
 rintro _ ⟨r,L,l1,uf,df,rfl⟩;with_reducible refine xZ (λρ=>ρ=[O<|.io<|NZ ns L l1,Zt<|tupD sd,Zt<|.int r,U,U]) ?_ ?_
 .intro N hN;refine RZ (λh=>?_)<|λh=>hN _ Z;refine⟨WX (by rw[l0];lia),sJ Ob (λd hd N' M=>M) ?_⟩;refine⟨WX (by rw[l0];omega),sJ Pb (λd hd N' M=>?_) ?_⟩
  .obtain⟨s,_,rfl⟩:=v0.mp hd;exact M
  have e1:(sd.map n0).map Ob=(sd.map λ_=>(0:Int)).map n0:=by rw[A0,A0];rfl
  have e2:(sd.map n0).map Pb=(sd.map λs=>s-1).map n0:=by rw[A0,A0];rfl
  rw[e1,e2];exact q (sd.map λ_=>0) (sd.map λs=>s-1) L l1 _ (RB de.p) uf df
 rintro _ rfl;with_reducible refine xZ (λρ=>∃(lo:Qo) (v l2:Int),Wi lo sd/\0<=v/\0<=l2/\ρ=[O<|.io<|NZ ns v l2,Zt<|tupD sd,Zt<|.int r,Yt<|.list<|lo.map n0,U]) ?_ ?_
 .intro N hN;refine⟨WX (by rw[l0];omega),HG (λrest b R=>∃(dn a lo:Qo) (c e:Int),sd=dn++a/\rest=a.map n0/\b=lo.map n0/\Wi lo dn/\R=[U,O<|.io<|NZ ns c e]/\0<=c/\0<=e) ?_ ?_ ⟨[],sd,[],L,l1,Z,Z,Z,trivial,Z,uf,df⟩⟩
  .rintro d ds b R ⟨dn,a,lo,c,e,em,j,rfl,hw,rfl,B,G⟩ N' M;cases a with
   |nil=>cases j
   |cons s a=>cases j;have hs1:=de.p s (by rw[em];simp);have ui:=OZ de.p s (by rw[em];simp);refine⟨ns,c,e,s,Z,B,G,hs1,by lia,λx k5 l5 _ x0 x1 Y im=>?_⟩;exact M _ _ ⟨dn++[s],a,lo++[x],k5,l5,by rw[em];simp,Z,by simp[Sl.d],Nb hw x0 x1,Z,Y,im⟩
  .rintro b R ⟨dn,a,lo,c,e,em,j,rfl,hw,rfl,B,G⟩;cases a with
   |cons _ _=>cases j
   |nil=>rw[E2]at em;subst em;exact hN _ ⟨lo,c,e,hw,B,G,Z⟩
 rintro _ ⟨lo,v,l2,hw,zh,ef,rfl⟩;have hwl:=cW hw;with_reducible refine xZ (λρ=>ρ=[O<|.io<|NZ ns v l2,Zt<|tupD sd,Zt<|.int r,Yt<|.list<|lo.map n0,U]) ?_ ?_
 .intro N hN;refine RZ (λh=>?_)<|λh=>hN _ Z;exact q lo lo v l2 _ (wM hw) zh ef
 rintro _ rfl;with_reducible refine xZ (λρ=>∃(hi:Qo) (v l2:Int),Bx lo hi sd/\0<=v/\0<=l2/\ρ=[O<|.io<|NZ ns v l2,Zt<|tupD sd,Zt<|.int r,Zt<|.list<|lo.map n0,Yt<|.list<|hi.map n0]) ?_ ?_
 .intro N hN;have hz:=oJ lo sd;refine⟨by rw[hz,l0,U1];exact WX<|by lia,?_⟩;rw[hz];refine HG (λrest b R=>∃(dl ds t a hi:Qo) (c e:Int),lo=dl++t/\sd=ds++a/\Wi t a/\rest=((t.zip a).map λq=>K1 [.int q.1,.int q.2])/\b=hi.map n0/\Bx dl hi ds/\R=[U,U,O<|.io<|NZ ns c e]/\0<=c/\0<=e) ?_ ?_ ⟨[],[],lo,sd,[],v,l2,Z,Z,hw,Z,Z,trivial,Z,zh,ef⟩
  .rintro d dds b R ⟨dl,ds,t,a,hi,c,e,el,es,g,j,rfl,ff,rfl,B,G⟩ N' M;cases t with
   |nil=>simp at j
   |cons x t =>
    cases a with
    |nil=>simp at j
    |cons s a=>cases j;have hx:=g.1;have ui:=OZ de.p s (by rw[es];simp);refine⟨Z,ns,c,e,s-x,Z,B,G,v7 hx.2,by lia,λy k5 l5 _ y0 y1 Y im=>?_⟩;exact M _ _ ⟨dl++[x],ds++[s],t,a,hi++[x+y],k5,l5,by rw[el];simp,by rw[es];simp,g.2,Z,by simp[Sl.d],ck ff hx.1 (by lia)<|by lia,Z,Y,im⟩
  .rintro b R ⟨dl,ds,t,a,hi,c,e,el,es,g,j,rfl,ff,rfl,B,G⟩;cases t with
   |cons x t =>
    cases a with
    |nil=>exact g.elim
    |cons s a=>simp at j
   |nil =>
    cases a with
    |cons s a=>exact g.elim
    |nil=>rw[E2]at el es;subst el;subst es;exact hN _ ⟨hi,c,e,ff,B,G,Z⟩
 rintro _ ⟨hi,c,e,ff,B,G,rfl⟩;exact q lo hi c e _ ff B G
theorem mL(p:Qo){i:Nat}(h:i<p.length)(x:Int):p.take i++x::p.drop (i+1)=p.set i x:=by rw[List.set_eq_take_append_cons_drop,Jd h]
noncomputable def Jq(b:qZ):Qo:=((S1 b.1.length).filter λi=>decide<|b.1.getD i 0<b.2.getD i 0).map λ(i:Nat)=>(i:Int)
theorem ZF{b:qZ}(hl:b.2.length=b.1.length){x:Int}(h:x∈Jq b):∃(i:Nat) (a c:Int),x=i/\i<b.1.length/\b.1[i]?=O a/\b.2[i]?=O c/\a<c:=by
 obtain⟨i,hi,rfl⟩:=v0.mp h;obtain⟨d,e⟩:=v8.mp hi;have d:=V4.mp d;have g:b.1[i]?=O (b.1.getD i 0):=by rw[G1,L0 d];rfl
 have j:b.2[i]?=O (b.2.getD i 0):=by rw[G1,L0<|lt_of_lt_of_eq d hl.symm];rfl
 exact⟨i,_,_,Z,d,g,j,Ld e⟩
theorem nL{sd:Qo}{b:qZ}(d:Bx b.1 b.2 sd)(h:Jq b=[]):b.2=b.1:=by
 have hl:=FJ d;have j:=LQ.mp<|Q4.mp h;refine L7 (by lia) λi g a=>?_;have c:=j i<|V4.mpr a;have k:=pW d (b.1[i],b.2[i]) (by
   have:i<(b.1.zip b.2).length:=by rw[U1];exact T5 a g
   have e:=g9 (l:=b.1) (l':=b.2) (i:=i) (h:=this);rw[<-e];exact S5 _);rw[G1,G1,L0 a,L0 g]at c;simp at c;have:=k.2.1;simp only at this;exact UQ c this
def Qb:Con:=λa Q=>∃x:Int,a=[.fz<|.int x]/\∀o,Q (.fz<|tupD [x,x,x]) o
theorem lA(F:Rr K "thrice" (top 42) f fd):FnOk P w K mg base mJ 1 f fd ["number"] (QX K Qb):=by
 have S:FnScope ["number"] ["number"] (SX<|top 42):={};refine aa F S (λc A outer s H E d=>sZ<|DZ<|iZ (wv 0)<|iZ (wv 0)<|TX<|wv 0) ?_ ?_
 .rintro a b ⟨x,rfl,_⟩;rfl
 .rintro a b ⟨x,rfl,q⟩;exact⟨mV Z,q _⟩
def Na:Con:=λa Q=>∃(p:Qo) (i:Nat) (x:Int),a=[.fz<|tupD p,.fz<|.int i,.fz<|.int x]/\i<p.length/\p.length<=100/\∀o,Q (.fz<|tupD<|p.set i x) o
theorem nA(F:Rr K "replaced" (top 9) f fd):FnOk P w K mg base mJ 1 f fd ["numbers","way","number"] (QX K Na):=by
 have S:FnScope ["numbers","way","number"] ["numbers","way","number"] (SX<|top 9):={};refine IJ F S (λb A outer s H E c=>sZ<|JJ (wx<|JJ (wx<|Nu Z (wn 0)<|wn 1)<|wx<|DZ<|TX<|wv 2)<|wx<|Su Z (wn 0)<|wx<|JJ (wn 1) UX) ?_;rintro a d ⟨p,i,x,rfl,hi,hl,q⟩;have e:(p.map n0).take (i:Int).toNat++[n0 x]++(p.map n0).drop ((i:Int)+1).toNat=(p.set i x).map n0:=by rw[show (i:Int).toNat=i by rfl,show ((i:Int)+1).toNat=i+1 by rfl,<-mL p hi x];simp[bQ,List.map_drop]
 unfold tupD at q;rw[<-e]at q;exact⟨G3 _,WX (by simp;exact K0 (K7 _ _)<|K0 hl<|by decide),by show (0:Int)<=(i:Int)+1;exact M8<|G3 _,WX (by simp;omega),q _⟩
variable (P w K mg base) in
structure CalsWs:Prop where
 Ho:Cal P w K mg base 1 "replaced" ["numbers","way","number"] (QX K Na)
def Rb:Con:=λa Q=>∃(b:qZ) (i:Nat) (p:Int×Int),a=[.fz<|VX b,.fz<|.int i,.fz<|jK p]/\i<b.1.length/\b.2.length=b.1.length/\b.1.length<=100/\∀o,Q (.fz<|VX<|LJ b i p) o
theorem oA(F:Rr K "with_stretch" (top 45) f fd)(C:CalsWs P w K mg base):FnOk P w K mg base mJ 2 f fd ["box","way","stretch"] (QX K Rb):=by have S:FnScope ["box","way","stretch"] ["box","way","stretch"] (SX<|top 45):={};refine IJ F S (λe A outer s H E a=>sZ<|DZ<|iZ (dZ C.Ho a.m<|iZ (ZX (wn 0) UX)<|hZ 1<|TX<|ZX (wn 2) UX)<|TX<|dZ C.Ho a.m<|iZ (ZX (wn 0) UX)<|hZ 1<|TX<|ZX (wn 2) UX) ?_;rintro c g ⟨b,i,p,rfl,hi,hl,d,q⟩;exact⟨_,Z,_,Z,b.1,i,p.1,Z,hi,d,λo=>⟨_,Z,_,Z,b.2,i,p.2,Z,lt_of_lt_of_eq hi hl.symm,le_of_eq_of_le hl d,λo=>q _⟩⟩
def Sb:Con:=λa Q=>∃b:qZ,a=[.fz<|VX b]/\b.2.length=b.1.length/\b.1.length<=100/\∀o,Q (.ow<|.list<|(Jq b).map n0) o
theorem pA(F:Rr K "long_ways" (top 43) f fd)(T:Txt mg):FnOk P w K mg base mJ 1 f fd ["box"] (QX K Sb):=by
 have S:FnScope ["box"] ["box"] (SX<|top 43):={};refine IJ F S (λt A outer s H E v=>sZ<|Ba ["way"] [0] (FW T.Xs<|TX<|WJ T.Qp<|TX<|ZX (wn 0) UX) (λ_ _ _ _=>Z_<|rJ hU UW (wx<|ZX (wx<|ZX (wn 1) UX)<|wn 0)<|wx<|ZX (wx<|ZX (wn 1) UX)<|wn 0)<|λ_ _ _ _=>wv 0) ?_;rintro j x ⟨b,rfl,hl,y,q⟩;have c:(b.1.map n0).length=b.1.length:=l0 _;refine⟨_,Z,by rw[c];lia,by rw[c];lia,by rw[wZ,l0,v5,c];exact WX<|by lia,?_⟩;refine GO (λd=>decide<|b.1.getD (unI d).toNat 0<b.2.getD (unI d).toNat 0) id ?_ ?_
 .intro d hd N M hN g;rw[wZ]at hd;obtain⟨k,a,rfl⟩:=v0.mp hd;have a:=V4.mp a;rw[c]at a;have a:k<b.1.length:=lt_of_lt_of_eq a<|VA Z;have l:(0+(k:Int))=(k:Int):=K8 _;rw[l]at hN g ⊢;have m:(unI<|.int (k:Int)).toNat=k:=by show (k:Int).toNat=k;rfl
  simp only[m]at hN g;refine⟨_,Z,_,uV a,_,Z,_,uV (by exact lt_of_lt_of_eq a hl.symm),RZ (λh=>hN h)<|λh=>g<|u6.mpr h⟩
 have e:((wZ 0 ((b.1.map n0).length:Int).toNat).filter λd=>decide<|b.1.getD (unI d).toNat 0<b.2.getD (unI d).toNat 0).map id=(Jq b).map n0:=by
  unfold Jq;rw[B8,wZ,c,SQ,show ((b.1.length:Int)).toNat=b.1.length by rfl,A0];have e:(S1 b.1.length).filter ((λd=>decide<|b.1.getD (unI d).toNat 0<b.2.getD (unI d).toNat 0)∘λ(i:Nat)=>n0<|0+i)=(S1 b.1.length).filter λi=>Es (b.1.getD i 0<b.2.getD i 0):=by refine List.filter_congr λk _=>?_;show Es (b.1.getD (0+(k:Int)).toNat 0<b.2.getD (0+(k:Int)).toNat 0)=_;rw[show (0+(k:Int)).toNat=k by exact VA<|K8 _]
  rw[e];refine A1 λk _=>?_;show n0 (0+(k:Int))=n0 (k:Int);rw[K8]
 rw[e];exact q _
variable (P w K mg base) in
structure CalsCa:Prop where
 Wo:Cal P w K mg base 1 "index_of" ["sides","place"] (QX K uj)
def Oa:Con:=λa Q=>∃sd cl p:Qo,a=[.fz<|dJ sd cl,.fz<|tupD p]/\Sd sd/\cl.length=(tJ sd).length/\Wi p sd/\∀o,Q (.fz<|.int<|cel sd cl p) o
theorem qA(F:Rr K "cell_at" (top 17) f fd)(C:CalsCa P w K mg base):FnOk P w K mg base mJ 2 f fd ["field","place"] (QX K Oa):=by
 have S:FnScope ["field","place"] ["field","place"] (SX<|top 17):={};refine IJ F S (λj A outer s H E e=>sZ<|ZX (wx<|ZX (wn 0) UX)<|wx<|dZ C.Wo e.m<|iZ (ZX (wn 0) UX)<|aZ 1) ?_;rintro c k ⟨sd,cl,p,rfl,a,l,g,q⟩;have t:=a.l3;have v:=a.m;have x:=xY a.p;have hi:=vj g;refine⟨_,Z,_,Z,sd,p,Z,by lia,λs d=>?_,λo=>?_⟩
 .have y:=a.p s d;have B:=OZ a.p s d
  lia
 .obtain⟨n,i⟩:=j5 hi.1;have b:n<cl.length:=by lia
  refine⟨.int<|cel sd cl p,?_,q _⟩;unfold cel;rw[i];exact uV b
theorem VJ:∀a b:Qo,Og (a.map n0) (b.map n0)=Es (a=b)
 |[],[]=>rfl
 |[],_::_=>by simp[Og]
 |_::_,[]=>by simp[Og]
 |x::a,y::b=>by have c:=VJ a b;simp only[G2,Og,Ng,c];by_cases d:x=y<;>by_cases e:a=b<;>simp[d,e]
theorem kK:∀a b:Qo,SeqAt.noMixAll (a.map n0) (b.map n0)=Ep
 |[],[]=>rfl
 |[],_::_=>by simp[SeqAt.noMixAll]
 |_::_,[]=>by simp[SeqAt.noMixAll]
 |x::a,y::b=>by simp[SeqAt.noMixAll,SeqAt.noMix,kK a b]
theorem HP{a b:Qo}(h:tupD a=tupD b):a=b:=by injection h with h;exact BX (λ_ _ z=>by injection z) |>.mp h
theorem fW(a b:Qo):Ng (tupD a) (tupD b)=Es (a=b):=VJ a b
theorem tK(a b:Qo):SeqAt.noMix (tupD a) (tupD b)=true:=kK a b
noncomputable abbrev V3:=Int×Int×Int
noncomputable abbrev Zq(x:V3):Od:=tupD [x.1,x.2.1,x.2.2]
theorem TB(x y:V3):Ng (Zq x) (Zq y)=Es (x=y):=by unfold Zq;rw[fW];exact decide_eq_decide.mpr (by simp[Prod.ext_iff])
noncomputable def Gk(sd:Qo)(V:qZ->V3):List (qZ×Od):=(hbs sd).map λb=>(b,Zq<|V b)
theorem KU{sd:Qo}{V:qZ->V3}{b:qZ}(h:b∈hbs sd):(b,Zq<|V b)∈Gk sd V:=v0.mpr ⟨b,h,Z⟩
noncomputable def pL(x y:V3):V3:=(x.1+y.1,min x.2.1 y.2.1,max x.2.2 y.2.2)
noncomputable def qL(V:qZ->V3)(b:qZ)(i:Nat):V3:=pL (V<|LJ b i (b.1.getD i 0,(b.1.getD i 0+b.2.getD i 0) / 2))<|V<|LJ b i ((b.1.getD i 0+b.2.getD i 0) / 2+1,b.2.getD i 0)
theorem eU{V:qZ->V3}{b:qZ}{i:Nat}{a c:Int}(d:b.1[i]?=O a)(e:b.2[i]?=O c):qL V b i=pL (V<|LJ b i (a,(a+c) / 2)) (V<|LJ b i ((a+c) / 2+1,c)):=by
 have g:b.1.getD i 0=a:=by rw[G1,d];rfl
 have j:b.2.getD i 0=c:=by rw[G1,e];rfl
 unfold qL;rw[g,j]
noncomputable def xv(sd cl:Qo)(V:qZ->V3)(b:qZ):Bool:=if Jq b=[] then Es (V b=(cel sd cl b.1,cel sd cl b.1,cel sd cl b.1)) else ((Jq b).map λi=>decide<|V b=qL V b i.toNat).all id
noncomputable abbrev jR(sd cl:Qo)(b:qZ):V3:=((jZ sd cl b.1 b.2).sum,GJ<|jZ sd cl b.1 b.2,HJ<|jZ sd cl b.1 b.2)
theorem Hk{sd:Qo}{b:qZ}(a:Bx b.1 b.2 sd)(h:Jq b=[]):jR sd cl b=(cel sd cl b.1,cel sd cl b.1,cel sd cl b.1):=by have e:=zP sd cl b.1;have c:=nL a h;rw[show ((b.1,b.1):qZ)=b from Prod.ext Z c.symm]at e;unfold IU fL at e;simp only[List.cons.injEq,and_true]at e;exact Prod.ext e.1<|Prod.ext e.2.1 e.2.2
theorem Kq{sd:Qo}(d:∀c∈sd,1<=c){b:qZ}(k:b∈hbs sd){i:Nat}(hi:i<sd.length){a c:Int}(g:b.1[i]?=O a)(j:b.2[i]?=O c)(h:a<c):jR sd cl b=qL (jR sd cl) b i:=by obtain⟨m,g2⟩:=xV d k hi g j h;have l:=EK d m;have b2:=EK d g2;have e:=gL (cF (cl:=cl) (EK d k) g j (zC<|X1 h) (Cv h) l b2) (jJ l)<|jJ b2;rw[eU g j];unfold fL at e;simp only[List.cons.injEq,and_true]at e;exact Prod.ext e.1<|Prod.ext e.2.1 e.2.2
noncomputable def rL(b:qZ):Nat:=((b.1.zip b.2).map λp=>(p.2-p.1).toNat).sum
theorem Cj:∀{lo hi:Qo}{i:Nat}{a c x y:Int},lo[i]?=O a->hi[i]?=O c->rL (lo.set i x,hi.set i y)+(c-a).toNat=rL (lo,hi)+(y-x).toNat
 |[],_,_,_,_,_,_,h,_=>by simp at h
 |_::_,[],_,_,_,_,_,_,h=>by simp at h
 |p::lo,q::hi,0,a,c,x,y,b,d=>by
  simp only[P5,Option.some.injEq]at b d;subst b d;simp only[rL,P9,U2,G2,M6]
  lia
 |p::lo,q::hi,i+1,a,c,x,y,b,d=>by
  simp only[B3]at b d;have:=Cj (x:=x) (y:=y) b d;simp only[rL,Q9,U2,G2,M6]at this ⊢
  lia
theorem SH{sd:Qo}{V:qZ->V3}(k:∀c∈sd,1<=c)(h:∀b∈hbs sd,xv sd cl V b=Ep):∀(n:Nat),∀b∈hbs sd,rL b<=n->V b=jR sd cl b
 |n,b,l,C=>by
  have d:=h b l;have ff:=EK k l;unfold xv at d;by_cases z:Jq b=[]
  .rw[Jd z]at d;rw[Ld d,Hk ff z]
  .rw[Gd z]at d;obtain⟨x,rest,e⟩:=T9 z;have v:=FJ ff;obtain⟨i,a,c,hx,hi,g,j,m⟩:=ZF (b:=b) (by lia) (x:=x) (by rw[e];exact G0);have B:V b=qL V b i:=by
    rw[e,hx]at d;simp only[G2,tX,J1,id]at d;exact Ld d.1
   have hi2:i<sd.length:=lt_of_lt_of_eq hi v.1;obtain⟨l1,l2⟩:=xV k l hi2 g j m;have q:=Cj (x:=a) (y:=(a+c) / 2) g j;have t:=Cj (x:=(a+c) / 2+1) (y:=c) g j;have q:rL (LJ b i (a,(a+c) / 2))+(c-a).toNat=rL b+((a+c) / 2-a).toNat:=q;have t:rL (LJ b i ((a+c) / 2+1,c))+(c-a).toNat=rL b+(c-((a+c) / 2+1)).toNat:=t;cases n with
   |zero=>exact absurd (u0 (Nat.lt_of_add_lt_add_right<|lt_of_eq_of_lt q<|Z4 (aR rfl m) _) C) (u9 _)
   |succ n=>have i1:=SH k h n _ l1<|u5<|u0 (Nat.lt_of_add_lt_add_right<|lt_of_eq_of_lt q<|Z4 (aR rfl m) _) C;have i2:=SH k h n _ l2<|u5<|u0 (Nat.lt_of_add_lt_add_right<|lt_of_eq_of_lt t<|Z4 (ZP rfl m) _) C;rw[B,Kq (cl:=cl) k l hi2 g j m,eU g j,eU g j,i1,i2]
theorem IP{sd:Qo}{V:qZ->V3}(j:∀c∈sd,1<=c)(h:∀b∈hbs sd,V b=jR sd cl b){b:qZ}(d:b∈hbs sd):xv sd cl V b=true:=by
 have ff:=EK j d;unfold xv;split
 .rename_i z;rw[h b d,Hk ff z];exact Pd Z
 .rw[L6];refine Z3.mpr λx hx=>?_;have l:=FJ ff;obtain⟨i,a,c,rfl,hi,e,g,k⟩:=ZF (b:=b) (by lia) hx;have hi2:i<sd.length:=lt_of_lt_of_eq hi l.1;obtain⟨l1,l2⟩:=xV j d hi2 e g k;refine Pd ?_;show V b=qL V b (i:Int).toNat;rw[show (i:Int).toNat=i from Z,h b d,Kq (cl:=cl) j d hi2 e g k,eU e g,eU e g,h _ l1,h _ l2]
variable (P w K mg base) in
structure CalsFh:Prop where
 Kp:Cal P w K mg base 1 "two_halves" ["stretch"] (QX K XI)
 Hr:Cal P w K mg base 2 "with_stretch" ["box","way","stretch"] (QX K Rb)
 Ut:Cal P w K mg base 1 "put_together_tables" ["parts"] (QX K La)
def Tb:Con:=λd Q=>∃(sd:Qo) (V:qZ->V3) (b:qZ) (i:Nat) (a c:Int),d=[.fz<|uF<|Gk sd V,.fz<|VX b,.fz<|.int i]/\Sd sd/\b∈hbs sd/\i<sd.length/\b.1[i]?=O a/\b.2[i]?=O c/\a<c/\∀o,Q (.fz<|Zq<|qL V b i) o
theorem rA(F:Rr K "from_halves" (top 44) f fd)(T:Txt mg)(C:CalsFh P w K mg base):FnOk P w K mg base mJ 3 f fd ["told","box","way"] (QX K Tb):=by
 have S:FnScope ["told","box","way","halves"] ["told","box","way"] (SX<|top 44):={};refine IJ F S (λke A outer s H E j=>RX (tZ 3<|dZ C.Kp j.m<|TX<|DZ<|iZ (ZX (wx<|ZX (wn 1) UX)<|wn 2)<|TX<|ZX (wx<|ZX (wn 1) UX)<|wn 2)<|sZ<|dZ C.Ut j.m<|TX<|SJ ["half"] [0,1,2] (CZ rfl<|wv 3)<|λ_ _ _ _=>QW (vY j) (wn 1)<|wx<|dZ C.Hr j.m<|hZ 2<|hZ 3<|aZ 0) ?_;rintro v Qd ⟨sd,V,b,i,a,c,rfl,d,x,hi,k,l,L,q⟩;have h3:=d.l3;have ff:=EK d.p x;have M:=FJ ff;have t:=pW ff (a,c) (by
   have:(b.1.zip b.2)[i]?=O (a,c):=by rw[E6];exact⟨k,l⟩
   exact A3 this);obtain⟨y,B,s,R,Y⟩:=t;have ui:=OZ d.p s R;have hm:=d.m;simp only at y B Y;have g:vW (b.1.map n0) (i:Int)=O (.int a):=bJ (by rw[Z0,k];rfl);have zt:vW (b.2.map n0) (i:Int)=O (.int c):=bJ (by rw[Z0,l];rfl);have G:=xV d.p x hi k l L;rw[eU k l]at q;with_reducible refine xZ (λρ=>ρ=[Zt<|uF<|Gk sd V,Zt<|VX b,Zt<|.int (i:Nat),Yt<|.list [jK (a,(a+c) / 2),jK ((a+c) / 2+1,c)]]) ?_ ?_
 .intro N hN;exact⟨_,Z,_,g,_,Z,_,zt,a,c,Z,by omega,Y1 y B,by lia,by lia,λo=>hN _ Z⟩
 rintro _ rfl;refine⟨WX<|by simp,?_⟩;refine⟨b,i,(a,(a+c) / 2),Z,lt_of_lt_of_eq hi M.1.symm,by lia,by lia,λo=>?_⟩;refine⟨Gk sd V,LJ b i (a,(a+c) / 2),_,Z,Z,KU G.1,?_⟩;refine⟨b,i,((a+c) / 2+1,c),Z,by omega,by omega,by omega,λo=>?_⟩;refine⟨Gk sd V,LJ b i ((a+c) / 2+1,c),_,Z,Z,KU G.2,?_⟩;refine⟨[V<|LJ b i (a,(a+c) / 2),V<|LJ b i ((a+c) / 2+1,c)],Z,by simp,by simp,λo=>?_⟩;have e:tupD [([V<|LJ b i (a,(a+c) / 2),V<|LJ b i ((a+c) / 2+1,c)].map λe=>e.1).sum,GJ<|[V<|LJ b i (a,(a+c) / 2),V<|LJ b i ((a+c) / 2+1,c)].map λe=>e.2.1,HJ<|[V<|LJ b i (a,(a+c) / 2),V<|LJ b i ((a+c) / 2+1,c)].map λe=>e.2.2]=Zq (pL (V<|LJ b i (a,(a+c) / 2))<|V<|LJ b i ((a+c) / 2+1,c)):=by simp[GJ,HJ,pL,Zq]
 rw[e];exact q _
variable (P w K mg base) in
structure CalsIr:Prop where
 Hs:Cal P w K mg base 1 "long_ways" ["box"] (QX K Sb)
 Ht:Cal P w K mg base 1 "thrice" ["number"] (QX K Qb)
 Go:Cal P w K mg base 2 "cell_at" ["field","place"] (QX K Oa)
 Gp:Cal P w K mg base 3 "from_halves" ["told","box","way"] (QX K Tb)
def Ub:Con:=λa Q=>∃(sd cl:Qo) (V:qZ->V3) (b:qZ),a=[.fz<|dJ sd cl,.fz<|uF<|Gk sd V,.fz<|VX b]/\Sd sd/\cl.length=(tJ sd).length/\b∈hbs sd/\∀o,Q (.fz<|.bool<|xv sd cl V b) o
noncomputable def qd(V:qZ->V3)(b:qZ)(d:Od):Od:=.bool<|Ng (Zq<|V b)<|Zq<|qL V b (unI d).toNat
theorem sA(F:Rr K "is_right" (top 40) f fd)(T:Txt mg)(C:CalsIr P w K mg base):FnOk P w K mg base mJ 4 f fd ["field","told","box"] (QX K Ub):=by
 have S:FnScope ["field","told","box","ways"] ["field","told","box"] (SX<|top 40):={};refine IJ F S (λke A outer s H E e=>RX (tZ 3<|dZ C.Hs e.m<|aZ 2)<|RX (lJ (YV e (wx<|WJ T.Qp<|aZ 3) UX) (sZ<|SY RY (AK (K:=K) Z e.units) (wx<|QW (vY e) (wn 1)<|wn 2)<|wx<|dZ C.Ht e.m<|TX<|dZ C.Go e.m<|hZ 0<|TX<|ZX (wn 2) UX) GZ)<|sZ<|kZ mY (zJ (K:=K) Z Z) T.Jo Sh<|TX<|SJ ["way"] [1,2] (CZ rfl<|wv 3)<|λ_ _ _ _=>SY RY (AK (K:=K) Z e.units) (wx<|QW (vY e) (wn 1)<|wn 2)<|wx<|dZ C.Gp e.m<|hZ 1<|hZ 2<|aZ 0) ?_;rintro t Qd ⟨sd,cl,V,b,rfl,j,B,k,q⟩;have h3:=j.l3;have ff:=EK j.p k;have G:=FJ ff;with_reducible refine xZ (λρ=>ρ=[Zt<|dJ sd cl,Zt<|uF<|Gk sd V,Zt<|VX b,Yt<|.list<|(Jq b).map n0]) ?_ ?_
 .intro N hN;exact⟨b,Z,by lia,by lia,λo=>hN _ Z⟩
 rintro _ rfl;with_reducible refine xZ (λρ=>Jq b≠[]/\ρ=[Zt<|dJ sd cl,Zt<|uF<|Gk sd V,Zt<|VX b,Yt<|.list<|(Jq b).map n0]) ?_ ?_
 .intro N hN;refine RZ (λh=>?_)<|λh=>?_
  .have h:(((Jq b).map n0).length:Int)=0:=Ld h;have g:Jq b=[]:=by
    rw[l0]at h;exact U6.mp<|E7 h
   have l:xv sd cl V b=Es (V b=(cel sd cl b.1,cel sd cl b.1,cel sd cl b.1)):=by unfold xv;rw[Jd g]
   rw[l,<-TB]at q;refine⟨Gk sd V,b,_,Z,Z,KU k,?_⟩;refine⟨_,Z,sd,cl,b.1,Z,j,B,SB ff,λo=>⟨cel sd cl b.1,Z,λo=>?_⟩⟩;have v:=Nice.tup [cel sd cl b.1,cel sd cl b.1,cel sd cl b.1];have y:=Nice.tup [(V b).1,(V b).2.1,(V b).2.2];exact⟨y.p,v.p,y.sh<|by decide,v.sh<|by decide,tK [(V b).1,(V b).2.1,(V b).2.2] [cel sd cl b.1,cel sd cl b.1,cel sd cl b.1],q _⟩
  .refine hN _ ⟨λz=>h ?_,Z⟩;rw[z];exact Pd Z
 rintro _ ⟨L,rfl⟩;have M:(Jq b).length<=100:=by
  unfold Jq;rw[l0];have:=a9 (λi=>decide<|b.1.getD i 0<b.2.getD i 0)<|S1 b.1.length;rw[v5]at this
  lia
 refine⟨WX (by rw[l0];lia),sJ (qd V b) ?_ ?_⟩
 .intro d hd N hN;obtain⟨x,hx,rfl⟩:=v0.mp hd;obtain⟨i,a,c,rfl,hi,R,Y,eg⟩:=ZF (by omega) hx;refine⟨Gk sd V,b,_,Z,Z,KU k,?_⟩;refine⟨sd,V,b,i,a,c,Z,j,k,lt_of_lt_of_eq hi G.1,R,Y,eg,λo=>?_⟩;exact⟨(Nice.tup _).p,(Nice.tup _).p,(Nice.tup _).sh<|by decide,(Nice.tup _).sh<|by decide,tK _ _,hN⟩
 .have l:xv sd cl V b=((Jq b).map λi=>decide<|V b=qL V b i.toNat).all id:=by unfold xv;rw[Gd L]
  rw[l]at q;refine⟨_,?_,q _⟩;rw[A0,A0];refine A1 λx _=>?_;show L4 (Ng _ _)=L4 _;rw[TB];rfl
noncomputable abbrev uA(V:qZ->V3)(b:qZ):Od:=.tuple [VX b,Zq<|V b]
noncomputable def fU(sd:Qo)(b:qZ):Od->Bool
 | .tuple [x,y]=>eW sd x&&(Ng x (VX b)&&yY 3 y)
 |_=>Er
theorem UB{sd:Qo}{b:qZ}{e:Rt}(h:e.length≠2):fU sd b (.tuple e)=false:=by rcases e with _|⟨a,_|⟨c,_|⟨d,e⟩⟩⟩<;>first|rfl|simp at h
theorem aD(a b c d:Qo):Ng (.tuple [tupD a,tupD b]) (.tuple [tupD c,tupD d])=(Es (a=c)&&Es (b=d)):=by show (Og (a.map n0) (c.map n0)&&(Og (b.map n0) (d.map n0)&&Ep))=_;rw[VJ,VJ,F7]
theorem VB(a b c d:Qo):SeqAt.noMix (.tuple [tupD a,tupD b]) (.tuple [tupD c,tupD d])=true:=by simp[SeqAt.noMix,SeqAt.noMixAll,kK]
theorem zv{d:Od}(h:yY n d=Ep):∃ns:Qo,d=tupD ns/\ns.length=n:=by
 cases d<;>simp only[yY,J1]at h<;>first|(cases h;done)|skip
 obtain⟨ns,e⟩:=ints_of h.2;refine⟨ns,by rw[e],?_⟩;have:=Ld h.1;rw[e,l0]at this;exact this
theorem Ik{sd:Qo}{d:Od}(h:eW sd d=Ep):∃b:qZ,d=VX b:=by
 cases d with
 |tuple a =>
  rcases a with _|⟨x,_|⟨y,_|⟨z,a⟩⟩⟩<;>first|(cases h;done)|skip
  simp only[eW,J1]at h;obtain⟨p,rfl,_⟩:=xK h.1.1;obtain⟨q,rfl,_⟩:=xK h.1.2;exact⟨(p,q),Z⟩
 |_=>cases h
theorem sL{sd:Qo}{b:qZ}{d:Od}(h:fU sd b d=Ep):∃x:V3,d=.tuple [VX b,Zq x]:=by
 cases d with
 |tuple e =>
  rcases e with _|⟨x,_|⟨y,_|⟨z,e⟩⟩⟩<;>first|(cases h;done)|skip
  simp only[fU,J1]at h;obtain⟨g,a,i⟩:=h;obtain⟨c,rfl⟩:=Ik g;obtain⟨ns,rfl,hl⟩:=zv i;have a:Ng (.tuple [tupD c.1,tupD c.2]) (.tuple [tupD b.1,tupD b.2])=true:=a;rw[aD,J1]at a;obtain⟨u,v,w,rfl⟩:∃u v w,ns=[u,v,w]:=by rcases ns with _|⟨u,_|⟨v,_|⟨w,_|⟨z,ns⟩⟩⟩⟩<;>first|exact⟨_,_,_,rfl⟩|simp at hl
  exact⟨(u,v,w),by rw[show c=b from Prod.ext (Ld a.1)<|Ld a.2]⟩
 |_=>cases h
theorem WB{sd:Qo}{b:qZ}(a:Bx b.1 b.2 sd)(x:V3):fU sd b (.tuple [VX b,Zq x])=true:=by have c:eW sd (VX b)=true:=ak a;have d:Ng (VX b) (VX b)=true:=Yi _;show (eW sd (VX b)&&(Ng (VX b) (VX b)&&Ep))=Ep;rw[c,d];rfl
noncomputable def Av:Od->qZ
 | .tuple [.tuple p,.tuple w]=>(p.map unI,w.map unI)
 |_=>([],[])
theorem gW(b:qZ):Av (VX b)=b:=by show ((b.1.map n0).map unI,(b.2.map n0).map unI)=b;rw[KJ,KJ]
theorem xM:∀{ls:List qZ}{ds:Rt}{sd:Qo},ls.Nodup->ds.length=ls.length->(∀p∈ls.zip ds,fU sd p.1 p.2=Ep)->∃V:qZ->V3,ds=ls.map (uA V)
 |[],[],_,_,_,_=>⟨λ_=>(0,0,0),Z⟩
 |[],_::_,_,_,h,_=>by simp at h
 |_::_,[],_,_,h,_=>by simp at h
 |b::ls,d::ds,sd,a,hl,h=>by
  have h0:fU sd b d=true:=h (b,d) (by rw[U2];exact G0);obtain⟨x,rfl⟩:=sL h0;have a:=i6.mp a;obtain⟨V,e⟩:=xM (ls:=ls) (ds:=ds) a.2 (by simpa using hl) λp g=>h p (by rw[U2];exact q0 _ g);refine⟨λc=>if c=b then x else V c,?_⟩;rw[G2];congr 1
  .unfold uA;dsimp only;rw[Jd Z]
  .rw[e];refine A1 λc i=>?_;unfold uA;dsimp only;rw[Gd (λz:c=b=>a.1<|z ▸ i)]
theorem Lq{b c:α}:∀{l:List α},(b,c)∈l.zip l->b=c
 |[],h=>by simp at h
 |x::l,h=>by
  rw[U2]at h;rcases R0.mp h with z|z
  .injection z with z1 z2;rw[z1,z2]
  .exact Lq z
variable (P w K mg base) in
structure CalsIe:Prop where
 Yp:Cal P w K mg base 4 "is_box" ["sides","thing"] (QX K tj)
 Ks:Cal P w K mg base 2 "are_wholes" ["thing","many"] (QX K Zx)
def Vb:Con:=λa Q=>∃(sd:Qo) (b:qZ) (d:Od),a=[.fz<|tupD sd,.fz<|VX b,.fz d]/\WH d=Ep/\Sd sd/\∀o,Q (.fz<|.bool<|fU sd b d) o
theorem vA(F:Rr K "is_entry" (top 38) f fd)(T:Txt mg)(C:CalsIe P w K mg base):FnOk P w K mg base mJ 5 f fd ["sides","box","thing"] (QX K Vb):=by
 have S:FnScope ["sides","box","thing"] ["sides","box","thing"] (SX<|top 38):={};refine IJ F S (λG A outer s H E g=>RX (lJ (Hw<|vU (ZJ<|NJ<|TY .tup Z T.Zp T.Zs Fl<|wn 2)<|xW<|oq g (wx<|WJ T.Qp<|aZ 2) UX) (sZ EW) GZ)<|sZ<|LD (dZ C.Yp g.m<|hZ 0<|TX<|ZX (wn 2) UX)<|LD (SY RY (AK (K:=K) Z g.units) (wx<|ZX (wn 2) UX)<|wn 1)<|tu<|dZ C.Ks g.m<|iZ (ZX (wn 2) UX)<|TX yZ) ?_;rintro k v ⟨sd,b,d,rfl,hd,B,q⟩;have L:=B.l3;cases d with
 |dict M=>exact⟨hd,q _⟩
 |int i=>exact q _
 |bool b=>exact q _
 |none=>exact q _
 |str x=>exact q _
 |list e=>exact q _
 |tuple e =>
  refine RZ (λh=>?_)<|λh=>?_
  .have h:(!Es ((e.length:Int)=2))=true:=h;rw[UB<|λz=>by rw[z]at h;cases h]at q;exact q _
  have hl:e.length=2:=by have h:¬(!Es ((e.length:Int)=2))=true:=h;simp at h;exact E7 h
  obtain⟨x,y,rfl⟩:∃x y,e=[x,y]:=by rcases e with _|⟨a,_|⟨c,_|⟨d,e⟩⟩⟩<;>first|exact⟨_,_,rfl⟩|simp at hl
  have hd:okAll [x,y]=true:=hd;have hx:=pJ hd x (by simp);have hy:=pJ hd y (by simp);have q:∀o,v (.fz<|.bool<|eW sd x&&(Ng x (VX b)&&yY 3 y)) o:=q;refine⟨_,Z,sd,x,Z,hx,by lia,λo=>?_⟩;cases j:eW sd x with
  |false=>rw[j]at q;exact q _
  |true =>
   rw[j]at q;obtain⟨c,rfl⟩:=Ik j;have l:=yV c;have t:=yV b;refine⟨_,Z,l.p,t.p,l.sh<|by decide,t.sh<|by decide,VB _ _ _ _,RZ (λh=>?_)<|λh=>?_⟩
   .have h:Ng (VX c) (VX b)=true:=h;rw[h]at q;exact⟨_,Z,y,3,Z,hy,by lia,λo=>q _⟩
   .have h:Ng (VX c) (VX b)=false:=u6.mpr h;rw[h]at q;exact q _
variable (P w K mg base) in
structure CalsHh:Prop where
 Vs:Cal P w K mg base 3 "half_boxes" ["sides"] (QX K Ha)
 Gr:Cal P w K mg base 5 "is_entry_tables" ["sides","box","thing"] (QX K Vb)
 Fp:Cal P w K mg base 4 "is_right_tables" ["field","told","box"] (QX K Ub)
def Wb:Con:=λa Q=>∃(sd cl:Qo) (d:Od),a=[.fz<|dJ sd cl,.fz d]/\WH d=Ep/\Sd sd/\cl.length=(tJ sd).length/\∀(t:Bool) (o:Ev),(t=Ep↔d=.list ((hbs sd).map<|KH sd cl))->Q (.fz<|.bool t) o
noncomputable def Xb(sd:Qo):Od->Od
 | .tuple [x,y]=>.bool<|fU sd (Av x) y
 |_=>.none
theorem wA(F:Rr K "holds_halves" (top 37) f fd)(T:Txt mg)(C:CalsHh P w K mg base):FnOk P w K mg base mJ 6 f fd ["field","thing"] (QX K Wb):=by
 have S:FnScope ["field","thing","boxes","told"] ["field","thing"] (SX<|top 37):={};refine IJ F S (λke A outer s H E l=>RX (tZ 2<|dZ C.Vs l.m<|TX<|ZX (wn 0) UX)<|RX (lJ (Hw<|vU (ZJ<|NJ<|TY .lst Z T.Zp T.Zr Zi<|wn 1)<|xW<|oq l (wx<|WJ T.Qp<|aZ 1)<|wx<|WJ T.Qp<|aZ 2) (sZ EW) GZ)<|RX (lJ (ZJ<|NJ<|kZ mY (zJ (K:=K) Z Z) T.Jo Sh<|TX<|NF ["box","entry"] [0] (MK Z T.Xo<|iZ (wv 2)<|TX<|wv 1) (λ_ _ _ _=>pK Z rfl<|lZ (HZ 0)<|lZ (HZ 1) EJ)<|λ_ _ _ _=>dZ C.Gr l.m<|iZ (ZX (wn 2) UX)<|hZ 0<|aZ 1) (sZ EW) GZ)<|RX (tZ 3<|nq Z Z (vY l) T.Jr (by decide +kernel)<|aZ 1)<|sZ<|kZ mY (zJ (K:=K) Z Z) T.Jo Sh<|TX<|SJ ["box"] [0,3] (CZ rfl<|wv 2)<|λ_ _ _ _=>dZ C.Fp l.m<|hZ 1<|hZ 2<|aZ 0) ?_;rintro L Qd ⟨sd,cl,d,rfl,hd,j,R,q⟩;have hl:=HU j;with_reducible refine xZ (λρ=>ρ=[Zt<|dJ sd cl,Zt d,Yt<|.list<|(hbs sd).map VX,U]) ?_ ?_
 .intro N hN;exact⟨_,Z,sd,Z,j,λo=>hN _ Z⟩
 rintro _ rfl;with_reducible refine xZ (λρ=>∃a,d=.list a/\a.length=(hbs sd).length/\ρ=[Zt<|dJ sd cl,Zt<|.list a,Yt<|.list<|(hbs sd).map VX,U]) ?_ ?_
 .intro N hN;have no:(∀a,d≠.list a)->(Er=Ep↔d=.list ((hbs sd).map<|KH sd cl)):=λh=>⟨λz=>(by cases z),λz=>(h _ z).elim⟩;cases d with
  |dict es=>exact⟨hd,q Er _<|no λ_ z=>by cases z⟩
  |int i=>exact q Er _ (no λ_ z=>by cases z)
  |bool b=>exact q Er _ (no λ_ z=>by cases z)
  |none=>exact q Er _ (no λ_ z=>by cases z)
  |str x=>exact q Er _ (no λ_ z=>by cases z)
  |tuple xs=>exact q Er _ (no λ_ z=>by cases z)
  |list a =>
   refine RZ (λh=>?_)<|λh=>?_
   .have h:(!Es ((a.length:Int)=(((hbs sd).map VX).length:Int)))=true:=h;refine q Er _ ⟨λz=>(by cases z),λz=>?_⟩;injection z with z;rw[z,l0,l0]at h;simp at h
   .refine hN _ ⟨a,Z,?_,Z⟩;have h:¬(!Es ((a.length:Int)=(((hbs sd).map VX).length:Int)))=true:=h;rw[l0]at h;simp at h;exact E7 h
 rintro _ ⟨a,rfl,Y,rfl⟩;with_reducible refine xZ (λρ=>∃V,a=(hbs sd).map (uA V)/\ρ=[Zt<|dJ sd cl,Zt<|.list a,Zt<|.list<|(hbs sd).map VX,U]) ?_ ?_
 .intro N hN;have M:tW ((hbs sd).map VX) a=((hbs sd).zip a).map λp=>K1 [VX p.1,p.2]:=by
   unfold tW;rw[List.zip_map_left,A0];rfl
  refine⟨by rw[M,l0,U1];exact WX<|by lia,?_⟩;rw[M];refine sJ (Xb sd) ?_ ?_
  .intro d' y B k;obtain⟨⟨b,e⟩,g,rfl⟩:=v0.mp y;have g:=v6 g;have k:B (.bool<|fU sd (Av<|VX b) e) _:=k;rw[gW]at k;exact⟨Z,_,Z,sd,b,e,Z,pJ hd e g.2,j,λo=>k⟩
  .have em:(((hbs sd).zip a).map λp=>K1 [VX p.1,p.2]).map (Xb sd)=(((hbs sd).zip a).map λp=>fU sd p.1 p.2).map L4:=by
    rw[A0,A0];refine A1 λp _=>?_;show L4 (fU sd (Av<|VX p.1) p.2)=_;rw[gW];rfl
   refine⟨_,em,?_⟩;cases t:(((hbs sd).zip a).map λp=>fU sd p.1 p.2).all id with
   |false =>
    refine q Er _ ⟨λz=>(by cases z),λz=>?_⟩;injection z with z;exfalso;rw[z]at t;have:(((hbs sd).zip<|(hbs sd).map<|KH sd cl).map λp=>fU sd p.1 p.2).all id=true:=by rw[L6];refine Z3.mpr λp v=>?_;rw[EX]at v;obtain⟨⟨b,c⟩,g,rfl⟩:=v0.mp v;have G:b=c:=Lq g;subst G;exact WB (EK j.p (v6 g).1)<|jR sd cl b
    rw[this]at t;cases t
   |true =>
    obtain⟨V,e⟩:=xM (cU j.p) Y λp v=>by rw[L6]at t;exact Z3.mp t p v
    exact hN _ ⟨V,e,Z⟩
 rintro _ ⟨V,rfl,rfl⟩;with_reducible refine xZ (λρ=>ρ=[Zt<|dJ sd cl,Zt<|.list<|(hbs sd).map<|uA V,Zt<|.list<|(hbs sd).map VX,Zt<|uF<|Gk sd V]) ?_ ?_
 .intro N hN;refine⟨Gk sd V,?_,?_,hN _ Z⟩
  .unfold Gk;rw[A0];rfl
  .unfold Gk;rw[A0];have e:((λx:qZ×Od=>x.1)∘λb:qZ=>(b,Zq<|V b))=id:=rfl;rw[e,B8];exact cU j.p
 rintro _ rfl;refine⟨WX (by rw[l0];lia),sJ (λd=>.bool<|xv sd cl V<|Av d) ?_ ?_⟩
 .intro d hd B k;obtain⟨b,g,rfl⟩:=v0.mp hd;have k:B (.bool<|xv sd cl V<|Av<|VX b) _:=k;rw[gW]at k;exact⟨sd,cl,V,b,Z,j,R,g,λo=>k⟩
 .refine⟨(hbs sd).map<|xv sd cl V,?_,q _ _ ⟨λh=>?_,λh=>?_⟩⟩
  .rw[A0,A0];refine A1 λb _=>?_;show L4 (xv sd cl V<|Av<|VX b)=_;rw[gW];rfl
  .rw[L6]at h;have h:=Z3.mp h;congr 1;refine A1 λb g=>?_;have e:=SH j.p h _ b g<|P0 _;show K1 [VX b,Zq<|V b]=K1 [VX b,tupD<|IU sd cl b];rw[e];rfl
  .injection h with h;rw[L6];refine Z3.mpr λb g=>?_;refine IP j.p (λc hc=>?_) g;have:=List.map_inj_left.mp h c hc;have e:Zq (V c)=tupD (IU sd cl c):=by
    injection this with this;injection this with _ this;injection this
   have e:=HP e;unfold IU fL at e;simp only[List.cons.injEq,and_true]at e;exact Prod.ext e.1<|Prod.ext e.2.1 e.2.2
theorem Mq{l:Qo}{i:Nat}{x:Int}(h:l[i]?=O x):l.set i x=l:=by obtain⟨a,b⟩:=O1.mp h;rw[<-b];exact List.set_getElem_self a
noncomputable def gpw(n:Int):Nat:=n.toNat.log2
theorem zV{n:Int}(h:1<=n)(k:Nat):k<=gpw n↔(2:Int) ^ k<=n:=by
 unfold gpw;rw[Nat.le_log2<|G4<|Int.lt_toNat.2 h];have e:((2 ^ k:Nat):Int)=2 ^ k:=by rw[v9];rfl
 lia
theorem Dj{n:Int}(h:1<=n):(gpw n:Int)+1<=n:=by
 have a:=(zV h<|gpw n).mp<|P0 _;have b:gpw n<2 ^ gpw n:=sX;have e:((2 ^ gpw n:Nat):Int)=2 ^ gpw n:=by rw[v9];rfl
 lia
theorem XB{n:Int}(h:1<=n):(Y6 n:Int)-1=gpw n:=by
 unfold Y6 gpw;have e:(n==0)=false:=by rw[beq_eq_false_iff_ne];exact F8 h
 rw[e];have a:n.natAbs=n.toNat:=by lia
 rw[a];show (((n.toNat.log2+1:Nat):Int))-1=_
 lia
noncomputable def TW(sd p:Qo):List Qo:=(sd.zip p).map λq=>rng<|(gpw (q.1-q.2):Nat)+1
noncomputable def cY(sd:Qo):List qZ:=(tJ sd).flatMap λp=>(mZ [[]]<|TW sd p).map λw=>(p,w)
noncomputable def Pc:Qo->Qo->Qo->Prop
 |[],[],[]=>True
 |x::p,k::w,s::sd=>(0<=x/\x<s/\0<=k/\(2:Int) ^ k.toNat<=s-x)/\Pc p w sd
 |_,_,_=>Fo
theorem yM:∀{sd p w:Qo},Wi p sd->lU w (TW sd p)->Pc p w sd
 |[],[],[],_,_=>trivial
 |s::sd,x::p,k::w,a,b=>by have hx:=a.1;have c:0<=k/\k<((gpw (s-x):Nat):Int)+1:=Qx b.1;refine⟨⟨hx.1,hx.2,c.1,(zV (v7 hx.2) _).mp<|Int.toNat_le.2<|l9 c.2⟩,yM a.2 b.2⟩
 |[],[],_::_,_,h=>h.elim
 |_::_,_::_,[],_,h=>h.elim
 |[],_::_,_,h,_=>h.elim
 |_::_,[],_,h,_=>h.elim
theorem zM:∀{sd p w:Qo},Pc p w sd->Wi p sd/\lU w (TW sd p)
 |[],[],[],_=>⟨trivial,trivial⟩
 |s::sd,x::p,k::w,h=>by obtain⟨⟨b,a,c,d⟩,e⟩:=h;obtain⟨g,g2⟩:=zM e;refine⟨⟨⟨b,a⟩,g⟩,⟨?_,g2⟩⟩;have:=(zV (v7 a) k.toNat).mpr d;exact Xx c (by show k<((gpw (s-x):Nat):Int)+1;exact B7<|Int.toNat_le.1 this)
 |[],[],_::_,h=>h.elim
 |[],_::_,z,h=>by cases z<;>exact h.elim
 |_::_,[],z,h=>by cases z<;>exact h.elim
 |_::_,_::_,[],h=>h.elim
theorem pcs_mem{sd:Qo}{b:qZ}:b∈cY sd↔Pc b.1 b.2 sd:=by
 unfold cY;constructor
 .intro h;obtain⟨p,d,hw⟩:=i5.mp h;obtain⟨w,c,rfl⟩:=v0.mp hw;exact yM (RW d)<|YZ c
 .intro h;obtain⟨e,g⟩:=zM h;exact i5.mpr ⟨b.1,lB e,v0.mpr ⟨b.2,TJ (a:=[]) (by simp) g,Z⟩⟩
theorem hW:∀{p w sd:Qo},Pc p w sd->p.length=sd.length/\w.length=sd.length
 |[],[],[],_=>⟨Z,Z⟩
 |x::p,k::w,s::sd,h=>by
  have:=hW h.2;simp only[J2]
  lia
 |[],[],_::_,h=>h.elim
 |[],_::_,z,h=>by cases z<;>exact h.elim
 |_::_,[],z,h=>by cases z<;>exact h.elim
 |_::_,_::_,[],h=>h.elim
noncomputable def XJ(p w:Qo):Qo:=(p.zip w).map λq=>q.1+2 ^ q.2.toNat-1
theorem LU(k:Nat):(1:Int)<=2 ^ k:=by
 have:1<=2 ^ k:=Nat.one_le_two_pow;have e:((2 ^ k:Nat):Int)=2 ^ k:=by rw[v9];rfl
 lia
theorem iW:∀{p w sd:Qo},Pc p w sd->Bx p (XJ p w) sd
 |[],[],[],_=>trivial
 |x::p,k::w,s::sd,h=>by obtain⟨⟨a,c,d,e⟩,b⟩:=h;have:=LU k.toNat;exact⟨⟨a,by show x<=x+2 ^ k.toNat-1;exact S6<|x9 this _,by show x+2 ^ k.toNat-1<s;lia⟩,iW b⟩
 |[],[],_::_,h=>h.elim
 |[],_::_,z,h=>by cases z<;>exact h.elim
 |_::_,[],z,h=>by cases z<;>exact h.elim
 |_::_,_::_,[],h=>h.elim
theorem AV:∀{p w sd:Qo}{i:Nat}{x k:Int},Pc p w sd->p[i]?=O x->w[i]?=O k->0<k -> Pc p (w.set i<|k-1) sd/\Pc (p.set i<|x+2 ^ (k-1).toNat) (w.set i<|k-1) sd/\XJ p (w.set i<|k-1)=(XJ p w).set i (x+2 ^ (k-1).toNat-1)/\XJ (p.set i<|x+2 ^ (k-1).toNat) (w.set i<|k-1)=XJ p w/\(XJ p w)[i]?=O (x+2 ^ k.toNat-1)
 |[],_,_,_,_,_,_,h,_,_=>by simp at h
 |y::p,l::w,s::sd,0,x,k,h,a,b,c=>by
  simp only[P5,Option.some.injEq]at a b;subst a;subst b;obtain⟨⟨d,j,G,m⟩,e⟩:=h;have q:l.toNat=(l-1).toNat+1:=by lia
  have g:(2:Int) ^ l.toNat=2*2 ^ (l-1).toNat:=by rw[q,F9,j8]
  have t:=LU (l-1).toNat;rw[g]at m;refine⟨⟨⟨d,j,Q2 c,by lia⟩,e⟩,⟨⟨Int.add_nonneg d<|X1 t,by omega,by omega,by omega⟩,e⟩,?_,?_,?_⟩
  .rfl
  .show (y+2 ^ (l-1).toNat+2 ^ (l-1).toNat-1)::XJ p w=(y+2 ^ l.toNat-1)::XJ p w;rw[g];congr 1
   lia
  .rfl
 |y::p,l::w,s::sd,i+1,x,k,h,a,b,c=>by
  simp only[B3]at a b;obtain⟨v,g2,B,C,F⟩:=AV h.2 a b c;refine⟨⟨h.1,v⟩,⟨h.1,g2⟩,?_,?_,?_⟩
  .show (y+2 ^ l.toNat-1)::XJ p (w.set i<|k-1)=(y+2 ^ l.toNat-1)::(XJ p w).set i _;rw[B]
  .show (y+2 ^ l.toNat-1)::XJ (p.set i _) (w.set i<|k-1)=(y+2 ^ l.toNat-1)::XJ p w;rw[C]
  .exact F
 |_::_,[],z,_,_,_,h,_,_,_=>by cases z<;>exact h.elim
 |_::_,_::_,[],_,_,_,h,_,_,_=>h.elim
noncomputable def v2(sd cl:Qo)(b:qZ):Qo:=[GJ<|jZ sd cl b.1<|XJ b.1 b.2,HJ<|jZ sd cl b.1<|XJ b.1 b.2]
theorem tL{sd:Qo}{b:qZ}(h:Pc b.1 b.2 sd){i:Nat}{x k:Int}(q:b.1[i]?=O x)(R:b.2[i]?=O k)(S:0<k):v2 sd cl b=[min (GJ<|jZ sd cl b.1<|XJ b.1<|b.2.set i<|k-1)<|GJ<|jZ sd cl (b.1.set i<|x+2 ^ (k-1).toNat)<|XJ (b.1.set i<|x+2 ^ (k-1).toNat)<|b.2.set i<|k-1,max (HJ<|jZ sd cl b.1<|XJ b.1<|b.2.set i<|k-1)<|HJ<|jZ sd cl (b.1.set i<|x+2 ^ (k-1).toNat)<|XJ (b.1.set i<|x+2 ^ (k-1).toNat)<|b.2.set i<|k-1]:=by
 obtain⟨Y,g2,B,t,C⟩:=AV h q R S;have hb:=iW h;have v:=iW Y;have b2:=iW g2;have h6:=LU (k-1).toNat;have ek:k.toNat=(k-1).toNat+1:=by lia
 have e3:(2:Int) ^ k.toNat=2*2 ^ (k-1).toNat:=by rw[ek,F9,j8]
 have g:b.1.set i x=b.1:=Mq q;have j:(XJ b.1 b.2).set i (x+2 ^ k.toNat-1)=XJ b.1 b.2:=Mq C;have d:=cF (cl:=cl) (b:=(b.1,XJ b.1 b.2)) (i:=i) (a:=x) (c:=x+2 ^ k.toNat-1) (m:=x+2 ^ (k-1).toNat-1) hb q C (S6<|x9 h6 _) (by omega)
  (by show Bx (b.1.set i x) ((XJ b.1 b.2).set i<|x+2 ^ (k-1).toNat-1) sd;rw[g,<-B];exact v)
  (by show Bx (b.1.set i<|x+2 ^ (k-1).toNat-1+1) ((XJ b.1 b.2).set i<|x+2 ^ k.toNat-1) sd;rw[j,Int.sub_add_cancel,<-t];exact b2);have d:(jZ sd cl b.1<|XJ b.1 b.2).Perm (jZ sd cl (b.1.set i x) ((XJ b.1 b.2).set i<|x+2 ^ (k-1).toNat-1)++jZ sd cl (b.1.set i<|x+2 ^ (k-1).toNat-1+1) ((XJ b.1 b.2).set i<|x+2 ^ k.toNat-1)):=d;rw[g,<-B,j,Int.sub_add_cancel]at d;rw[<-t]at d;have F:=eJ<|jJ (cl:=cl) v;have G:=eJ<|jJ (cl:=cl) b2;have L:=fJ<|jJ (cl:=cl) v;have M:=fJ<|jJ (cl:=cl) b2;unfold v2;rw[<-t];generalize jZ sd cl b.1 (XJ (b.1.set i<|x+2 ^ (k-1).toNat)<|b.2.set i<|k-1)=l at d ⊢;generalize jZ sd cl b.1 (XJ b.1<|b.2.set i<|k-1)=l1 at *;generalize jZ sd cl (b.1.set i<|x+2 ^ (k-1).toNat) (XJ (b.1.set i<|x+2 ^ (k-1).toNat)<|b.2.set i<|k-1)=l2 at *;congr 1
 .refine(PK (d.mem_iff.mpr ?_) λy hy=>?_).symm
  .rcases (show min (GJ l1) (GJ l2)=GJ l1\/min (GJ l1) (GJ l2)=GJ l2 by lia) with e|e<;>rw[e]
   .exact Y3 _ F.1
   .exact B1 _ G.1
  .rcases B2.mp (d.mem_iff.mp hy) with z|z
   .have:=F.2 y z;lia
   .have:=G.2 y z;lia
 .congr 1;refine(QK (d.mem_iff.mpr ?_) λy hy=>?_).symm
  .rcases (show max (HJ l1) (HJ l2)=HJ l1\/max (HJ l1) (HJ l2)=HJ l2 by lia) with e|e<;>rw[e]
   .exact Y3 _ L.1
   .exact B1 _ M.1
  .rcases B2.mp (d.mem_iff.mp hy) with z|z
   .have:=L.2 y z;exact Y1 this<|TQ _ _
   .have:=M.2 y z;exact Y1 this<|tQ _ _
theorem YB(s:Int):(rng s).Pairwise (· < ·):=by rw[<-ZV];exact GU _ _
theorem JP(sd p:Qo):∀c∈TW sd p,c.Pairwise (· < ·):=λc a=>by obtain⟨q,_,rfl⟩:=v0.mp a;exact YB _
theorem KP(sd:Qo):(tJ sd).Pairwise (λa b=>HT.lexLt a b=Ep):=CJ (cs:=sd.map rng) (acc:=[[]]) (n:=0) (Q3 _ _) (by simp) λc d=>by obtain⟨s,_,rfl⟩:=v0.mp d;exact YB _
theorem ZB(sd:Qo):(cY sd).Pairwise λa b=>NK a b=true:=by
 unfold cY;refine Z8.mpr ⟨λp d=>?_,(KP sd).imp λ{a b} c x hx y hy=>?_⟩
 .refine N5.mpr ((CJ (cs:=TW sd p) (acc:=[[]]) (n:=0) (Q3 _ _) (by simp)<|JP sd p).imp λ{a b} h=>?_);show NK (p,a) (p,b)=Ep;unfold NK;rw[Jd Z];exact h
 .obtain⟨u,_,rfl⟩:=v0.mp hx;obtain⟨v,_,rfl⟩:=v0.mp hy;show NK (a,u) (b,v)=Ep;unfold NK;rw[Gd (λz=>by have z:a=b:=z;rw[z,SG.lex_wk.irr]at c;cases c)];exact c
theorem dF(sd:Qo):(cY sd).Nodup:=(ZB sd).imp λ{a b} h z=>by rw[z,ltB_wk.irr]at h;cases h
theorem TH:∀{sd p:Qo},Wi p sd->(TZ (TW sd p):Int)<=vZ sd/\1<=vZ sd
 |[],[],_=>⟨by show (1:Int)<=1;decide,by show (1:Int)<=1;decide⟩
 |s::sd,x::p,h=>by
  obtain⟨i1,i2⟩:=TH (sd:=sd) (p:=p) h.2;have hx:=h.1;have a:=Dj (n:=s-x)<|v7 hx.2;have e:(TZ (TW (s::sd) (x::p)):Int)=(((gpw (s-x):Nat):Int)+1)*(TZ (TW sd p):Int):=by show (((rng<|((gpw (s-x):Nat):Int)+1).length*TZ (TW sd p):Nat):Int)=_;rw[wY,w8];congr 1
  rw[e];show _<=s*vZ sd/\1<=s*vZ sd;refine⟨N6 (Y1 a<|Int.sub_le_self _ hx.1) i1 (G3 _)<|by lia,?_⟩;have:=N6 (show (1:Int)<=s by exact X3 hx.1 hx.2) i2 (by decide) (by omega)
  lia
 |[],_::_,h=>h.elim
 |_::_,[],h=>h.elim
theorem Nq{α β:Type}{f:α->List β}{c:Nat}:∀{l:List α},(∀p∈l,(f p).length<=c)->(l.flatMap f).length<=l.length*c
 |[],_=>by simp
 |p::l,h=>by
  have b:=h p G0;have d:=Nq (l:=l) λq a=>h q<|q0 _ a;rw[Y2,T0,J2,AQ]
  lia
theorem Oq{sd:Qo}(h:Sd sd){l:List Qo}(hl:∀p∈l,p∈tJ sd)(a:l.length<=120):(l.flatMap λp=>(mZ [[]]<|TW sd p).map λw=>((p,w):qZ)).length<=14400:=by
 have b:=Nq (f:=λp=>(mZ [[]]<|TW sd p).map λw=>((p,w):qZ)) (c:=120) (l:=l) λp d=>by rw[l0,IZ];have e:=(TH<|RW<|hl p d).1;have g:=h.m;simp;exact G8.1<|Y1 e g
 have i:=nX 120 a;exact K0 b i
theorem Jk{sd:Qo}(h:Sd sd):(tJ sd).length<=120:=by
 have a:=xY h.p;have b:=h.m
 lia
theorem MU{sd:Qo}(h:Sd sd):(cY sd).length<=14400:=Oq h (λp a=>a)<|Jk h
noncomputable abbrev CV(sd cl:Qo)(b:qZ):Od:=.tuple [tupD b.1,tupD b.2,.int<|GJ<|jZ sd cl b.1<|XJ b.1 b.2,.int<|HJ<|jZ sd cl b.1<|XJ b.1 b.2]
theorem BV(h:n<=100000):n<=sizeLine:=K0 h (by decide)
noncomputable def Yb:Od->Od
 | .tuple [.int s,.int x]=>.list<|(rng<|(gpw (s-x):Nat)+1).map n0
 |_=>.none
noncomputable def Zb:Od->Od
 | .tuple [.int x,.int k]=>.int<|x+2 ^ k.toNat-1
 |_=>.none
noncomputable def xA(sd cl:Qo):Od->Od
 | .tuple [.tuple p,.tuple w]=>CV sd cl (p.map unI,w.map unI)
 |_=>.none
theorem bD(sd cl:Qo)(b:qZ):xA sd cl (VX b)=CV sd cl b:=by show CV sd cl ((b.1.map n0).map unI,(b.2.map n0).map unI)=_;rw[KJ,KJ]
def aC:Con:=λa Q=>∃sd:Qo,a=[.fz<|tupD sd]/\sd.length<=1000/\∀o,Q (.fz<|tupD<|sd.map λ_=>0) o
theorem bC(F:Rr K "first_place" (top 15) f fd)(T:Txt mg):FnOk P w K mg base mJ 1 f fd ["sides"] (QX K aC):=by
 have S:FnScope ["sides"] ["sides"] (SX<|top 15):={};refine IJ F S (λb A outer s H E c=>sZ<|uW T.Zs<|TX<|SJ ["side"] [] (CZ rfl<|wv 0)<|λ_ _ _ _=>yZ) ?_;rintro a g ⟨sd,rfl,hl,q⟩;refine⟨by rw[l0];exact WX hl,sJ (λ_=>.int 0) (λd hd N hN=>hN) ?_⟩;have e:(sd.map n0).map (λ_=>n0 0)=(sd.map λ_=>0).map n0:=by simp[A0,Function.comp_def]
 rw[e];exact q _
def cC:Con:=λa Q=>∃sd:Qo,a=[.fz<|tupD sd]/\sd.length<=1000/\∀o,Q (.fz<|tupD<|sd.map λs=>s-1) o
theorem uL(F:Rr K "last_place" (top 16) f fd)(T:Txt mg):FnOk P w K mg base mJ 1 f fd ["sides"] (QX K cC):=by
 have S:FnScope ["sides"] ["sides"] (SX<|top 16):={};refine IJ F S (λc A outer s H E e=>sZ<|uW T.Zs<|TX<|SJ ["side"] [] (CZ rfl<|wv 0)<|λ_ _ _ _=>WK (wn 0) UX) ?_;rintro a b ⟨sd,rfl,hl,q⟩;refine⟨by rw[l0];exact WX hl,sJ (λd=>match d with | .int i=>.int (i-1)|_=>.none) (λd hd N hN=>?_) ?_⟩
 .obtain⟨i,_,rfl⟩:=v0.mp hd;exact hN
 .refine Eq.mpr (Ae (λz=>b (.fz<|.tuple z) _) ?_) (q _);simp[A0,Function.comp_def]
variable (P w K mg base) in
structure CalsF:Prop where
 Ys:Cal P w K mg base 2 "places_between" ["low","high"] (QX K aL)
 Fs:Cal P w K mg base 1 "first_place" ["sides"] (QX K aC)
 Ft:Cal P w K mg base 1 "last_place" ["sides"] (QX K cC)
def SW:Con:=λa Q=>∃sd:Qo,a=[.fz<|tupD sd]/\Sd sd/\∀o,Q (.ow<|.list<|(tJ sd).map tupD) o
theorem cD(F:Rr K "all_places" (top 18) f fd)(C:CalsF P w K mg base):FnOk P w K mg base mJ 3 f fd ["sides"] (QX K SW):=by
 have S:FnScope ["sides"] ["sides"] (SX<|top 18):={};refine IJ F S (λk A outer s H E b=>sZ<|dZ C.Ys b.m<|iZ (dZ C.Fs b.m<|aZ 0)<|TX<|dZ C.Ft b.m<|aZ 0) ?_;rintro c l ⟨sd,rfl,a,q⟩;have j:=a.l3;refine⟨sd,Z,by lia,λo1=>?_⟩;refine⟨sd,Z,by omega,λo2=>?_⟩;have e:((sd.map λ_=>(0:Int)).zip<|sd.map λs=>s-1).map (λp=>UZ p.1 p.2)=sd.map rng:=by rw[EH,A0];exact A1 λs _=>ZV s
 refine⟨sd.map λ_=>0,sd.map λs=>s-1,Z,by simp,by simpa using j,λp d=>?_,?_,λo3=>?_⟩
 .rw[EH]at d;obtain⟨s,g,rfl⟩:=v0.mp d;have i:=a.p s g;have t:=OZ a.p s g;have:=a.m;exact⟨by show (0:Int)<=0;decide,by show (0:Int)<=s-1;exact Q2 i,by show s-1<=1000;lia⟩
 .rw[e];have i:=tV a.p;have:=a.m
  lia
 .unfold xU;rw[e];exact q _
def l_:Con:=λa Q=>∃k:Int,a=[.fz<|.int k]/\0<=k/\k<=1000/\∀o,Q (.fz<|.int<|2 ^ k.toNat) o
theorem yA(F:Rr K "two_to" (top 49) f fd)(T:Txt mg):FnOk P w K mg base mJ 1 f fd ["power"] (QX K l_):=by
 have S:FnScope ["power","number","turn"] ["power"] (SX<|top 49):={};refine IJ F S (λg A outer s H E i=>RX (tZ 1 yZ)<|RX (aW [2] (FW T.Xs<|aZ 0) (HZ 2)<|AZ<|tZ 1<|rq (wn 1) UX)<|mG 1) ?_;rintro b l ⟨k,rfl,m,t,q⟩;with_reducible refine xZ (λρ=>ρ=[Zt<|.int k,Zt<|.int 1,U]) ?_ ?_
 .intro N hN;exact hN _ Z
 rintro _ rfl;with_reducible refine xZ (λρ=>ρ=[Zt<|.int k,Zt<|.int<|2 ^ k.toNat,U]) ?_ ?_
 .intro N hN;refine⟨by lia,by lia,?_⟩;refine YJ (λrest ρ=>∃j:Nat,j+rest.length=k.toNat/\ρ=[Zt<|.int k,Zt<|.int<|2 ^ j,U]) ?_ ?_ ⟨0,by rw[wZ,l0,v5];exact E8 _ _,Z⟩
  .rintro d v ρ ⟨j,a,rfl⟩ M c;refine⟨.inr ⟨by decide,by decide⟩,?_⟩;refine c _ ⟨j+1,by simp at a;lia,?_⟩;rw[F9];rfl
  .rintro ρ ⟨j,a,rfl⟩;have e:j=k.toNat:=by simpa using a
   subst e;exact hN _ Z
 rintro _ rfl;exact q _
def Pa:Con:=λa Q=>∃n:Int,a=[.fz<|.int n]/\1<=n/\∀o,Q (.fz<|.int (gpw n:Nat)) o
theorem zA(F:Rr K "greatest_power" (top 50) f fd):FnOk P w K mg base mJ 1 f fd ["length"] (QX K Pa):=by
 have S:FnScope ["length"] ["length"] (SX<|top 50):={};refine IJ F S (λd A outer s H E e=>sZ<|WK (wx<|XO<|wn 0) UX) ?_;rintro a b ⟨n,rfl,h,q⟩;have c:∀o,b (.fz<|.int<|(Y6 n:Nat)-1) o:=λo=>by rw[XB h];exact q o
 exact c _
variable (P w K mg base) in
structure CalsAp:Prop where
 Dp:Cal P w K mg base 3 "all_places" ["sides"] (QX K SW)
 Dr:Cal P w K mg base 1 "greatest_power" ["length"] (QX K Pa)
 Yo:Cal P w K mg base 1 "one_of_each" ["choices"] (QX K yq)
def Qa:Con:=λa Q=>∃sd:Qo,a=[.fz<|tupD sd]/\Sd sd/\∀o,Q (.ow<|.list<|(cY sd).map VX) o
theorem AA(F:Rr K "all_pieces" (top 51) f fd)(T:Txt mg)(C:CalsAp P w K mg base):FnOk P w K mg base mJ 4 f fd ["sides"] (QX K Qa):=by
 have S:FnScope ["sides","pieces","place","choices","powers"] ["sides"] (SX<|top 51):={};refine IJ F S (λke A outer s H E hr=>RX (tZ 1<|WZ cK)<|RX (aW [2,3,4] (CZ rfl<|dZ C.Dp hr.m<|aZ 0) (HZ 2)<|RX (GW (i:=3) S.nd Z Z Z (own:=["side","number"]) (fr:=[]) (by kernel_rfl) (MK Z T.Xo<|hZ 0<|aZ 2) (λ_ _ _ _=>pK Z rfl<|lZ (HZ 0)<|lZ (HZ 1) EJ) (λ_ _ _ _=>RL)<|λ_ _ _ _=>sT Z T.Zr T.Xs<|TX<|JJ (wx<|dZ C.Dr hr.m<|TX<|WK (wn 0)<|wn 1) UX)<|AZ<|aW [4] (CZ rfl<|dZ C.Yo hr.m<|TX<|wv 3) (HZ 4)<|AZ<|nK<|uu wK Z PySem.F.slot_list_append PySem.F.type_list_append vK (wn 1)<|TX<|DZ<|iZ (wv 2)<|TX<|wv 4)<|mG 1) ?_;rintro args Qd ⟨sd,rfl,v,q⟩;have h3:=v.l3;have hm:=v.m;have g:=Jk v;with_reducible refine xZ (λρ=>ρ=[Zt<|tupD sd,Yt<|.list [],U,U,U]) ?_ ?_
 .intro N hN;exact hN _ Z
 rintro _ rfl;with_reducible refine xZ (λρ=>ρ=[Zt<|tupD sd,Yt<|.list<|(cY sd).map VX,U,U,U]) ?_ ?_
 .intro N hN;refine⟨sd,Z,v,λo=>?_⟩;refine(?_:oY _ _ _ _ ((tJ sd).map tupD) [Zt<|tupD sd,Yt<|.list [],U,U,U]);refine YJ (λrest ρ=>∃dn j:List Qo,tJ sd=dn++j/\rest=j.map tupD/\ρ=[Zt<|tupD sd,Yt<|.list<|(dn.flatMap λp=>(mZ [[]]<|TW sd p).map λw=>((p,w):qZ)).map VX,U,U,U]) ?_ ?_ ⟨[],tJ sd,Z,Z,Z⟩
  .rintro d ds ρ ⟨dn,j,l,a,rfl⟩ M hM;cases j with
   |nil=>cases a
   |cons p j =>
    cases a;have hp:p∈tJ sd:=by rw[l];simp
    have nr:=RW hp;have hwl:=cW nr;have mm:=TH nr;have hdn:(dn.flatMap λp=>(mZ [[]]<|TW sd p).map λw=>((p,w):qZ)).length<=14400:=Oq v (λx hx=>by rw[l];exact Y3 _ hx) (by rw[l,T0]at g;exact N1 g);generalize hB0:(dn.flatMap λp=>(mZ [[]]<|TW sd p).map λw=>((p,w):qZ))=B at hdn ⊢;have kh:(mZ [[]]<|TW sd p).length<=120:=by rw[IZ];have:=mm.1;simp;exact G8.1<|Y1 this hm
    with_reducible refine kT Z ?_
    with_reducible refine xZ (λρ=>ρ=[Zt<|tupD sd,Yt<|.list<|B.map VX,Zt<|tupD p,Yt<|.list<|((TW sd p).map<|Y4 n0).map P2,U]) ?_ ?_
    .intro M2 hM2;have hz:=oJ sd p;refine⟨by rw[hz,l0,U1];exact WX<|by lia,?_⟩;refine sJ Yb ?_ ?_
     .intro d hd N' Y;rw[hz]at hd;obtain⟨⟨s,x⟩,G,rfl⟩:=v0.mp hd;have hb:1<=s-x/\s-x<=120:=by
       have hs:=OZ v.p s (v6 G).1;have gen:∀{p sd:Qo},Wi p sd->∀q∈sd.zip p,0<=q.2/\q.2<q.1:=by
        intro p;induction p with
        |nil=>intro sd _ q hq;simp at hq
        |cons y p ih =>
         intro sd h q hq;cases sd with
         |nil=>exact h.elim
         |cons t sd =>
          rw[U2]at hq;rcases R0.mp hq with z|z
          .rw[z];exact h.1
          .exact ih h.2 q z
       have:=gen nr (s,x) G;simp only at this
       lia
      have hg:=Dj hb.1;refine⟨Z,s-x,Z,hb.1,λo=>?_⟩;refine⟨⟨by decide,by lia⟩,by lia,?_⟩;have Y:N' (.list<|(rng<|(gpw (s-x):Nat)+1).map n0) _:=Y;rw[<-DH]at Y;exact Y
     .have e:(tW (sd.map n0)<|p.map n0).map Yb=((TW sd p).map<|Y4 n0).map P2:=by
       rw[hz];unfold TW;rw[A0,A0,A0];rfl
      rw[e];exact hM2 _ Z
    rintro _ rfl;have L:TZ ((TW sd p).map<|Y4 n0)=TZ (TW sd p):=by
     generalize TW sd p=cs;induction cs with
     |nil=>rfl
     |cons c cs ih=>show (c.map n0).length*_=c.length*_;rw[ih,l0]
    refine⟨(TW sd p).map<|Y4 n0,Z,λc hc=>?_,by rw[L];have:=mm.1;lia,?_,λo=>?_⟩
    .obtain⟨c',ue,rfl⟩:=v0.mp hc;obtain⟨q,_,rfl⟩:=v0.mp ue;intro z;have:=Ae W5 z;rw[l0,wY,W6]at this
     lia
    .unfold TW;rw[l0,l0,U1];omega
    have e1:(mZ [[]]<|(TW sd p).map<|Y4 n0).map K1=(mZ [[]]<|TW sd p).map tupD:=by have:=ZK n0 (TW sd p) [[]];have e:([[]]:List Qo).map (Y4 n0)=[[]]:=rfl;rw[e]at this;rw[<-this,A0];rfl
    rw[e1];refine(?_:oY _ _ _ _ ((mZ [[]]<|TW sd p).map tupD) [Zt<|tupD sd,Yt<|.list<|B.map VX,Zt<|tupD p,Zt<|.list<|((TW sd p).map<|Y4 n0).map P2,U]);generalize hE:mZ [[]] (TW sd p)=ws at kh ⊢;refine YJ (λrest ρ=>∃b k:List Qo,ws=b++k/\rest=k.map tupD/\ρ=[Zt<|tupD sd,Yt<|.list<|(B++b.map λw=>((p,w):qZ)).map VX,Zt<|tupD p,Zt<|.list<|((TW sd p).map<|Y4 n0).map P2,U]) ?_ ?_ ⟨[],ws,Z,Z,by simp⟩
    .rintro d ds ρ ⟨b,k,R,a,rfl⟩ M3 hM3;cases k with
     |nil=>cases a
     |cons u k =>
      cases a;have lp:b.length<=120:=by rw[R,T0]at kh;exact N1 kh
      refine⟨L1 (show ((B++b.map λw=>((p,w):qZ)).map VX).length<=20000 by rw[l0,T0,l0];lia)<|by decide,?_⟩;refine hM3 _ ⟨b++[u],k,by rw[R];simp,Z,?_⟩;have e:(B++(b++[u]).map λw=>((p,w):qZ)).map VX=(B++b.map λw=>((p,w):qZ)).map VX++[VX (p,u)]:=by simp
      rw[e];rfl
    .rintro ρ ⟨b,k,R,a,rfl⟩;cases k with
     |cons _ _=>cases a
     |nil=>rw[E2]at R;subst R;refine hM _ ⟨dn++[p],j,by rw[l];simp,Z,?_⟩;rw[rX,hB0];simp only[Y2,sQ,E2];rw[hE];rfl
  .rintro ρ ⟨dn,j,l,a,rfl⟩;cases j with
   |cons _ _=>cases a
   |nil=>rw[E2]at l;unfold cY at hN;rw[l]at hN;exact hN _ Z
 rintro _ rfl;exact q _
variable (P w K mg base) in
structure CalsEo:Prop where
 Ds:Cal P w K mg base 1 "two_to" ["power"] (QX K l_)
 Vt:Cal P w K mg base 6 "cells_in" ["field","box"] (QX K SF)
def cc:Con:=λa Q=>∃(sd cl:Qo) (b:qZ),a=[.fz<|dJ sd cl,.fz<|tupD b.1,.fz<|tupD b.2]/\Sd sd/\cl.length=(tJ sd).length/\Pc b.1 b.2 sd/\∀o,Q (.fz<|CV sd cl b) o
theorem Ej:∀{p w sd:Qo},Pc p w sd->∀q∈p.zip w,0<=q.2/\∃s∈sd,(2:Int) ^ q.2.toNat<=s
 |[],_,_,_,q,a=>by simp at a
 |_::_,[],z,h,_,_=>by cases z<;>exact h.elim
 |x::p,k::w,[],h,_,_=>h.elim
 |x::p,k::w,s::sd,h,q,a=>by
  rw[U2]at a;rcases R0.mp a with z|z
  .subst z;exact⟨h.1.2.2.1,s,G0,by have d:=h.1;show (2:Int) ^ k.toNat<=s;lia⟩
  .obtain⟨b,s',g2,c⟩:=Ej h.2 q z;exact⟨b,s',q0 _ g2,c⟩
theorem eC{k:Nat}{n:Int}(h:(2:Int) ^ k<=n):(k:Int)<=n:=by
 have a:k<2 ^ k:=sX;have e:((2 ^ k:Nat):Int)=2 ^ k:=by rw[v9];rfl
 lia
theorem BA(F:Rr K "entry_of" (top 53) f fd)(T:Txt mg)(C:CalsEo P w K mg base):FnOk P w K mg base mJ 7 f fd ["field","place","powers"] (QX K cc):=by
 have S:FnScope ["field","place","powers","last","cells"] ["field","place","powers"] (SX<|top 53):={};refine IJ F S (λke A outer s H E l=>RX (tZ 3<|uW T.Zs<|TX<|NF ["number","power"] [] (MK Z T.Xo<|hZ 1<|aZ 2) (λ_ _ _ _=>pK Z rfl<|lZ (HZ 0)<|lZ (HZ 1) EJ)<|λ_ _ _ _=>WK (wx<|JJ (wn 0)<|wx<|dZ C.Ds l.m<|aZ 1) UX)<|RX (tZ 4<|dZ C.Vt l.m<|hZ 0<|TX<|DZ<|iZ (wv 1)<|TX<|wv 3)<|sZ<|DZ<|iZ (wv 1)<|iZ (wv 2)<|iZ (kZ IW (CK (K:=K) Z Z) T.Qt Ti<|aZ 4)<|TX<|kZ JW (DK (K:=K) Z Z) T.Qs Ui<|aZ 4) ?_;rintro t Qd ⟨sd,cl,b,rfl,a,y,c,q⟩;have h3:=a.l3;have hm:=a.m;have ye:=hW c;have ff:=iW c;with_reducible refine xZ (λρ=>ρ=[Zt<|dJ sd cl,Zt<|tupD b.1,Zt<|tupD b.2,Zt<|tupD<|XJ b.1 b.2,U]) ?_ ?_
 .intro N hN;have g:=oJ b.1 b.2;refine⟨by rw[g,l0,U1];exact WX<|by lia,sJ Zb ?_ ?_⟩
  .intro d hd N' B;rw[g]at hd;obtain⟨⟨x,k⟩,i,rfl⟩:=v0.mp hd;obtain⟨v,s,G,g2⟩:=Ej c (x,k) i;have ui:=OZ a.p s G;have L:=eC g2;simp only at v L;exact⟨Z,k,Z,v,by lia,λo=>B⟩
  .have e:(tW (b.1.map n0)<|b.2.map n0).map Zb=(XJ b.1 b.2).map n0:=by
    rw[g];unfold XJ;rw[A0,A0];rfl
   rw[e];exact hN _ Z
 rintro _ rfl;with_reducible refine xZ (λρ=>ρ=[Zt<|dJ sd cl,Zt<|tupD b.1,Zt<|tupD b.2,Zt<|tupD<|XJ b.1 b.2,Yt<|.list<|(jZ sd cl b.1<|XJ b.1 b.2).map n0]) ?_ ?_
 .intro N hN;exact⟨sd,cl,b.1,XJ b.1 b.2,Z,a,y,ff,λo=>hN _ Z⟩
 rintro _ rfl;have h0:0<(jZ sd cl b.1<|XJ b.1 b.2).length:=c5.mpr<|jJ ff;refine⟨_,Z,h0,λm M R=>⟨_,Z,h0,λM2 j Y=>?_⟩⟩;rw[PK M R,QK j Y];exact q _
variable (P w K mg base) in
structure CalsPo:Prop where
 Dt:Cal P w K mg base 4 "all_pieces" ["sides"] (QX K Qa)
 Ap:Cal P w K mg base 7 "entry_of" ["field","place","powers"] (QX K cc)
def fc:Con:=λa Q=>∃sd cl:Qo,a=[.fz<|dJ sd cl]/\Sd sd/\cl.length=(tJ sd).length/\∀o,Q (.ow<|.list<|(cY sd).map<|CV sd cl) o
theorem CA(F:Rr K "powers_of" (top 52) f fd)(T:Txt mg)(C:CalsPo P w K mg base):FnOk P w K mg base mJ 8 f fd ["field"] (QX K fc):=by
 have S:FnScope ["field"] ["field"] (SX<|top 52):={};refine IJ F S (λk A outer s H E c=>sZ<|NF ["place","powers"] [0] (CZ rfl<|dZ C.Dt c.m<|TX<|ZX (wn 0) UX) (λ_ _ _ _=>pK Z rfl<|lZ (HZ 0)<|lZ (HZ 1) EJ)<|λ_ _ _ _=>dZ C.Ap c.m<|hZ 2<|hZ 0<|aZ 1) ?_;rintro g l ⟨sd,cl,rfl,a,i,q⟩;have hl:=MU a;refine⟨_,Z,sd,Z,a,λo=>⟨BV (by rw[l0];lia),sJ (xA sd cl) ?_ ?_⟩⟩
 .intro d hd N hN;obtain⟨b,j,rfl⟩:=v0.mp hd;rw[bD]at hN;exact⟨Z,sd,cl,b,Z,a,i,pcs_mem.mp j,λo=>hN⟩
 .have e:((cY sd).map VX).map (xA sd cl)=(cY sd).map (CV sd cl):=by
   rw[A0];exact A1 λb _=>bD sd cl b
  rw[e];exact q _
noncomputable def az(b:qZ):Qo:=((S1 b.2.length).filter λi=>decide<|0<b.2.getD i 0).map λ(i:Nat)=>(i:Int)
theorem dD{b:qZ}(hl:b.2.length=b.1.length){x:Int}(h:x∈az b):∃(i:Nat) (a c:Int),x=i/\i<b.1.length/\b.1[i]?=O a/\b.2[i]?=O c/\0<c:=by
 obtain⟨i,hi,rfl⟩:=v0.mp h;obtain⟨d,e⟩:=v8.mp hi;have d:=V4.mp d;have g:b.1[i]?=O (b.1.getD i 0):=by rw[G1,L0<|lt_of_lt_of_eq d hl];rfl
 have j:b.2[i]?=O (b.2.getD i 0):=by rw[G1,L0 d];rfl
 exact⟨i,_,_,Z,by omega,g,j,Ld e⟩
theorem gC:∀{p w sd:Qo},Pc p w sd->(∀k∈w,k=0)->XJ p w=p
 |[],[],[],_,_=>rfl
 |x::p,k::w,s::sd,h,a=>by have e:=a k G0;subst e;have b:=gC h.2 λk c=>a k<|q0 _ c;show (x+2 ^ (0:Int).toNat-1)::XJ p w=x::p;rw[b];congr 1;show x+1-1=x;exact Int.add_sub_cancel _ _
 |[],[],_::_,h,_=>h.elim
 |[],_::_,z,h,_=>by cases z<;>exact h.elim
 |_::_,[],z,h,_=>by cases z<;>exact h.elim
 |_::_,_::_,[],h,_=>h.elim
theorem AM:∀{p w sd:Qo},Pc p w sd->∀k∈w,0<=k
 |[],[],[],_,k,a=>by cases a
 |x::p,k::w,s::sd,h,l,hl=>by
  rcases R0.mp hl with z|z
  .rw[z];exact h.1.2.2.1
  .exact AM h.2 l z
 |[],[],_::_,h,_,_=>h.elim
 |[],_::_,z,h,_,_=>by cases z<;>exact h.elim
 |_::_,[],z,h,_,_=>by cases z<;>exact h.elim
 |_::_,_::_,[],h,_,_=>h.elim
theorem vL{sd:Qo}{b:qZ}(a:Pc b.1 b.2 sd)(h:az b=[]):XJ b.1 b.2=b.1:=by
 have g:=LQ.mp<|Q4.mp h;refine gC a λk c=>?_;obtain⟨i,hi,e⟩:=l6.mp c;have d:=g i<|V4.mpr hi;rw[G1,L0 hi]at d;simp at d;have:=AM a k c
 lia
theorem LP{sd:Qo}{b:qZ}(h:XJ b.1 b.2=b.1):v2 sd cl b=[cel sd cl b.1,cel sd cl b.1]:=by
 have e:jZ sd cl b.1 b.1=[cel sd cl b.1]:=by unfold jZ xU;rw[NH b.1 []];rfl
 unfold v2;rw[h,e];rfl
def BM:Con:=λa Q=>∃ts us:Qo,a=[.fz<|.list [tupD ts,tupD us]]/\ts.length=2/\us.length=2/\∀o,Q (.fz<|tupD [min (ts.getD 0 0)<|us.getD 0 0,max (ts.getD 1 0)<|us.getD 1 0]) o
theorem iC:FnScope ["parts"] ["parts"] (SX<|top 54):={}
theorem wL(F:Rr K "put_together" (top 54) f fd)(T:Txt mg):FnOk P w K mg base mJ 1 f fd ["parts"] (QX K BM):=by
 have S:=iC;refine IJ F S (λR A outer s H E Y=>sZ<|DZ<|iZ (kZ IW (CK (K:=K) Z Z) T.Qt Ti<|TX<|SJ ["part"] [] (CZ rfl<|wv 0)<|λ_ _ _ _=>ZX (wn 0) UX)<|TX<|kZ JW (DK (K:=K) Z Z) T.Qs Ui<|TX<|SJ ["part"] [] (CZ rfl<|wv 0)<|λ_ _ _ _=>ZX (wn 0) UX) ?_;rintro g k ⟨ts,us,rfl,l,t,q⟩;obtain⟨b,c,rfl⟩:∃b c,ts=[b,c]:=by rcases ts with _|⟨a,_|⟨b,_|⟨c,ts⟩⟩⟩<;>first|exact⟨_,_,rfl⟩|(simp at l)
 obtain⟨d,e,rfl⟩:∃b c,us=[b,c]:=by rcases us with _|⟨a,_|⟨b,_|⟨c,ts⟩⟩⟩<;>first|exact⟨_,_,rfl⟩|(simp at t)
 have q:∀o,k (.fz<|tupD [min b d,max c e]) o:=q;refine⟨WX<|by simp,_,Z,_,Z,[b,d],Z,by simp,λm v i=>⟨WX<|by simp,_,Z,_,Z,[c,e],Z,by simp,λM x j=>?_⟩⟩;have y:m=min b d:=by
  have B:=i b (by simp);have C:=i d (by simp);have G:m=b\/m=d:=by simpa using v
  lia
 have L:M=max c e:=by
  have B:=j c (by simp);have C:=j e (by simp);have G:M=c\/M=e:=by simpa using x
  lia
 rw[y,L];exact q _
noncomputable def lK(sd:Qo)(V:qZ->Int×Int):List (qZ×Od):=(cY sd).map λb=>(b,tupD [(V b).1,(V b).2])
theorem qW{sd:Qo}{V:qZ->Int×Int}{b:qZ}(h:Pc b.1 b.2 sd):(b,tupD [(V b).1,(V b).2])∈lK sd V:=v0.mpr ⟨b,pcs_mem.mpr h,Z⟩
variable (P w K mg base) in
structure CalsFl:Prop where
 Ho:Cal P w K mg base 1 "replaced" ["numbers","way","number"] (QX K Na)
 Ds:Cal P w K mg base 1 "two_to" ["power"] (QX K l_)
 Ar:Cal P w K mg base 1 "put_together_powers" ["parts"] (QX K BM)
def gc:Con:=λd Q=>∃(sd:Qo) (V:qZ->Int×Int) (b:qZ) (i:Nat) (a c:Int),d=[.fz<|uF<|lK sd V,.fz<|VX b,.fz<|.int i]/\Sd sd/\Pc b.1 b.2 sd/\i<sd.length/\b.1[i]?=O a/\b.2[i]?=O c/\0<c/\∀o,Q (.fz<|tupD [min (V (b.1,b.2.set i<|c-1)).1 (V (b.1.set i<|a+2 ^ (c-1).toNat,b.2.set i<|c-1)).1,max (V (b.1,b.2.set i<|c-1)).2 (V (b.1.set i<|a+2 ^ (c-1).toNat,b.2.set i<|c-1)).2]) o
theorem DA(F:Rr K "from_lesser" (top 61) f fd)(T:Txt mg)(C:CalsFl P w K mg base):FnOk P w K mg base mJ 2 f fd ["told","piece","way"] (QX K gc):=by
 have S:FnScope ["told","piece","way","place","power","powers","further"] ["told","piece","way"] (SX<|top 61):={};refine IJ F S (λM A outer s H E d=>RX (tZ 3<|ZX (wn 1) UX)<|RX (tZ 4<|WK (wx<|ZX (wx<|ZX (wn 1) UX)<|wn 2) UX)<|RX (tZ 5<|dZ C.Ho d.m<|iZ (ZX (wn 1) UX)<|hZ 2<|aZ 4)<|RX (tZ 6<|dZ C.Ho d.m<|hZ 3<|hZ 2<|TX<|JJ (wx<|ZX (wn 3)<|wn 2)<|wx<|dZ C.Ds d.m<|aZ 4)<|sZ<|dZ C.Ar d.m<|TX<|WZ<|iZ (QW (vY d) (wn 0)<|wx<|DZ<|iZ (wv 3)<|TX<|wv 5)<|TX<|QW (vY d) (wn 0)<|wx<|DZ<|iZ (wv 6)<|TX<|wv 5) ?_;rintro t R ⟨sd,V,b,i,a,c,rfl,g,j,hi,k,l,v,q⟩;have Y:=g.l3;have x:=hW j;have hm:=g.m;obtain⟨y,s,B,g2⟩:=Ej j (a,c) (by
   have:(b.1.zip b.2)[i]?=O (a,c):=by rw[E6];exact⟨k,l⟩
   exact A3 this);have ui:=OZ g.p s B;have G:=eC g2;simp only at y G;have e:vW (b.1.map n0) (i:Int)=O (.int a):=bJ (by rw[Z0,k];rfl);have L:vW (b.2.map n0) (i:Int)=O (.int c):=bJ (by rw[Z0,l];rfl);obtain⟨l1,l2,_,_,_⟩:=AV j k l v;with_reducible refine xZ (λρ=>ρ=[Zt<|uF<|lK sd V,Zt<|VX b,Zt<|.int (i:Nat),Zt<|tupD b.1,U,U,U]) ?_ ?_
 .intro N hN;exact⟨_,Z,hN _ Z⟩
 rintro _ rfl;with_reducible refine xZ (λρ=>ρ=[Zt<|uF<|lK sd V,Zt<|VX b,Zt<|.int (i:Nat),Zt<|tupD b.1,Zt<|.int<|c-1,U,U]) ?_ ?_
 .intro N hN;exact⟨_,Z,_,L,hN _ Z⟩
 rintro _ rfl;with_reducible refine xZ (λρ=>ρ=[Zt<|uF<|lK sd V,Zt<|VX b,Zt<|.int (i:Nat),Zt<|tupD b.1,Zt<|.int<|c-1,Zt<|tupD<|b.2.set i<|c-1,U]) ?_ ?_
 .intro N hN;exact⟨_,Z,b.2,i,c-1,Z,lt_of_lt_of_eq hi x.2.symm,by lia,λo=>hN _ Z⟩
 rintro _ rfl;with_reducible refine xZ (λρ=>ρ=[Zt<|uF<|lK sd V,Zt<|VX b,Zt<|.int (i:Nat),Zt<|tupD b.1,Zt<|.int<|c-1,Zt<|tupD<|b.2.set i<|c-1,Zt<|tupD<|b.1.set i<|a+2 ^ (c-1).toNat]) ?_ ?_
 .intro N hN;exact⟨_,e,c-1,Z,Q2 v,by lia,λo=>⟨b.1,i,a+2 ^ (c-1).toNat,Z,lt_of_lt_of_eq hi x.1.symm,by lia,λo=>hN _ Z⟩⟩
 rintro _ rfl;refine⟨lK sd V,(b.1,b.2.set i<|c-1),_,Z,Z,qW l1,?_⟩;refine⟨lK sd V,(b.1.set i<|a+2 ^ (c-1).toNat,b.2.set i<|c-1),_,Z,Z,qW l2,?_⟩;exact⟨_,_,Z,Z,Z,λo=>q _⟩
noncomputable abbrev UH(x:Int×Int):Od:=tupD [x.1,x.2]
theorem Pq(x y:Int×Int):Ng (UH x) (UH y)=Es (x=y):=by unfold UH;rw[fW];exact decide_eq_decide.mpr (by simp[Prod.ext_iff])
noncomputable def eD(V:qZ->Int×Int)(b:qZ)(i:Nat):Int×Int:=(min (V (b.1,b.2.set i<|b.2.getD i 0-1)).1 (V (b.1.set i<|b.1.getD i 0+2 ^ (b.2.getD i 0-1).toNat,b.2.set i<|b.2.getD i 0-1)).1,max (V (b.1,b.2.set i<|b.2.getD i 0-1)).2 (V (b.1.set i<|b.1.getD i 0+2 ^ (b.2.getD i 0-1).toNat,b.2.set i<|b.2.getD i 0-1)).2)
theorem rW{V:qZ->Int×Int}{b:qZ}{i:Nat}{a c:Int}(d:b.1[i]?=O a)(e:b.2[i]?=O c):eD V b i=(min (V (b.1,b.2.set i<|c-1)).1 (V (b.1.set i<|a+2 ^ (c-1).toNat,b.2.set i<|c-1)).1,max (V (b.1,b.2.set i<|c-1)).2 (V (b.1.set i<|a+2 ^ (c-1).toNat,b.2.set i<|c-1)).2):=by
 have g:b.1.getD i 0=a:=by rw[G1,d];rfl
 have j:b.2.getD i 0=c:=by rw[G1,e];rfl
 unfold eD;rw[g,j]
noncomputable def aY(sd cl:Qo)(V:qZ->Int×Int)(b:qZ):Bool:=if az b=[] then Es (V b=(cel sd cl b.1,cel sd cl b.1)) else ((az b).map λi=>decide<|V b=eD V b i.toNat).all id
noncomputable abbrev kR(sd cl:Qo)(b:qZ):Int×Int:=(GJ<|jZ sd cl b.1<|XJ b.1 b.2,HJ<|jZ sd cl b.1<|XJ b.1 b.2)
theorem Kk{sd:Qo}{b:qZ}(a:Pc b.1 b.2 sd)(h:az b=[]):kR sd cl b=(cel sd cl b.1,cel sd cl b.1):=by have e:=LP (sd:=sd) (cl:=cl)<|vL a h;unfold v2 at e;simp only[List.cons.injEq,and_true]at e;exact Prod.ext e.1 e.2
theorem Qq{sd:Qo}{b:qZ}(h:Pc b.1 b.2 sd){i:Nat}{x k:Int}(a:b.1[i]?=O x)(c:b.2[i]?=O k)(d:0<k):kR sd cl b=eD (kR sd cl) b i:=by have e:=tL (cl:=cl) h a c d;rw[rW a c];unfold v2 at e;simp only[List.cons.injEq,and_true]at e;exact Prod.ext e.1 e.2
theorem Lk:∀{l:Qo}{i:Nat}{c:Int},l[i]?=O c->0<c->((l.set i<|c-1).map oX).sum+1=(l.map oX).sum
 |[],_,_,h,_=>by simp at h
 |x::l,0,c,h,a=>by
  simp only[P5,Option.some.injEq]at h;subst h;simp only[P9,G2,M6]
  lia
 |x::l,i+1,c,h,a=>by
  simp only[B3]at h;have:=Lk h a;simp only[Q9,G2,M6]
  lia
theorem VH{sd:Qo}{V:qZ->Int×Int}(h:∀b,Pc b.1 b.2 sd->aY sd cl V b=Ep):∀(n:Nat) (b:qZ),Pc b.1 b.2 sd->(b.2.map oX).sum<=n->V b=kR sd cl b
 |n,b,g,m=>by
  have d:=h b g;unfold aY at d;by_cases z:az b=[]
  .rw[Jd z]at d;rw[Ld d,Kk g z]
  .rw[Gd z]at d;obtain⟨x,rest,e⟩:=T9 z;have v:=hW g;obtain⟨i,a,c,hx,hi,k,j,l⟩:=dD (b:=b) (by lia) (x:=x) (by rw[e];exact G0);have q:V b=eD V b i:=by
    rw[e,hx]at d;simp only[G2,tX,J1,id]at d;exact Ld d.1
   obtain⟨l1,l2,_,_,_⟩:=AV g k j l;have t:=Lk j l;cases n with
   |zero=>lia
   |succ n=>have i1:=VH h n (b.1,b.2.set i<|c-1) l1 (by show ((b.2.set i<|c-1).map oX).sum<=n;exact u5<|le_of_eq_of_le t m);have i2:=VH h n (b.1.set i<|a+2 ^ (c-1).toNat,b.2.set i<|c-1) l2 (by show ((b.2.set i<|c-1).map oX).sum<=n;omega);rw[q,Qq (cl:=cl) g k j l,rW k j,rW k j,i1,i2]
theorem MP{sd:Qo}{V:qZ->Int×Int}(h:∀b,Pc b.1 b.2 sd->V b=kR sd cl b){b:qZ}(d:Pc b.1 b.2 sd):aY sd cl V b=true:=by
 unfold aY;split
 .rename_i z;rw[h b d,Kk d z];exact Pd Z
 .rw[L6];refine Z3.mpr λx hx=>?_;have k:=hW d;obtain⟨i,a,c,rfl,hi,e,g,j⟩:=dD (b:=b) (by lia) hx;obtain⟨l1,l2,_,_,_⟩:=AV d e g j;refine Pd ?_;show V b=eD V b (i:Int).toNat;rw[show (i:Int).toNat=i from Z,h b d,Qq (cl:=cl) d e g j,rW e g,rW e g,h _ l1,h _ l2]
variable (P w K mg base) in
structure CalsIrPw:Prop where
 Go:Cal P w K mg base 2 "cell_at" ["field","place"] (QX K Oa)
 As:Cal P w K mg base 2 "from_lesser" ["told","piece","way"] (QX K gc)
def CM:Con:=λa Q=>∃(sd cl:Qo) (V:qZ->Int×Int) (b:qZ),a=[.fz<|dJ sd cl,.fz<|uF<|lK sd V,.fz<|VX b]/\Sd sd/\cl.length=(tJ sd).length/\Pc b.1 b.2 sd/\∀o,Q (.fz<|.bool<|aY sd cl V b) o
noncomputable def EA(V:qZ->Int×Int)(b:qZ)(d:Od):Od:=.bool<|Ng (UH<|V b)<|UH<|eD V b (unI d).toNat
theorem xL(F:Rr K "is_right" (top 59) f fd)(T:Txt mg)(C:CalsIrPw P w K mg base):FnOk P w K mg base mJ 3 f fd ["field","told","piece"] (QX K CM):=by
 have S:FnScope ["field","told","piece","ways","cell"] ["field","told","piece"] (SX<|top 59):={};refine IJ F S (λke A outer s H E g=>RX (GW (i:=3) S.nd Z Z Z (own:=["way"]) (fr:=[2]) (by kernel_rfl) (FW T.Xs<|TX<|WJ T.Qp<|TX<|ZX (wn 2) UX) (λ_ _ _ _=>HZ 0) (λ_ _ _ _=>Z_<|rJ lH PU (wx<|ZX (wx<|ZX (wn 1) UX)<|wn 0) UX)<|λ_ _ _ _=>wv 0)<|RX (lJ (YV g (wx<|WJ T.Qp<|aZ 3) UX) (RX (tZ 4<|dZ C.Go g.m<|hZ 0<|TX<|ZX (wn 2) UX)<|sZ<|SY RY (AK (K:=K) Z g.units) (wx<|QW (vY g) (wn 1)<|wn 2)<|wx<|DZ<|iZ (wv 4)<|TX<|wv 4) GZ)<|sZ<|kZ mY (zJ (K:=K) Z Z) T.Jo Sh<|TX<|SJ ["way"] [1,2] (CZ rfl<|wv 3)<|λ_ _ _ _=>SY RY (AK (K:=K) Z g.units) (wx<|QW (vY g) (wn 1)<|wn 2)<|wx<|dZ C.As g.m<|hZ 1<|hZ 2<|aZ 0) ?_;rintro L Qd ⟨sd,cl,V,b,rfl,y,cf,l,q⟩;have h3:=y.l3;have og:=hW l;with_reducible refine xZ (λρ=>ρ=[Zt<|dJ sd cl,Zt<|uF<|lK sd V,Zt<|VX b,Yt<|.list<|(az b).map n0,U]) ?_ ?_
 .intro N hN;have t:(b.2.map n0).length=b.2.length:=l0 _;refine⟨_,Z,by rw[t];lia,by rw[t];lia,by rw[wZ,l0,v5,t];exact WX<|by lia,?_⟩;refine GO (λd=>decide<|0<b.2.getD (unI d).toNat 0) id ?_ ?_
  .intro d hd N M hN B;rw[wZ]at hd;obtain⟨k,j,rfl⟩:=v0.mp hd;have j:=V4.mp j;rw[t]at j;have j:k<b.2.length:=lt_of_lt_of_eq j<|VA Z;have e0:(0+(k:Int))=(k:Int):=K8 _;rw[e0]at hN B ⊢;have ek:(unI<|.int (k:Int)).toNat=k:=by show (k:Int).toNat=k;rfl
   simp only[ek]at hN B;refine⟨_,Z,_,uV j,RZ (λh=>hN ?_)<|λh=>B<|u6.mpr λz=>h ?_⟩
   .have h:=Ld h;exact Pd (by omega)
   .have z:=Ld z;exact Pd (by omega)
  have e:((wZ 0 ((b.2.map n0).length:Int).toNat).filter λd=>decide<|0<b.2.getD (unI d).toNat 0).map id=(az b).map n0:=by
   unfold az;rw[B8,wZ,t,SQ,show ((b.2.length:Int)).toNat=b.2.length by rfl,A0];have e:(S1 b.2.length).filter ((λd=>decide<|0<b.2.getD (unI d).toNat 0)∘λ(i:Nat)=>n0<|0+i)=(S1 b.2.length).filter λi=>Es (0<b.2.getD i 0):=by refine List.filter_congr λk _=>?_;show Es (0<b.2.getD (0+(k:Int)).toNat 0)=_;rw[show (0+(k:Int)).toNat=k by exact VA<|K8 _]
   rw[e];refine A1 λk _=>?_;show n0 (0+(k:Int))=n0 (k:Int);rw[K8]
  rw[e];exact hN _ Z
 rintro _ rfl;with_reducible refine xZ (λρ=>az b≠[]/\ρ=[Zt<|dJ sd cl,Zt<|uF<|lK sd V,Zt<|VX b,Yt<|.list<|(az b).map n0,U]) ?_ ?_
 .intro N hN;refine RZ (λh=>?_)<|λh=>?_
  .have h:(((az b).map n0).length:Int)=0:=Ld h;have v:az b=[]:=by
    rw[l0]at h;exact U6.mp<|E7 h
   have G:aY sd cl V b=Es (V b=(cel sd cl b.1,cel sd cl b.1)):=by unfold aY;rw[Jd v]
   rw[G,<-Pq]at q;refine⟨_,Z,sd,cl,b.1,Z,y,cf,SB<|iW l,λo=>?_⟩;refine⟨lK sd V,b,_,Z,Z,qW l,?_⟩;have R:=Nice.tup [cel sd cl b.1,cel sd cl b.1];have Y:=Nice.tup [(V b).1,(V b).2];refine⟨Y.p,R.p,Y.sh<|by decide,R.sh<|by decide,tK [(V b).1,(V b).2] [cel sd cl b.1,cel sd cl b.1],?_⟩;exact q _
  .refine hN _ ⟨λz=>h ?_,Z⟩;rw[z];exact Pd Z
 rintro _ ⟨mf,rfl⟩;have hll:(az b).length<=100:=by
  unfold az;rw[l0];have:=a9 (λi=>decide<|0<b.2.getD i 0)<|S1 b.2.length;rw[v5]at this
  lia
 refine⟨WX (by rw[l0];lia),sJ (EA V b) ?_ ?_⟩
 .intro d hd N hN;obtain⟨x,hx,rfl⟩:=v0.mp hd;obtain⟨i,a,c,rfl,hi,ha,hc,eg⟩:=dD (by lia) hx;refine⟨lK sd V,b,_,Z,Z,qW l,?_⟩;refine⟨sd,V,b,i,a,c,Z,y,l,lt_of_lt_of_eq hi og.1,ha,hc,eg,λo=>?_⟩;have hN:N (.bool<|Ng (UH<|V b)<|UH<|eD V b (i:Int).toNat) _:=hN;rw[show (i:Int).toNat=i from Z,rW ha hc]at hN;exact⟨(Nice.tup _).p,(Nice.tup _).p,(Nice.tup _).sh<|by decide,(Nice.tup _).sh<|by decide,tK _ _,hN⟩
 .have G:aY sd cl V b=((az b).map λi=>decide<|V b=eD V b i.toNat).all id:=by unfold aY;rw[Gd mf]
  rw[G]at q;refine⟨_,?_,q _⟩;rw[A0,A0];refine A1 λx _=>?_;show L4 (Ng _ _)=L4 _;rw[Pq];rfl
noncomputable abbrev fF(V:qZ->Int×Int)(b:qZ):Od:=.tuple [tupD b.1,tupD b.2,.int (V b).1,.int (V b).2]
noncomputable def fK(sd:Qo)(b:qZ):Od->Bool
 | .tuple [x,y,z,u]=>OK sd x&&(yY sd.length y&&(iD z&&(iD u&&Ng (.tuple [x,y]) (VX b))))
 |_=>Er
theorem Fj{sd:Qo}{b:qZ}{g:Rt}(h:g.length≠4):fK sd b (.tuple g)=false:=by rcases g with _|⟨a,_|⟨c,_|⟨d,_|⟨e,_|⟨f,g⟩⟩⟩⟩⟩<;>first|rfl|simp at h
theorem yL{sd:Qo}{b:qZ}(h:Pc b.1 b.2 sd):OK sd (tupD b.1)=true:=by obtain⟨a,c,d⟩:=rB<|iW h;show (Es ((b.1.map n0).length=sd.length)&&Yq (b.1.map n0) sd)=Ep;rw[l0,a,F7];exact Pd (hW h).1
theorem jC(l:Qo):yY l.length (tupD l)=true:=by show (Es ((l.map n0).length=l.length)&&(l.map n0).all iD)=Ep;rw[l0,Pd Z,Bool.true_and,L6];exact Z3.mpr λx _=>rfl
theorem oU{d:Od}(h:yY n d=Ep):∃ns:Qo,d=tupD ns:=by
 cases d<;>simp only[yY,J1]at h<;>first|(cases h;done)|skip
 obtain⟨ns,e⟩:=ints_of h.2;exact⟨ns,by rw[e]⟩
theorem Nk{d:Od}(h:iD d=Ep):∃i:Int,d=.int i:=by cases d<;>first|exact⟨_,rfl⟩|cases h
theorem Bv{sd:Qo}{b:qZ}{d:Od}(h:fK sd b d=Ep):∃x:Int×Int,d=.tuple [tupD b.1,tupD b.2,.int x.1,.int x.2]:=by
 cases d with
 |tuple c =>
  rcases c with _|⟨x,_|⟨y,_|⟨z,_|⟨u,_|⟨f,c⟩⟩⟩⟩⟩<;>first|(cases h;done)|skip
  simp only[fK,J1]at h;obtain⟨e,g,k,l,a⟩:=h;obtain⟨p,rfl,_⟩:=xK e;obtain⟨w,rfl⟩:=oU g;obtain⟨i,rfl⟩:=Nk k;obtain⟨j,rfl⟩:=Nk l;have a:Ng (.tuple [tupD p,tupD w]) (.tuple [tupD b.1,tupD b.2])=true:=a;rw[aD,J1]at a;exact⟨(i,j),by rw[Ld a.1,Ld a.2]⟩
 |_=>cases h
theorem Gj{sd:Qo}{b:qZ}(a:Pc b.1 b.2 sd)(x:Int×Int):fK sd b (.tuple [tupD b.1,tupD b.2,.int x.1,.int x.2])=true:=by have e:=jC b.2;rw[(hW a).2]at e;have c:Ng (.tuple [tupD b.1,tupD b.2]) (VX b)=true:=Yi _;show (OK sd (tupD b.1)&&(yY sd.length (tupD b.2)&&(Ep&&(Ep&&Ng (.tuple [tupD b.1,tupD b.2]) (VX b)))))=Ep;rw[yL a,e,c];rfl
theorem Pk:∀{ls:List qZ}{ds:Rt}{sd:Qo},ls.Nodup->ds.length=ls.length->(∀p∈ls.zip ds,fK sd p.1 p.2=Ep)->∃V:qZ->Int×Int,ds=ls.map (fF V)
 |[],[],_,_,_,_=>⟨λ_=>(0,0),Z⟩
 |[],_::_,_,_,h,_=>by simp at h
 |_::_,[],_,_,h,_=>by simp at h
 |b::ls,d::ds,sd,a,hl,h=>by
  have h0:fK sd b d=true:=h (b,d) (by rw[U2];exact G0);obtain⟨x,rfl⟩:=Bv h0;have a:=i6.mp a;obtain⟨V,e⟩:=Pk (ls:=ls) (ds:=ds) a.2 (by simpa using hl) λp g=>h p (by rw[U2];exact q0 _ g);refine⟨λc=>if c=b then x else V c,?_⟩;rw[G2];congr 1
  .unfold fF;dsimp only;rw[Jd Z]
  .rw[e];refine A1 λc i=>?_;unfold fF;dsimp only;rw[Gd (λz:c=b=>a.1<|z ▸ i)]
variable (P w K mg base) in
structure CalsIePw:Prop where
 Kt:Cal P w K mg base 3 "is_place" ["sides","thing"] (QX K GH)
 Ks:Cal P w K mg base 2 "are_wholes" ["thing","many"] (QX K Zx)
 Kr:Cal P w K mg base 1 "is_whole" ["thing"] (QX K rj)
def DM:Con:=λa Q=>∃(sd:Qo) (b:qZ) (d:Od),a=[.fz<|tupD sd,.fz<|VX b,.fz d]/\WH d=Ep/\Sd sd/\∀o,Q (.fz<|.bool<|fK sd b d) o
theorem zL(F:Rr K "is_entry" (top 57) f fd)(T:Txt mg)(C:CalsIePw P w K mg base):FnOk P w K mg base mJ 4 f fd ["sides","piece","thing"] (QX K DM):=by
 have S:FnScope ["sides","piece","thing"] ["sides","piece","thing"] (SX<|top 57):={};refine IJ F S (λke A outer s H E j=>RX (lJ (Hw<|vU (ZJ<|NJ<|TY .tup Z T.Zp T.Zs Fl<|wn 2)<|vU (oq j (wx<|WJ T.Qp<|aZ 2) UX)<|xW<|ZJ<|NJ<|dZ C.Kt j.m<|hZ 0<|TX<|ZX (wn 2) UX) (sZ EW) GZ)<|RX (lJ (Hw<|vU (ZJ<|NJ<|dZ C.Ks j.m<|iZ (ZX (wn 2) UX)<|TX<|WJ T.Qp<|aZ 0)<|vU (ZJ<|NJ<|dZ C.Kr j.m<|TX<|ZX (wn 2) UX)<|xW<|ZJ<|NJ<|dZ C.Kr j.m<|TX<|ZX (wn 2) UX) (sZ EW) GZ)<|sZ<|SY RY (AK (K:=K) Z j.units) (wx<|DZ<|iZ (ZX (wn 2) UX)<|TX<|ZX (wn 2) UX)<|wn 1) ?_;rintro t R ⟨sd,b,d,rfl,hd,Y,q⟩;have h3:=Y.l3;cases d with
 |dict es=>exact⟨hd,q _⟩
 |int i=>exact q _
 |bool b=>exact q _
 |none=>exact q _
 |str x=>exact q _
 |list g=>exact q _
 |tuple g =>
  refine RZ (λh=>?_)<|λh=>?_
  .have h:(!Es ((g.length:Int)=4))=true:=h;rw[Fj<|λz=>by rw[z]at h;cases h]at q;exact q _
  have hl:g.length=4:=by have h:¬(!Es ((g.length:Int)=4))=true:=h;simp at h;exact E7 h
  obtain⟨x,y,z,u,rfl⟩:∃x y z u,g=[x,y,z,u]:=by rcases g with _|⟨a,_|⟨c,_|⟨d,_|⟨e,_|⟨f,g⟩⟩⟩⟩⟩<;>first|exact⟨_,_,_,_,rfl⟩|simp at hl
  have hd:okAll [x,y,z,u]=true:=hd;have hx:=pJ hd x (by simp);have hy:=pJ hd y (by simp);have hz:=pJ hd z (by simp);have hu:=pJ hd u (by simp);have q:∀o,R (.fz<|.bool<|OK sd x&&(yY sd.length y&&(iD z&&(iD u&&Ng (.tuple [x,y]) (VX b))))) o:=q;refine⟨_,Z,sd,x,Z,hx,by lia,λo=>?_⟩;cases k:OK sd x with
  |false=>rw[k]at q;exact q _
  |true =>
   rw[k]at q;refine⟨_,Z,y,sd.length,by show [Sl.fz y,Sl.fz<|.int ((sd.map n0).length:Nat)]=_;rw[l0],hy,by omega,λo=>?_⟩;cases l:yY sd.length y with
   |false=>rw[l]at q;exact q _
   |true =>
    rw[l]at q;refine⟨_,Z,z,Z,hz,λo=>?_⟩;cases B:iD z with
    |false=>rw[B]at q;exact q _
    |true =>
     rw[B]at q;refine⟨_,Z,u,Z,hu,λo=>?_⟩;cases G:iD u with
     |false=>rw[G]at q;exact q _
     |true=>rw[G]at q;obtain⟨p,rfl,_⟩:=xK k;obtain⟨v,rfl⟩:=oU l;have L:=yV (p,v);have M:=yV b;exact⟨_,Z,_,Z,L.p,M.p,L.sh<|by decide,M.sh<|by decide,VB _ _ _ _,q _⟩
variable (P w K mg base) in
structure CalsHp:Prop where
 Dt:Cal P w K mg base 4 "all_pieces" ["sides"] (QX K Qa)
 Bp:Cal P w K mg base 4 "is_entry_powers" ["sides","piece","thing"] (QX K DM)
 Br:Cal P w K mg base 3 "is_right_powers" ["field","told","piece"] (QX K CM)
def jc:Con:=λa Q=>∃(sd cl:Qo) (d:Od),a=[.fz<|dJ sd cl,.fz d]/\WH d=Ep/\Sd sd/\cl.length=(tJ sd).length/\∀(t:Bool) (o:Ev),(t=Ep↔d=.list ((cY sd).map<|CV sd cl))->Q (.fz<|.bool t) o
noncomputable def ud:Od->Od
 | .tuple [a,b,c,d]=>.tuple [.tuple [a,b],.tuple [c,d]]
 |_=>.none
noncomputable def EM(sd:Qo):Od->Od
 | .tuple [x,y]=>.bool<|fK sd (Av x) y
 |_=>.none
theorem FA(F:Rr K "holds_powers" (top 56) f fd)(T:Txt mg)(C:CalsHp P w K mg base):FnOk P w K mg base mJ 5 f fd ["field","thing"] (QX K jc):=by
 have S:FnScope ["field","thing","pieces","told"] ["field","thing"] (SX<|top 56):={};refine IJ F S (λke A outer s H E k=>RX (tZ 2<|dZ C.Dt k.m<|TX<|ZX (wn 0) UX)<|RX (lJ (Hw<|vU (ZJ<|NJ<|TY .lst Z T.Zp T.Zr Zi<|wn 1)<|xW<|oq k (wx<|WJ T.Qp<|aZ 1)<|wx<|WJ T.Qp<|aZ 2) (sZ EW) GZ)<|RX (lJ (ZJ<|NJ<|kZ mY (zJ (K:=K) Z Z) T.Jo Sh<|TX<|NF ["piece","entry"] [0] (MK Z T.Xo<|iZ (wv 2)<|TX<|wv 1) (λ_ _ _ _=>pK Z rfl<|lZ (HZ 0)<|lZ (HZ 1) EJ)<|λ_ _ _ _=>dZ C.Bp k.m<|iZ (ZX (wn 2) UX)<|hZ 0<|aZ 1) (sZ EW) GZ)<|RX (tZ 3<|nq Z Z (vY k) T.Jr (by decide +kernel)<|TX<|SJ ["entry"] [] (CZ rfl<|wv 1)<|λ_ _ _ _=>DZ<|iZ (DZ<|iZ (ZX (wn 0) UX)<|TX<|ZX (wn 0) UX)<|TX<|DZ<|iZ (ZX (wn 0) UX)<|TX<|ZX (wn 0) UX)<|sZ<|kZ mY (zJ (K:=K) Z Z) T.Jo Sh<|TX<|SJ ["piece"] [0,3] (CZ rfl<|wv 2)<|λ_ _ _ _=>dZ C.Br k.m<|hZ 1<|hZ 2<|aZ 0) ?_;rintro M Qd ⟨sd,cl,d,rfl,hd,v,Y,q⟩;have hl:=MU v;with_reducible refine xZ (λρ=>ρ=[Zt<|dJ sd cl,Zt d,Yt<|.list<|(cY sd).map VX,U]) ?_ ?_
 .intro N hN;exact⟨_,Z,sd,Z,v,λo=>hN _ Z⟩
 rintro _ rfl;with_reducible refine xZ (λρ=>∃a,d=.list a/\a.length=(cY sd).length/\ρ=[Zt<|dJ sd cl,Zt<|.list a,Yt<|.list<|(cY sd).map VX,U]) ?_ ?_
 .intro N hN;have no:(∀a,d≠.list a)->(Er=Ep↔d=.list ((cY sd).map<|CV sd cl)):=λh=>⟨λz=>(by cases z),λz=>(h _ z).elim⟩;cases d with
  |dict es=>exact⟨hd,q Er _<|no λ_ z=>by cases z⟩
  |int i=>exact q Er _ (no λ_ z=>by cases z)
  |bool b=>exact q Er _ (no λ_ z=>by cases z)
  |none=>exact q Er _ (no λ_ z=>by cases z)
  |str x=>exact q Er _ (no λ_ z=>by cases z)
  |tuple xs=>exact q Er _ (no λ_ z=>by cases z)
  |list a =>
   refine RZ (λh=>?_)<|λh=>?_
   .have h:(!Es ((a.length:Int)=(((cY sd).map VX).length:Int)))=true:=h;refine q Er _ ⟨λz=>(by cases z),λz=>?_⟩;injection z with z;rw[z,l0,l0]at h;simp at h
   .refine hN _ ⟨a,Z,?_,Z⟩;have h:¬(!Es ((a.length:Int)=(((cY sd).map VX).length:Int)))=true:=h;rw[l0]at h;simp at h;exact E7 h
 rintro _ ⟨a,rfl,bh,rfl⟩;with_reducible refine xZ (λρ=>∃V,a=(cY sd).map (fF V)/\ρ=[Zt<|dJ sd cl,Zt<|.list a,Zt<|.list<|(cY sd).map VX,U]) ?_ ?_
 .intro N hN;have R:tW ((cY sd).map VX) a=((cY sd).zip a).map λp=>K1 [VX p.1,p.2]:=by
   unfold tW;rw[List.zip_map_left,A0];rfl
  refine⟨by rw[R,l0,U1];exact BV<|by lia,?_⟩;rw[R];refine sJ (EM sd) ?_ ?_
  .intro d' G y j;obtain⟨⟨b,e⟩,g,rfl⟩:=v0.mp G;have g:=v6 g;have j:y (.bool<|fK sd (Av<|VX b) e) _:=j;rw[gW]at j;exact⟨Z,_,Z,sd,b,e,Z,pJ hd e g.2,v,λo=>j⟩
  .have em:(((cY sd).zip a).map λp=>K1 [VX p.1,p.2]).map (EM sd)=(((cY sd).zip a).map λp=>fK sd p.1 p.2).map L4:=by
    rw[A0,A0];refine A1 λp _=>?_;show L4 (fK sd (Av<|VX p.1) p.2)=_;rw[gW];rfl
   refine⟨_,em,?_⟩;cases t:(((cY sd).zip a).map λp=>fK sd p.1 p.2).all id with
   |false =>
    refine q Er _ ⟨λz=>(by cases z),λz=>?_⟩;injection z with z;exfalso;rw[z]at t;have:(((cY sd).zip<|(cY sd).map<|CV sd cl).map λp=>fK sd p.1 p.2).all id=true:=by
     rw[L6];refine Z3.mpr λp B=>?_;rw[EX]at B;obtain⟨⟨b,c⟩,g,rfl⟩:=v0.mp B;have L:b=c:=by
      have:∀{l:List qZ},(b,c)∈l.zip l->b=c:=by
       intro l;induction l with
       |nil=>intro h;simp at h
       |cons x l ih =>
        intro h;rw[U2]at h;rcases R0.mp h with z|z
        .injection z with z1 z2;rw[z1,z2]
        .exact ih z
      exact this g
     subst L;exact Gj (pcs_mem.mp (v6 g).1)<|kR sd cl b
    rw[this]at t;cases t
   |true =>
    obtain⟨V,e⟩:=Pk (dF sd) bh λp B=>by rw[L6]at t;exact Z3.mp t p B
    exact hN _ ⟨V,e,Z⟩
 rintro _ ⟨V,rfl,rfl⟩;with_reducible refine xZ (λρ=>ρ=[Zt<|dJ sd cl,Zt<|.list<|(cY sd).map<|fF V,Zt<|.list<|(cY sd).map VX,Zt<|uF<|lK sd V]) ?_ ?_
 .intro N hN;refine⟨BV (by rw[l0];lia),sJ ud ?_ ?_⟩
  .intro d hd y j;obtain⟨b,g,rfl⟩:=v0.mp hd;exact⟨_,Z,_,Z,_,Z,_,Z,j⟩
  refine⟨lK sd V,?_,?_,hN _ Z⟩
  .unfold lK;rw[A0,A0];rfl
  .unfold lK;rw[A0];have e:((λx:qZ×Od=>x.1)∘λb:qZ=>(b,tupD [(V b).1,(V b).2]))=id:=rfl;rw[e,B8];exact dF sd
 rintro _ rfl;refine⟨BV (by rw[l0];omega),sJ (λd=>.bool<|aY sd cl V<|Av d) ?_ ?_⟩
 .intro d hd y j;obtain⟨b,g,rfl⟩:=v0.mp hd;have j:y (.bool<|aY sd cl V<|Av<|VX b) _:=j;rw[gW]at j;exact⟨sd,cl,V,b,Z,v,Y,pcs_mem.mp g,λo=>j⟩
 .refine⟨(cY sd).map<|aY sd cl V,?_,q _ _ ⟨λh=>?_,λh=>?_⟩⟩
  .rw[A0,A0];refine A1 λb _=>?_;show L4 (aY sd cl V<|Av<|VX b)=_;rw[gW];rfl
  .rw[L6]at h;have h:=Z3.mp h;congr 1;refine A1 λb g=>?_;have e:=VH (λb g=>h b<|pcs_mem.mpr g) _ b (pcs_mem.mp g)<|P0 _;unfold fF;rw[e]
  .injection h with h;rw[L6];refine Z3.mpr λb g=>?_;refine MP (λc hc=>?_)<|pcs_mem.mp g;have:=List.map_inj_left.mp h c<|pcs_mem.mpr hc;injection this with this;simp only[List.cons.injEq,PyData.int.injEq,true_and,and_true]at this;exact Prod.ext this.1 this.2
theorem gF(c:Nat->Int):∀i,(Pf c i).Nodup
 |0=>by rw[firstMet_zero];exact List.nodup_nil
 |i+1=>by
  rw[firstMet_succ];have d:=gF c i;unfold Zh;split
  .exact d
  .rename_i h;rw[Y9];refine⟨d,i6.mpr ⟨by simp,List.nodup_nil⟩,λa j b g e=>?_⟩;rw[T1]at g;subst g;subst e;exact h<|qQ.mpr ⟨_,j,by simp⟩
theorem AL(ns:Qo)(z:Int):z∈Pf (λi=>ns.getD i 0) ns.length↔z∈ns:=by
 have e:(S1 ns.length).map (λi=>ns.getD i 0)=ns:=by refine L7 (by simp) λi b a=>?_;simp[a]
 have h:=firstMet_any (λi=>ns.getD i 0) ns.length z;rw[e]at h;have t:∀l:Qo,(l.any (·==z))=Ep↔z∈l:=λl=>by simp
 rw[<-t,h,t]
noncomputable def kC(x y:Int):Qo:=if x=y then [x] else [x,y]
theorem stL_mem{x y z:Int}:z∈kC x y↔z=x\/z=y:=by
 unfold kC;by_cases e:x=y
 .rw[Jd e];simp[e]
 .rw[Gd e];simp
theorem NP{x y:Int}(h:x<=y){j:Qo}(l:j.Perm (Pf (λi=>[x,y].getD i 0) [x,y].length))(t:j.Pairwise (·<=·)):j=kC x y:=by
 have v:=l.nodup_iff.mpr<|gF _ _;have hl:j.Pairwise (· < ·):=(t.and v).imp λ⟨a,b⟩=>by lia
 have B:∀z,z∈j↔z∈kC x y:=λz=>by rw[l.mem_iff,AL,stL_mem];simp
 have C:(kC x y).Pairwise (· < ·):=by
  unfold kC;by_cases e:x=y
  .rw[Jd e];exact Q3 _ _
  .rw[Gd e];refine j6.mpr ⟨λz g=>?_,Q3 _ _⟩;have:z=y:=by simpa using g
   lia
 have k:∀{a b:Qo},a.Pairwise (· < ·)->b.Pairwise (· < ·)->(∀z,z∈a↔z∈b)->a=b:=by
  intro a;induction a with
  |nil =>
   intro b _ _ h;cases b with
   |nil=>rfl
   |cons c b=>exact absurd ((h c).mpr G0) (by simp)
  |cons c a F =>
   intro b G L h;cases b with
   |nil=>exact absurd ((h c).mp G0) (by simp)
   |cons d b =>
    obtain⟨m,M⟩:=j6.mp G;obtain⟨q,R⟩:=j6.mp L;have e:c=d:=by
     have S:=(h c).mp G0;have Y:=(h d).mpr G0;rcases R0.mp S with z|z
     .exact z
     .rcases R0.mp Y with w|w
      .exact w.symm
      .have:=q c z;have:=m d w;lia
    subst e;rw[F M R λz=>⟨λg=>?_,λg=>?_⟩]
    .rcases R0.mp ((h z).mp<|q0 _ g) with w|w
     .have:=m z g;lia
     .exact w
    .rcases R0.mp ((h z).mpr<|q0 _ g) with w|w
     .have:=q z g;omega
     .exact w
 exact k hl C B
noncomputable def Hj(lo hi:Qo):Qo:=(lo.zip hi).map λq=>((gpw (q.2-q.1+1):Nat):Int)
noncomputable def oG(lo hi:Qo):List Qo:=(lo.zip hi).map λq=>kC q.1<|q.2+1-2 ^ gpw (q.2-q.1+1)
noncomputable def iF(lo hi:Qo):List qZ:=(mZ [[]]<|oG lo hi).map λp=>(p,Hj lo hi)
theorem NU{n:Int}(h:1<=n):(2:Int) ^ gpw n<=n/\n<2*2 ^ gpw n:=by refine⟨(zV h _).mp<|P0 _,?_⟩;have a:¬gpw n+1<=gpw n:=Nat.not_succ_le_self _;rw[zV h,F9,j8]at a;exact L9.1 a
theorem FM:∀{lo hi sd p:Qo},Bx lo hi sd->lU p (oG lo hi)->Pc p (Hj lo hi) sd
 |[],[],[],[],_,_=>trivial
 |x::lo,y::hi,s::sd,z::p,h,a=>by have hx:=h.1;obtain⟨c,g2⟩:=NU (n:=y-x+1)<|B7<|Q2 hx.2.1;have b:=stL_mem.mp a.1;simp only at b;refine⟨?_,FM h.2 a.2⟩;have e:((gpw (y-x+1):Nat):Int).toNat=gpw (y-x+1):=rfl;show 0<=z/\z<s/\0<=((gpw (y-x+1):Nat):Int)/\(2:Int) ^ ((gpw (y-x+1):Nat):Int).toNat<=s-z;rw[e];have d:=LU<|gpw<|y-x+1;omega
 |[],[],[],_::_,_,a=>a.elim
 |_::_,_::_,_::_,[],_,a=>a.elim
 |[],[],_::_,_,h,_=>h.elim
 |[],_::_,z,_,h,_=>by cases z<;>exact h.elim
 |_::_,[],z,_,h,_=>by cases z<;>exact h.elim
 |_::_,_::_,[],_,h,_=>h.elim
theorem GM:∀{lo hi sd p q:Qo},Bx lo hi sd->lU p (oG lo hi)->lU q ((p.zip<|XJ p<|Hj lo hi).map λr=>UZ r.1 r.2)->lU q ((lo.zip hi).map λr=>UZ r.1 r.2)
 |[],[],[],[],q,_,_,b=>b
 |x::lo,y::hi,s::sd,z::p,q,h,a,b=>by
  cases q with
  |nil=>exact b.elim
  |cons u q =>
   have hx:=h.1;obtain⟨g,g2⟩:=NU (n:=y-x+1) (by omega);have d:=stL_mem.mp a.1;simp only at d;have e:((gpw (y-x+1):Nat):Int).toNat=gpw (y-x+1):=by omega
   have c:u∈UZ z (z+2 ^ ((gpw (y-x+1):Nat):Int).toNat-1):=b.1;rw[e]at c;have c:=rng2_mem.mp c;exact⟨rng2_mem.mpr (by simp only;omega),GM h.2 a.2 b.2⟩
 |[],[],[],_::_,_,_,a,_=>a.elim
 |_::_,_::_,_::_,[],_,_,a,_=>a.elim
 |[],[],_::_,_,_,h,_,_=>h.elim
 |[],_::_,z,_,_,h,_,_=>by cases z<;>exact h.elim
 |_::_,[],z,_,_,h,_,_=>by cases z<;>exact h.elim
 |_::_,_::_,[],_,_,h,_,_=>h.elim
theorem lC:∀{lo hi sd q:Qo},Bx lo hi sd->lU q ((lo.zip hi).map λr=>UZ r.1 r.2)->∃p,lU p (oG lo hi)/\lU q ((p.zip<|XJ p<|Hj lo hi).map λr=>UZ r.1 r.2)
 |[],[],[],q,_,a=>⟨[],trivial,a⟩
 |x::lo,y::hi,s::sd,q,h,a=>by
  cases q with
  |nil=>exact a.elim
  |cons u q =>
   have hx:=h.1;obtain⟨i,g2⟩:=NU (n:=y-x+1) (by omega);have e:((gpw (y-x+1):Nat):Int).toNat=gpw (y-x+1):=by omega
   have d:u∈UZ x y:=a.1;have d:=rng2_mem.mp d;obtain⟨p,g,b⟩:=lC h.2 a.2;by_cases c:u<=x+2 ^ gpw (y-x+1)-1
   .refine⟨x::p,⟨stL_mem.mpr<|.inl Z,g⟩,⟨?_,b⟩⟩;show u∈UZ x (x+2 ^ ((gpw (y-x+1):Nat):Int).toNat-1);rw[e];exact rng2_mem.mpr ⟨d.1,c⟩
   .refine⟨(y+1-2 ^ gpw (y-x+1))::p,⟨stL_mem.mpr<|.inr Z,g⟩,⟨?_,b⟩⟩;show u∈UZ (y+1-2 ^ gpw (y-x+1)) (y+1-2 ^ gpw (y-x+1)+2 ^ ((gpw (y-x+1):Nat):Int).toNat-1);rw[e];exact rng2_mem.mpr (by lia)
 |[],[],_::_,_,h,_=>h.elim
 |[],_::_,z,_,h,_=>by cases z<;>exact h.elim
 |_::_,[],z,_,h,_=>by cases z<;>exact h.elim
 |_::_,_::_,[],_,h,_=>h.elim
theorem bY{sd:Qo}(h:Bx lo hi sd){b:qZ}(a:b∈iF lo hi):Pc b.1 b.2 sd:=by obtain⟨p,c,rfl⟩:=v0.mp a;exact FM h<|YZ c
theorem OU{sd:Qo}(h:Bx lo hi sd){x:Int}:x∈jZ sd cl lo hi ↔ ∃b∈iF lo hi,x∈jZ sd cl b.1 (XJ b.1 b.2):=by
 constructor
 .intro hx;obtain⟨q,c,rfl⟩:=v0.mp hx;obtain⟨p,d,e⟩:=lC h<|YZ c;exact⟨(p,Hj lo hi),v0.mpr ⟨p,TJ (a:=[]) (by simp) d,Z⟩,v0.mpr ⟨q,TJ (a:=[]) (by simp) e,Z⟩⟩
 .rintro⟨b,g,hx⟩;obtain⟨p,d,rfl⟩:=v0.mp g;obtain⟨q,c,rfl⟩:=v0.mp hx;exact v0.mpr ⟨q,TJ (a:=[]) (by simp)<|GM h (YZ d)<|YZ c,Z⟩
theorem Ij(lo hi:Qo):∀c∈oG lo hi,c≠[]/\c.length<=2:=λc a=>by
 obtain⟨q,_,rfl⟩:=v0.mp a;unfold kC;split
 .exact⟨by simp,by simp⟩
 .exact⟨by simp,by simp⟩
theorem Qk(lo hi:Qo):iF lo hi≠[]:=λz=>by
 have h:=Ae W5 z;unfold iF at h;rw[l0,IZ]at h;have:=bW (cs:=oG lo hi) λc a=>(Ij lo hi c a).1;simp at h
 lia
theorem GA{sd:Qo}(h:Bx lo hi sd):GJ ((iF lo hi).map λb=>GJ<|jZ sd cl b.1<|XJ b.1 b.2)=GJ (jZ sd cl lo hi)/\HJ ((iF lo hi).map λb=>HJ<|jZ sd cl b.1<|XJ b.1 b.2)=HJ (jZ sd cl lo hi):=by
 have i:(iF lo hi).map (λb=>GJ<|jZ sd cl b.1<|XJ b.1 b.2)≠[]:=λz=>Qk lo hi<|Q4.mp z;have c:(iF lo hi).map (λb=>HJ<|jZ sd cl b.1<|XJ b.1 b.2)≠[]:=λz=>Qk lo hi<|Q4.mp z;constructor
 .refine PK ?_ λy hy=>?_
  .obtain⟨b,a,e⟩:=v0.mp (eJ i).1;rw[<-e];exact(OU h).mpr ⟨b,a,(eJ<|jJ<|iW<|bY h a).1⟩
  .obtain⟨b,a,hy⟩:=(OU h).mp hy;have d:=(eJ<|jJ (cl:=cl)<|iW<|bY h a).2 y hy;have g:=(eJ i).2 _<|v0.mpr ⟨b,a,Z⟩;exact Y1 g d
 .refine QK ?_ λy hy=>?_
  .obtain⟨b,a,e⟩:=v0.mp (fJ c).1;rw[<-e];exact(OU h).mpr ⟨b,a,(fJ<|jJ<|iW<|bY h a).1⟩
  .obtain⟨b,a,hy⟩:=(OU h).mp hy;have d:=(fJ<|jJ (cl:=cl)<|iW<|bY h a).2 y hy;have g:=(fJ c).2 _<|v0.mpr ⟨b,a,Z⟩;exact Y1 d g
noncomputable def kc:Od->Od
 | .tuple [.int x,.int y]=>.int (gpw (y-x+1):Nat)
 |_=>.none
noncomputable def lc:Od->Od
 | .tuple [.int x,.int y,.int k]=>.list<|(kC x<|y+1-2 ^ k.toNat).map n0
 |_=>.none
noncomputable def nc:Od->Od
 | .tuple [_,_,c,d]=>.tuple [c,d]
 |_=>.none
theorem mC:∀lo hi:Qo,lo.zip (hi.zip<|Hj lo hi)=(lo.zip hi).map λq=>(q.1,q.2,((gpw (q.2-q.1+1):Nat):Int))
 |[],_=>by simp
 |_::_,[]=>by simp
 |x::lo,y::hi=>by have a:=mC lo hi;show (x,y,((gpw (y-x+1):Nat):Int))::lo.zip (hi.zip<|Hj lo hi)=_;rw[a];rfl
theorem nC{a:List Qo}(h:∀c∈a,c.length<=2):TZ a<=2 ^ a.length:=by
 induction a with
 |nil=>exact P0 _
 |cons c a b=>have e:=h c G0;have g:=b λd hd=>h d<|q0 _ hd;show c.length*TZ a<=2 ^ (a.length+1);rw[Nat.pow_succ,GX<|2 ^ a.length];exact Nat.mul_le_mul e g
theorem oC(a:List Qo):TZ (a.map<|Y4 n0)=TZ a:=by
 induction a with
 |nil=>rfl
 |cons c a b=>show (c.map n0).length*_=c.length*_;rw[b,l0]
theorem pC{sd:Qo}(b:Sd sd)(h:Bx lo hi sd):(oG lo hi).length<=3/\TZ (oG lo hi)<=8/\(iF lo hi).length<=8:=by
 have d:=b.l3;have g:=FJ h;have e:(oG lo hi).length<=3:=by unfold oG;rw[l0,U1];exact K0 (t7 _ _)<|le_of_eq_of_le g.1 d
 have i:=nC λc j=>(Ij lo hi c j).2;have k:2 ^ (oG lo hi).length<=2 ^ 3:=Nat.pow_le_pow_right (by decide) e;have a:TZ (oG lo hi)<=8:=K0 i k;refine⟨e,a,?_⟩;unfold iF;rw[l0,IZ];simp;exact a
noncomputable def qc(a:Qo):Od->Od
 |d=>.tuple [d,tupD a]
def HM:Con:=λa Q=>∃(sd cl:Qo) (b:qZ),a=[.fz<|.list<|(cY sd).map<|CV sd cl,.fz<|VX b]/\Sd sd/\Pc b.1 b.2 sd/\∀o,Q (.fz<|CV sd cl b) o
theorem BL(F:Rr K "entry_at" (top 10) f fd)(T:Txt mg):FnOk P w K mg base mJ 1 f fd ["table","key"] (QX K HM):=by
 have S:=cA;refine IJ F S (λke A outer s H E hr=>RX (tZ 2 yZ)<|RX (tZ 3<|WK (wx<|WJ T.Qp<|aZ 0) UX)<|RX (EU PassesOwn.never (rJ hU UW (wn 2)<|wn 3)<|RX (tZ 4<|w_bin mW jW (wx<|JJ (wn 2)<|wn 3) UX)<|AZ<|lJ (rJ fB (eB<|BF hr) (wx<|ZX (wn 0)<|wn 4)<|wn 1) (AZ<|tZ 2<|JJ (wn 4) UX)<|AZ<|RV (i:=3) S.nd Z (Or.inl Z)<|wn 4)<|sZ<|ZX (wn 0)<|wn 2) ?_;rintro G Qd ⟨sd,cl,b,rfl,de,hb,q⟩;have hn:=MU de;obtain⟨t,v,M⟩:=l6.mp<|pcs_mem.mpr hb;have g:(cY sd)[t]?=O b:=by rw[L0 v,M]
 have ge:=ZB sd;generalize cY sd=L at hn v M g ge ⊢;have R:∀{m:Nat},m<L.length->∃c,L[m]?=O c/\vW (L.map<|CV sd cl) (m:Int)=O (CV sd cl c):=λ{m} Y=>⟨L[m],L0 Y,bJ<|by rw[Z0,L0 Y];rfl⟩;have je:(L.map<|CV sd cl).length=L.length:=l0 _;with_reducible refine xZ (λρ=>ρ=[Zt<|.list<|L.map<|CV sd cl,Zt<|VX b,Zt<|.int 0,U,U]) ?_ ?_
 .intro N hN;exact hN _ Z
 rintro _ rfl;with_reducible refine xZ (λρ=>ρ=[Zt<|.list<|L.map<|CV sd cl,Zt<|VX b,Zt<|.int 0,Zt<|.int<|(L.length:Int)-1,U]) ?_ ?_
 .intro N hN;rw[<-je]at hN;exact hN _ Z
 rintro _ rfl;with_reducible refine xZ (λρ=>∃e:Do Sl,ρ=[Zt<|.list<|L.map<|CV sd cl,Zt<|VX b,Zt<|.int (t:Nat),Zt<|.int (t:Nat),e]) ?_ ?_
 .intro N hN;refine⟨λm ρ=>∃(lo hi:Nat) (e:Do Sl),(e=U\/∃d,e=Zt d)/\lo<=t/\t<=hi/\hi<L.length/\m=hi-lo/\ρ=[Zt<|.list<|L.map<|CV sd cl,Zt<|VX b,Zt<|.int (lo:Nat),Zt<|.int (hi:Nat),e],⟨L.length-1,0,L.length-1,U,.inl Z,v4 _,Q1 v,Q6 _ _<|Nat.zero_lt_of_lt v,Z,?_⟩,?_⟩
  .rw[show ((L.length-1:Nat):Int)=(L.length:Int)-1 by lia];rfl
  rintro m ρ ⟨lo,hi,e,y,h1,h2,h3,rfl,rfl⟩;refine RZ (λh=>?_)<|λh=>?_
  .have h:(lo:Int)<(hi:Int):=Ld h;refine⟨λρ=>∃(k j:Nat) (d:Od),j-k<hi-lo/\k<=t/\t<=j/\j<L.length/\ρ=[Zt<|.list<|L.map<|CV sd cl,Zt<|VX b,Zt<|.int (k:Nat),Zt<|.int (j:Nat),Zt d],?_,?_⟩
   .rintro ρ' ⟨k,j,d,k1,k2,k3,k4,rfl⟩;exact⟨j-k,k1,k,j,Zt d,.inr ⟨d,Z⟩,k2,k3,k4,Z,Z⟩
   have em:((lo:Int)+(hi:Int)) / 2=(((lo+hi) / 2:Nat):Int):=rfl;have x:(lo+hi) / 2<L.length:=by lia
   obtain⟨c,l,B⟩:=R x;have jo:=vM ge g l;with_reducible refine xZ (λρ=>ρ=[Zt<|.list<|L.map<|CV sd cl,Zt<|VX b,Zt<|.int (lo:Nat),Zt<|.int (hi:Nat),Zt<|.int (((lo+hi) / 2:Nat):Int)]) ?_ ?_
   .intro N2 C;rw[<-em]at C;rcases y with rfl|⟨d,rfl⟩
    .exact⟨⟨by decide,by decide⟩,C _ Z⟩
    .exact⟨⟨by decide,by decide⟩,C _ Z⟩
   rintro _ rfl;refine⟨_,B,c,b,.inl ⟨_,Z,Z⟩,?_⟩;refine RZ (λa=>?_)<|λa=>?_
   .have a:NK c b=true:=a;rw[jo]at a;have a:=Ld a;exact⟨(lo+hi) / 2+1,hi,_,by exact cb<|U4.1 h,by exact a,h2,h3,by rw[show (((lo+hi) / 2+1:Nat):Int)=(((lo+hi) / 2:Nat):Int)+1 by exact RQ _ _];rfl⟩
   .have a:¬NK c b=true:=a;rw[jo]at a;have a:¬(lo+hi) / 2<t:=λz=>a<|Pd z;exact⟨lo,(lo+hi) / 2,_,Za<|U4.1 h,h1,E1 a,by omega,Z⟩
  .have h:¬(lo:Int)<(hi:Int):=λz=>h<|Pd z;have e1:lo=t:=by lia
   have e2:hi=t:=by lia
   subst e1;subst e2;exact hN _ ⟨e,Z⟩
 rintro _ ⟨e,rfl⟩;obtain⟨c,l,B⟩:=R v;have ec:c=b:=by rw[g]at l;injection l with l;exact l.symm
 subst ec;exact⟨_,B,q _⟩
variable (P w K mg base) in
structure CalsSt:Prop where
 Ds:Cal P w K mg base 1 "two_to" ["power"] (QX K l_)
def uc:Con:=λa Q=>∃x y k:Int,a=[.fz<|.int x,.fz<|.int y,.fz<|.int k]/\0<=k/\k<=1000/\x<=y+1-2 ^ k.toNat/\∀o,Q (.ow<|.list<|(kC x<|y+1-2 ^ k.toNat).map n0) o
theorem HA(F:Rr K "starts" (top 63) f fd)(T:Txt mg)(C:CalsSt P w K mg base):FnOk P w K mg base mJ 2 f fd ["first","last","power"] (QX K uc):=by
 have S:FnScope ["first","last","power"] ["first","last","power"] (SX<|top 63):={};refine IJ F S (λl A outer s H E c=>sZ<|Yw Z Z T.Zo T.Ko<|TX<|WZ<|iZ (wv 0)<|TX<|JJ (wx<|WK (wn 1)<|wx<|dZ C.Ds c.m<|aZ 2) UX) ?_;rintro a t ⟨x,y,k,rfl,d,g,i,q⟩;refine⟨k,Z,d,g,λo=>?_⟩;refine⟨[x,y-2 ^ k.toNat+1],Z,by show (2:Nat)+1<Tf;decide,λv b j=>?_⟩;have e:y-2 ^ k.toNat+1=y+1-2 ^ k.toNat:=by lia
 rw[e]at b;rw[NP i b j];exact q _
variable (P w K mg base) in
structure CalsMb:Prop where
 Dr:Cal P w K mg base 1 "greatest_power" ["length"] (QX K Pa)
 Bt:Cal P w K mg base 2 "starts" ["first","last","power"] (QX K uc)
 Yo:Cal P w K mg base 1 "one_of_each" ["choices"] (QX K yq)
def vc:Con:=λa Q=>∃sd lo hi:Qo,a=[.fz<|tupD sd,.fz<|VX (lo,hi)]/\Sd sd/\Bx lo hi sd/\∀o,Q (.ow<|.list<|(iF lo hi).map VX) o
theorem IA(F:Rr K "met_by" (top 62) f fd)(T:Txt mg)(C:CalsMb P w K mg base):FnOk P w K mg base mJ 3 f fd ["sides","box"] (QX K vc):=by
 have S:FnScope ["sides","box","powers","choices"] ["sides","box"] (SX<|top 62):={};refine IJ F S (λke A outer s H E l=>RX (tZ 2<|uW T.Zs<|TX<|NF ["first","last"] [] (MK Z T.Xo<|iZ (ZX (wn 1) UX)<|TX<|ZX (wn 1) UX) (λ_ _ _ _=>pK Z rfl<|lZ (HZ 0)<|lZ (HZ 1) EJ)<|λ_ _ _ _=>dZ C.Dr l.m<|TX<|JJ (wx<|WK (wn 1)<|wn 0) UX)<|RX (GW (i:=3) S.nd Z Z Z (own:=["first","last","power"]) (fr:=[]) (by kernel_rfl) (Mz Z T.Xo<|iZ (ZX (wn 1) UX)<|iZ (ZX (wn 1) UX)<|aZ 2) (λ_ _ _ _=>pK Z rfl<|lZ (HZ 0)<|lZ (HZ 1)<|lZ (HZ 2) EJ) (λ_ _ _ _=>RL)<|λ_ _ _ _=>dZ C.Bt l.m<|hZ 0<|hZ 1<|aZ 2)<|sZ<|SJ ["place"] [2] (CZ rfl<|dZ C.Yo l.m<|TX<|wv 3)<|λ_ _ _ _=>DZ<|iZ (wv 0)<|TX<|wv 1) ?_;rintro G Qd ⟨sd,lo,hi,rfl,j,ff,q⟩;have h3:=j.l3;have hm:=j.m;have og:=FJ ff;have b:=pW ff;with_reducible refine xZ (λρ=>ρ=[Zt<|tupD sd,Zt<|VX (lo,hi),Zt<|tupD<|Hj lo hi,U]) ?_ ?_
 .intro N hN;have a:=oJ lo hi;refine⟨_,Z,_,Z,by rw[a,l0,U1];exact WX<|by lia,sJ kc ?_ ?_⟩
  .intro d hd L g;rw[a]at hd;obtain⟨⟨x,y⟩,t,rfl⟩:=v0.mp hd;obtain⟨v,k,s,M,B⟩:=b (x,y) t;simp only at v k B;exact⟨Z,y-x+1,Z,B7<|Q2 k,λo=>g⟩
  .have e:(tW (lo.map n0)<|hi.map n0).map kc=(Hj lo hi).map n0:=by
    rw[a];unfold Hj;rw[A0,A0];rfl
   rw[e];exact hN _ Z
 rintro _ rfl;with_reducible refine xZ (λρ=>ρ=[Zt<|tupD sd,Zt<|VX (lo,hi),Zt<|tupD<|Hj lo hi,Yt<|.list<|((oG lo hi).map<|Y4 n0).map P2]) ?_ ?_
 .intro N hN;have a:=bU lo hi<|Hj lo hi;rw[mC,A0]at a;refine⟨_,Z,_,Z,by rw[a,l0,U1];exact WX<|by omega,sJ lc ?_ ?_⟩
  .intro d hd L g;rw[a]at hd;obtain⟨⟨x,y⟩,t,rfl⟩:=v0.mp hd;obtain⟨v,k,s,M,B⟩:=b (x,y) t;have ui:=OZ j.p s M;simp only at v k B;have hg:=Dj (n:=y-x+1) (by omega);obtain⟨g1,g2⟩:=NU (n:=y-x+1) (by omega);have e:((gpw (y-x+1):Nat):Int).toNat=gpw (y-x+1):=rfl;exact⟨Z,x,y,((gpw (y-x+1):Nat):Int),Z,G3 _,by lia,by rw[e];lia,λo=>g⟩
  .have e:(jH (lo.map n0) (hi.map n0)<|(Hj lo hi).map n0).map lc=((oG lo hi).map<|Y4 n0).map P2:=by
    rw[a];unfold oG;rw[A0,A0,A0];refine A1 λq _=>?_;show P2 ((kC q.1<|q.2+1-2 ^ ((gpw (q.2-q.1+1):Nat):Int).toNat).map n0)=_;rw[show ((gpw (q.2-q.1+1):Nat):Int).toNat=gpw (q.2-q.1+1) by rfl];rfl
   rw[e];exact hN _ Z
 rintro _ rfl;obtain⟨m1,R,m3⟩:=pC j ff;refine⟨(oG lo hi).map<|Y4 n0,Z,λc Y=>?_,by rw[oC];lia,by rw[l0];lia,λo=>?_⟩
 .obtain⟨c',ue,rfl⟩:=v0.mp Y;intro z;exact(Ij lo hi c' ue).1<|Q4.mp z
 have e1:(mZ [[]]<|(oG lo hi).map<|Y4 n0).map K1=(mZ [[]]<|oG lo hi).map tupD:=by have:=ZK n0 (oG lo hi) [[]];have e:([[]]:List Qo).map (Y4 n0)=[[]]:=rfl;rw[e]at this;rw[<-this,A0];rfl
 have m4:(mZ [[]]<|oG lo hi).length<=8:=by rw[IZ];simp;exact R
 rw[e1];refine⟨WX (by rw[l0];lia),sJ (qc<|Hj lo hi) (λd _ L g=>g) ?_⟩;have e2:((mZ [[]]<|oG lo hi).map tupD).map (qc<|Hj lo hi)=(iF lo hi).map VX:=by unfold iF;rw[A0,A0];rfl
 rw[e2];exact q _
def JA:Con:=λa Q=>∃b:Ot,a=[.fz<|.list<|b.map λe=>tupD [e.1,e.2]]/\b≠[]/\b.length<=1000/\∀o,Q (.fz<|tupD [GJ<|b.map λe=>e.1,HJ<|b.map λe=>e.2]) o
noncomputable def wc:Od->Od
 | .tuple [a,_]=>a
 |_=>.none
noncomputable def xc:Od->Od
 | .tuple [_,b]=>b
 |_=>.none
theorem OP(F:Rr K "put_together" (top 54) f fd)(T:Txt mg):FnOk P w K mg base mJ 1 f fd ["parts"] (QX K JA):=by
 have S:=iC;refine IJ F S (λv A outer s H E x=>sZ<|DZ<|iZ (kZ IW (CK (K:=K) Z Z) T.Qt Ti<|TX<|SJ ["part"] [] (CZ rfl<|wv 0)<|λ_ _ _ _=>ZX (wn 0) UX)<|TX<|kZ JW (DK (K:=K) Z Z) T.Qs Ui<|TX<|SJ ["part"] [] (CZ rfl<|wv 0)<|λ_ _ _ _=>ZX (wn 0) UX) ?_;rintro b y ⟨a,rfl,c,hl,q⟩;have h0:0<a.length:=c5.mpr c;refine⟨WX (by rw[l0];omega),sJ wc ?_ ?_⟩
 .intro d hd N hN;obtain⟨e,_,rfl⟩:=v0.mp hd;exact⟨_,Z,hN⟩
 have g:(a.map λe=>tupD [e.1,e.2]).map wc=(a.map λe=>e.1).map n0:=by rw[A0,A0];rfl
 have i:(a.map λe=>tupD [e.1,e.2]).map xc=(a.map λe=>e.2).map n0:=by rw[A0,A0];rfl
 rw[g];refine⟨a.map λe=>e.1,Z,by rw[l0];exact h0,λm j k=>?_⟩;refine⟨WX (by rw[l0];omega),sJ xc ?_ ?_⟩
 .intro d hd N hN;obtain⟨e,_,rfl⟩:=v0.mp hd;exact⟨_,Z,hN⟩
 rw[i];refine⟨a.map λe=>e.2,Z,by rw[l0];exact h0,λM l t=>?_⟩;rw[PK j k,QK l t];exact q _
variable (P w K mg base) in
structure CalsBp:Prop where
 Cp:Cal P w K mg base 3 "met_by" ["sides","box"] (QX K vc)
 Us:Cal P w K mg base 1 "entry_at" ["table","key"] (QX K HM)
 Ar:Cal P w K mg base 1 "put_together_powers" ["parts"] (QX K JA)
def Ra:Con:=λa Q=>∃sd cl lo hi:Qo,a=[.fz<|tupD sd,.fz<|.list<|(cY sd).map<|CV sd cl,.fz<|VX (lo,hi)]/\Sd sd/\Bx lo hi sd/\∀o,Q (.fz<|tupD [GJ<|jZ sd cl lo hi,HJ<|jZ sd cl lo hi]) o
theorem KA(F:Rr K "by_powers" (top 64) f fd)(T:Txt mg)(C:CalsBp P w K mg base):FnOk P w K mg base mJ 4 f fd ["sides","table","box"] (QX K Ra):=by
 have S:FnScope ["sides","table","box","entries"] ["sides","table","box"] (SX<|top 64):={};refine IJ F S (λB A outer s H E c=>RX (GW (i:=3) S.nd Z Z Z (own:=["piece"]) (fr:=[1]) (by kernel_rfl) (CZ rfl<|dZ C.Cp c.m<|hZ 0<|aZ 2) (λ_ _ _ _=>HZ 0) (λ_ _ _ _=>RL)<|λ_ _ _ _=>dZ C.Us c.m<|hZ 1<|aZ 0)<|sZ<|dZ C.Ar c.m<|TX<|SJ ["entry"] [] (CZ rfl<|wv 3)<|λ_ _ _ _=>DZ<|iZ (ZX (wn 0) UX)<|TX<|ZX (wn 0) UX) ?_;rintro l v ⟨sd,cl,lo,hi,rfl,g,ff,q⟩;obtain⟨_,_,G⟩:=pC g ff;obtain⟨j,k⟩:=GA (cl:=cl) ff;with_reducible refine xZ (λρ=>ρ=[Zt<|tupD sd,Zt<|.list<|(cY sd).map<|CV sd cl,Zt<|VX (lo,hi),Yt<|.list<|(iF lo hi).map<|CV sd cl]) ?_ ?_
 .intro N hN;refine⟨sd,lo,hi,Z,g,ff,λo=>⟨WX (by rw[l0];lia),sJ (xA sd cl) ?_ ?_⟩⟩
  .intro d hd x a;obtain⟨b,t,rfl⟩:=v0.mp hd;rw[bD]at a;exact⟨sd,cl,b,Z,g,bY ff t,λo=>a⟩
  .have e:((iF lo hi).map VX).map (xA sd cl)=(iF lo hi).map (CV sd cl):=by
    rw[A0];exact A1 λb _=>bD sd cl b
   rw[e];exact hN _ Z
 rintro _ rfl;refine⟨WX (by rw[l0];omega),sJ nc ?_ ?_⟩
 .intro d hd x a;obtain⟨b,t,rfl⟩:=v0.mp hd;exact⟨_,Z,_,Z,a⟩
 have e:((iF lo hi).map<|CV sd cl).map nc=((iF lo hi).map λb=>(GJ<|jZ sd cl b.1<|XJ b.1 b.2,HJ<|jZ sd cl b.1<|XJ b.1 b.2)).map λe=>tupD [e.1,e.2]:=by rw[A0,A0];rfl
 rw[e];refine⟨_,Z,λz=>Qk lo hi<|Q4.mp z,by rw[l0];omega,λo=>?_⟩;rw[<-j,<-k]at q;have y:∀o,v (.fz<|tupD [GJ<|((iF lo hi).map λb=>(GJ<|jZ sd cl b.1<|XJ b.1 b.2,HJ<|jZ sd cl b.1<|XJ b.1 b.2)).map λe=>e.1,HJ<|((iF lo hi).map λb=>(GJ<|jZ sd cl b.1<|XJ b.1 b.2,HJ<|jZ sd cl b.1<|XJ b.1 b.2)).map λe=>e.2]) o:=λo=>by rw[A0,A0];exact q o
 exact y _
theorem qC:∀{lo sd:Qo},Wi lo sd->Bx lo (sd.map λs=>s-1) sd
 |[],[],_=>trivial
 |a::lo,s::sd,h=>⟨⟨h.1.1,by have:=h.1.2;show a<=s-1;exact S6 this,by show s-1<s;lia⟩,qC h.2⟩
 |[],_::_,h=>h.elim
 |_::_,[],h=>h.elim
theorem rC:∀{lo hi sd p:Qo},Bx lo hi sd->lU p ((lo.zip hi).map λq=>UZ q.1 q.2)->Bx lo p sd
 |[],[],[],[],_,_=>trivial
 |a::lo,b::hi,s::sd,x::p,h,k=>by have:=HH k.1;have c:=h.1;simp only at this;exact⟨⟨c.1,this.1,X3 this.2 c.2.2⟩,rC h.2 k.2⟩
 |[],[],[],_::_,_,h=>h.elim
 |_::_,_::_,_::_,[],_,h=>h.elim
 |[],[],_::_,_,h,_=>h.elim
 |[],_::_,z,_,h,_=>by cases z<;>exact h.elim
 |_::_,[],z,_,h,_=>by cases z<;>exact h.elim
 |_::_,_::_,[],_,h,_=>h.elim
variable (P w K mg base) in
structure CalsSu:Prop where
 Vt:Cal P w K mg base 6 "cells_in" ["field","box"] (QX K SF)
def sC:Con:=λa Q=>∃sd cl lo hi:Qo,a=[.fz<|dJ sd cl,.fz<|tP lo hi]/\Sd sd/\cl.length=(tJ sd).length/\Bx lo hi sd/\∀o,Q (.fz<|.int (jZ sd cl lo hi).sum) o
theorem uC(F:Rr K "sum_in" (top 26) f fd)(T:Txt mg)(C:CalsSu P w K mg base):FnOk P w K mg base mJ 7 f fd ["field","box"] (QX K sC):=by have S:FnScope ["field","box"] ["field","box"] (SX<|top 26):={};refine IJ F S (λg A outer s H E b=>sZ<|kZ zF (nW (K:=K) Z Z) T.Jp Bo<|TX<|dZ C.Vt b.m<|hZ 0<|aZ 1) ?_;rintro a i ⟨sd,cl,lo,hi,rfl,c,d,e,q⟩;refine⟨sd,cl,lo,hi,Z,c,d,e,λ_=>?_⟩;exact⟨_,Z,q _⟩
def Rq:Con:=λa Q=>∃(sd cl lo hi:Qo),a=[.fz<|dJ sd cl,.fz<|tP lo hi]/\Sd sd/\cl.length=(tJ sd).length/\Bx lo hi sd/\∀o,Q (.fz<|.int<|GJ<|jZ sd cl lo hi) o
theorem Jj(F:Rr K "least_in" (top 27) f fd)(T:Txt mg)(C:CalsSu P w K mg base):FnOk P w K mg base mJ 7 f fd ["field","box"] (QX K Rq):=by have S:FnScope ["field","box"] ["field","box"] (SX<|top 27):={};refine IJ F S (λj A outer s H E c=>sZ<|kZ IW (CK (K:=K) Z Z) T.Qt Ti<|TX<|dZ C.Vt c.m<|hZ 0<|aZ 1) ?_;rintro a k ⟨sd,cl,lo,hi,rfl,d,e,b,q⟩;refine⟨sd,cl,lo,hi,Z,d,e,b,λ_=>?_⟩;exact⟨_,Z,c5.mpr<|jJ b,λm g i=>by rw[PK g i];exact q _⟩
def Tq:Con:=λa Q=>∃(sd cl lo hi:Qo),a=[.fz<|dJ sd cl,.fz<|tP lo hi]/\Sd sd/\cl.length=(tJ sd).length/\Bx lo hi sd/\∀o,Q (.fz<|.int<|HJ<|jZ sd cl lo hi) o
theorem Kj(F:Rr K "greatest_in" (top 28) f fd)(T:Txt mg)(C:CalsSu P w K mg base):FnOk P w K mg base mJ 7 f fd ["field","box"] (QX K Tq):=by have S:FnScope ["field","box"] ["field","box"] (SX<|top 28):={};refine IJ F S (λj A outer s H E c=>sZ<|kZ JW (DK (K:=K) Z Z) T.Qs Ui<|TX<|dZ C.Vt c.m<|hZ 0<|aZ 1) ?_;rintro a k ⟨sd,cl,lo,hi,rfl,d,e,b,q⟩;refine⟨sd,cl,lo,hi,Z,d,e,b,λ_=>?_⟩;exact⟨_,Z,c5.mpr<|jJ b,λm g i=>by rw[QK g i];exact q _⟩
variable (P w K mg base) in
structure CalsAn:Prop where
 Cr:Cal P w K mg base 1 "_law_within" ["_law_known","_law_low","_law_high"] (QX K uk)
def PP:Con:=λa Q=>∃(sd cl:Qo) (b:qZ),a=[.fz<|uU<|PZ sd cl,.fz<|VX b]/\Sd sd/\cl.length=(tJ sd).length/\Bx b.1 b.2 sd/\∀o,Q (.fz<|tupD<|IU sd cl b) o
theorem QP(F:Rr K "_law_answer" (top 77) f fd)(T:Txt mg)(C:CalsAn P w K mg base):FnOk P w K mg base mJ 2 f fd ["_law_known","_law_box_here"] (QX K PP):=by have S:FnScope ["_law_known","_law_box_here","_law_some"] ["_law_known","_law_box_here"] (SX<|top 77):={};refine IJ F S (λy A outer s H E g=>RX (tZ 2<|dZ C.Cr g.m<|hZ 0<|iZ (ZX (wn 1) UX)<|TX<|ZX (wn 1) UX)<|sZ<|DZ<|iZ (kZ zF (nW (K:=K) Z Z) T.Jp Bo<|aZ 2)<|iZ (kZ IW (CK (K:=K) Z Z) T.Qt Ti<|aZ 2)<|TX<|kZ JW (DK (K:=K) Z Z) T.Qs Ui<|aZ 2) ?_;rintro e B ⟨sd,cl,b,rfl,a,i,c,q⟩;have G:=a.m;have j:=a.l3;have L:=xY a.p;have k:=FJ c;have l:=jJ (cl:=cl) c;have h0:0<(jZ sd cl b.1 b.2).length:=c5.mpr l;refine⟨_,Z,_,Z,sd,cl,b.1,b.2,Z,by lia,le_of_eq_of_le k.1 j,λo=>?_⟩;rw[CB a.p i c];refine⟨jZ sd cl b.1 b.2,Z,jZ sd cl b.1 b.2,Z,h0,λm t v=>⟨jZ sd cl b.1 b.2,Z,h0,λM2 d x=>?_⟩⟩;rw[PK t v,QK d x];exact q _
variable (P w K mg base) in
structure CalsAB:Prop where
 Dp:Cal P w K mg base 3 "all_places" ["sides"] (QX K SW)
 Ys:Cal P w K mg base 2 "places_between" ["low","high"] (QX K aL)
 Ft:Cal P w K mg base 1 "last_place" ["sides"] (QX K cC)
def IM:Con:=λa Q=>∃sd:Qo,a=[.fz<|tupD sd]/\Sd sd/\vZ sd<=8/\∀(bs:List qZ) (o:Ev),(∀b∈bs,Bx b.1 b.2 sd)->bs.length<=64->Q (.ow<|.list<|bs.map VX) o
theorem CL(F:Rr K "all_boxes" (top 19) f fd)(C:CalsAB P w K mg base):FnOk P w K mg base mJ 4 f fd ["sides"] (QX K IM):=by
 have S:FnScope ["sides","boxes","low","high"] ["sides"] (SX<|top 19):={};refine IJ F S (λke A outer s H E l=>RX (tZ 1<|WZ cK)<|RX (aW [2,3] (CZ rfl<|dZ C.Dp l.m<|aZ 0) (HZ 2)<|AZ<|aW [3] (CZ rfl<|dZ C.Ys l.m<|hZ 2<|TX<|dZ C.Ft l.m<|aZ 0) (HZ 3)<|AZ<|nK<|uu wK Z PySem.F.slot_list_append PySem.F.type_list_append vK (wn 1)<|TX<|DZ<|iZ (wv 2)<|TX<|wv 3)<|mG 1) ?_;rintro G Qd ⟨sd,rfl,j,R,q⟩;have Y:=j.l3;have ye:=xY j.p;refine⟨sd,Z,j,λo=>?_⟩;refine YJ (λrest ρ=>∃(bs:List qZ) (a:List Qo),ρ=[Zt<|tupD sd,Yt<|.list<|bs.map VX,U,U]/\rest=a.map tupD/\(∀p∈a,p∈tJ sd)/\(∀b∈bs,Bx b.1 b.2 sd)/\bs.length+8*a.length<=64) ?_ ?_
  ⟨[],tJ sd,Z,Z,λp h=>h,λb i=>(by cases i),by simp;lia⟩
 .rintro d ds ρ ⟨bs,a,rfl,e,t,hbs,hl⟩ N hN;cases a with
  |nil=>cases e
  |cons lo a =>
   cases e;have i:=qC<|RW<|t lo G0;have L:=FJ i;have mm:=PF i;refine⟨sd,Z,by lia,λo=>?_⟩;refine⟨lo,sd.map λs=>s-1,Z,by rw[l0];exact L.1,le_of_eq_of_le L.1 Y,λp v=>?_,by lia,λo=>?_⟩
   .obtain⟨g1,g2,s',hs,g3⟩:=pW i p v;have:=OZ j.p s' hs;exact⟨g1,g2,by lia⟩
   have x:(xU lo<|sd.map λs=>s-1).length<=8:=by unfold xU;rw[IZ];simp;exact G8.1<|Y1 mm.1 R
   refine YJ (λrest ρ=>∃(g:List qZ) (c:List Qo),ρ=[Zt<|tupD sd,Yt<|.list<|g.map VX,Zt<|tupD lo,U]/\rest=c.map tupD/\(∀p∈c,p∈xU lo (sd.map λs=>s-1))/\(∀b∈g,Bx b.1 b.2 sd)/\g.length+c.length<=bs.length+8) ?_ ?_
    ⟨bs,xU lo<|sd.map λs=>s-1,Z,Z,λp h=>h,hbs,U0 x _⟩
   .rintro d ds ρ ⟨g,c,rfl,e,hi2,y,k⟩ M hM;cases c with
    |nil=>cases e
    |cons h c =>
     cases e;refine⟨L1 (show _<=100 by rw[l0];simp at hl k;lia)<|by decide,?_⟩;refine hM _ ⟨g++[(lo,h)],c,by rw[u4];rfl,Z,λp v=>hi2 p<|q0 _ v,λb B=>?_,by simp at k ⊢;lia⟩;rcases B2.mp B with z|z
     .exact y b z
     .rw[T1.mp z];exact rC i<|YZ<|hi2 h G0
   .rintro ρ ⟨g,c,rfl,e,hi2,y,k⟩;cases c with
    |cons h c=>cases e
    |nil=>exact hN _ ⟨g,a,Z,Z,λp h=>t p<|q0 _ h,y,by simp at hl k ⊢;lia⟩
 .rintro ρ ⟨bs,a,rfl,e,t,hbs,hl⟩;cases a with
  |cons h a=>cases e
  |nil=>exact q bs _ hbs (by simpa using hl)
noncomputable def pG(k:Bool)(b:qZ)(ns:Qo):Od:=if k then .tuple [VX b,tupD ns] else .tuple (tupD b.1::tupD b.2::ns.map n0)
noncomputable def nuK(k:Bool):Nat:=if k then 3 else 2
theorem Uq:∀l:Qo,noMutAll (l.map n0)=Ep
 |[]=>rfl
 |_::l=>by simp[noMutAll,noMut,Uq l]
theorem vC(k:Bool)(b:qZ)(ns:Qo):noMut (pG k b ns)=true:=by cases k<;>simp[pG,noMut,noMutAll,Uq]
def RwL(c:Bool)(a:Rt):Prop:=∀d∈a,∃b ns,d=pG c b ns/\ns.length=nuK c
theorem RwL.at{c:Bool}{es:Rt}(h:RwL c es){a:Nat}(d:a<es.length):∃b ns,es[a]?=O (pG c b ns)/\ns.length=nuK c:=by obtain⟨b,ns,e,hl⟩:=h _<|S5 d;exact⟨b,ns,by rw[L0 d,e],hl⟩
theorem RwL.set{c:Bool}{g:Rt}(h:RwL c g){a:Nat}{b:qZ}{e:Qo}(hl:e.length=nuK c):RwL c (g.set a<|pG c b e):=λd hd=>by
 rcases List.mem_or_eq_of_mem_set hd with z|z
 .exact h d z
 .exact⟨b,e,z,hl⟩
theorem LA{j:Nat}(h:j<n):oz n ((j:Nat):Int)=O j:=by unfold oz;simp;omega
theorem RP(c:Bool):nuK c<=3/\2<=nuK c:=by cases c<;>decide
def yc:Con:=λa Q=>∃(k:Bool) (b:qZ) (ns:Qo),a=[.fz<|pG k b ns]/\ns.length=nuK k/\∀o,Q (.fz<|tupD ns) o
theorem MA(F:Rr K "_law_numbers" (top 74) f fd)(T:Txt mg):FnOk P w K mg base mJ 1 f fd ["_law_row"] (QX K yc):=by
 have S:FnScope ["_law_row"] ["_law_row"] (SX<|top 74):={};refine IJ F S (λd A outer s H E c=>RX (lJ (YV c (wx<|WJ T.Qp<|aZ 0) UX) (sZ<|ZX (wn 0) UX) GZ)<|sZ<|Su Z (wn 0) UX) ?_;rintro a e ⟨k,b,ns,rfl,hl,q⟩;cases k with
 |true=>exact⟨_,Z,q _⟩
 |false =>
  refine RZ (λh=>?_)<|λh=>⟨by decide,q _⟩;have h:Es (((tupD b.1::tupD b.2::ns.map n0).length:Int)=2)=true:=h;have h:=Ld h;have hl:ns.length=2:=hl;simp at h
  lia
def Ac:Con:=λa Q=>∃(k c:Bool) (b:qZ) (ns d:Qo),a=[.fz<|pG k b ns,.fz<|if c then tupD d else .list (d.map n0)]/\ns.length=nuK k/\d.length=nuK k/\∀o,Q (.fz<|pG k b d) o
theorem NA(F:Rr K "_law_with" (top 75) f fd)(T:Txt mg):FnOk P w K mg base mJ 1 f fd ["_law_row","_law_numbers_here"] (QX K Ac):=by
 have S:FnScope ["_law_row","_law_numbers_here"] ["_law_row","_law_numbers_here"] (SX<|top 75):={};refine IJ F S (λj A outer s H E i=>RX (lJ (YV i (wx<|WJ T.Qp<|aZ 0) UX) (sZ<|DZ<|iZ (ZX (wn 0) UX)<|TX<|uW T.Zs<|aZ 1) GZ)<|sZ<|JJ (wx<|Nu Z (wn 0) UX)<|wx<|uW T.Zs<|aZ 1) ?_;rintro e l ⟨k,c,b,ns,a,rfl,hl,g,q⟩;have d:(if c then tupD a else P2 (a.map n0))=tupD a\/(if c then tupD a else P2 (a.map n0))=.list (a.map n0):=by
  cases c
  .exact .inr Z
  .exact .inl Z
 generalize (if c then tupD a else P2 (a.map n0))=v at d ⊢;cases k with
 |true =>
  rcases d with rfl|rfl
  .exact⟨_,Z,q _⟩
  .exact⟨_,Z,q _⟩
 |false =>
  have hl:ns.length=2:=hl;have g:a.length=2:=g;have no:¬Es (((tupD b.1::tupD b.2::ns.map n0).length:Int)=2)=true:=λh=>by
   have h:=Ld h;simp at h
   lia
  rcases d with rfl|rfl
  .exact RZ (λh=>absurd h no) (λh=>⟨by decide,WX (by simp;lia),q _⟩)
  .exact RZ (λh=>absurd h no) (λh=>⟨by decide,WX (by simp;omega),q _⟩)
variable (P w K mg base) in
structure CalsBe:Prop where
 Wp:Cal P w K mg base 1 "_law_take" ["_law_pen_here","_law_most"] (QX K Px)
 Cs:Cal P w K mg base 1 "_law_numbers" ["_law_row"] (QX K yc)
 Ct:Cal P w K mg base 1 "_law_with" ["_law_row","_law_numbers_here"] (QX K Ac)
def Bc:Con:=λa Q=>∃(ns:Qo) (k l:Int) (c:Bool) (b:Rt),a=[.io<|NZ ns k l,.fz<|.list b]/\0<=k/\0<=l/\b≠[]/\b.length<=20000/\RwL c b /\
 ∀(d:Rt) (e g:Int) (o:Ev),RwL c d->d.length<=20000->0<=e->0<=g->Q (.ow<|.list d) (O (.io<|NZ ns e g)::o)
theorem OA(F:Rr K "_law_bent" (top 76) f fd)(T:Txt mg)(C:CalsBe P w K mg base):FnOk P w K mg base mJ 2 f fd ["_law_pen_here","_law_table"] (QX K Bc):=by
 have S:FnScope ["_law_pen_here","_law_table","_law_rows","_law_at","_law_there","_law_way","_law_numbers_here","_law_spot"] ["_law_pen_here","_law_table"] (SX<|top 76):={};refine IJ F S (λke A outer s H E G=>RX (tZ 2<|DU ax (cH (K:=K) Z) T.Zr Zi<|aZ 1)<|RX (tZ 3<|wJ C.Wp G.m<|hZ 0<|TX<|WJ T.Qp<|aZ 2)<|RX (tZ 4<|wJ C.Wp G.m<|hZ 0<|TX<|WJ T.Qp<|aZ 2)<|RX (tZ 5<|wJ C.Wp G.m<|hZ 0<|TX yZ)<|RX (tZ 6<|DU ax (cH (K:=K) Z) T.Zr Zi<|TX<|dZ C.Cs G.m<|TX<|ZX (wn 2)<|wn 3)<|RX (tZ 7<|wJ C.Wp G.m<|hZ 0<|TX<|WJ T.Qp<|aZ 6)<|RX (lJ (rJ hU UW (wn 5) UX) (RX (MD (JJ (wx<|ZX (wn 6)<|wn 7)<|wx<|ZX (wx<|WZ<|iZ yZ<|TX<|mH UX)<|wn 5) (wn 6)<|wn 7)<|AZ<|MD (dZ C.Ct G.m<|iZ (ZX (wn 2)<|wn 3)<|aZ 6) (wn 2)<|wn 3) GZ)<|RX (lJ (YV G (wn 5) UX) (RX (MD (dZ C.Ct G.m<|iZ (ZX (wn 2)<|wn 3)<|TX<|dZ C.Cs G.m<|TX<|ZX (wn 1)<|wn 4) (wn 2)<|wn 3)<|AZ<|MD (dZ C.Ct G.m<|iZ (ZX (wn 2)<|wn 4)<|TX<|dZ C.Cs G.m<|TX<|ZX (wn 1)<|wn 3) (wn 2)<|wn 4) GZ)<|RX (lJ (YV G (wn 5) UX) (AZ<|MD (dZ C.Ct G.m<|iZ (ZX (wn 2)<|wn 3)<|TX<|dZ C.Cs G.m<|TX<|ZX (wn 1)<|wn 4) (wn 2)<|wn 3) GZ)<|RX (lJ (YV G (wn 5) UX) (AZ<|nK<|uu Tu Z PySem.F.slot_list_pop PySem.F.type_list_pop uy (wn 2)<|TX<|wv 3) GZ)<|mG 2) ?_;rintro args Qd ⟨ns,k,l,c,g,rfl,Y,hl,mf,lp,R,q⟩;have hd0:0<g.length:=c5.mpr mf;have hnk:=RP c;have R:RwL c g:=R;with_reducible refine xZ (λρ=>ρ=[O<|.io<|NZ ns k l,Zt<|.list g,Yt<|.list g,U,U,U,U,U]) ?_ ?_
 .intro N hN;exact hN _ Z
 rintro _ rfl;with_reducible refine xZ (λρ=>∃(a:Nat) (y l1:Int),a<g.length/\0<=y/\0<=l1/\ρ=[O<|.io<|NZ ns y l1,Zt<|.list g,Yt<|.list g,Zt<|.int (a:Nat),U,U,U,U]) ?_ ?_
 .intro N hN;refine⟨ns,k,l,g.length,Z,Y,hl,U4.2 hd0,by lia,λr y l1 _ r0 r1 uf df=>?_⟩;obtain⟨a,rfl⟩:=j5 r0;exact hN _ ⟨a,y,l1,U4.1 r1,uf,df,Z⟩
 rintro _ ⟨a,k,l,ha,Y,hl,rfl⟩;with_reducible refine xZ (λρ=>∃(t:Nat) (y l1:Int),t<g.length/\0<=y/\0<=l1/\ρ=[O<|.io<|NZ ns y l1,Zt<|.list g,Yt<|.list g,Zt<|.int (a:Nat),Zt<|.int (t:Nat),U,U,U]) ?_ ?_
 .intro N hN;refine⟨ns,k,l,g.length,Z,Y,hl,U4.2 hd0,by lia,λr y l1 _ r0 r1 uf df=>?_⟩;obtain⟨t,rfl⟩:=j5 r0;exact hN _ ⟨t,y,l1,U4.1 r1,uf,df,Z⟩
 rintro _ ⟨t,k,l,ht,Y,hl,rfl⟩;with_reducible refine xZ (λρ=>∃(v:Nat) (y l1:Int),v<6/\0<=y/\0<=l1/\ρ=[O<|.io<|NZ ns y l1,Zt<|.list g,Yt<|.list g,Zt<|.int (a:Nat),Zt<|.int (t:Nat),Zt<|.int (v:Nat),U,U]) ?_ ?_
 .intro N hN;refine⟨ns,k,l,6,Z,Y,hl,by lia,by lia,λr y l1 _ r0 r1 uf df=>?_⟩;obtain⟨v,rfl⟩:=j5 r0;exact hN _ ⟨v,y,l1,U4.1 r1,uf,df,Z⟩
 rintro _ ⟨v,k,l,hv,Y,hl,rfl⟩;with_reducible refine xZ (λρ=>∃j:Qo,j.length=nuK c/\ρ=[O<|.io<|NZ ns k l,Zt<|.list g,Yt<|.list g,Zt<|.int (a:Nat),Zt<|.int (t:Nat),Zt<|.int (v:Nat),Yt<|.list<|j.map n0,U]) ?_ ?_
 .intro N hN;obtain⟨b,j,e,hm⟩:=R.at ha;exact⟨_,bJ e,c,b,j,Z,hm,λo=>hN _ ⟨j,hm,Z⟩⟩
 rintro _ ⟨j,ir,rfl⟩;with_reducible refine xZ (λρ=>∃(p:Nat) (y l1:Int),p<nuK c/\0<=y/\0<=l1/\ρ=[O<|.io<|NZ ns y l1,Zt<|.list g,Yt<|.list g,Zt<|.int (a:Nat),Zt<|.int (t:Nat),Zt<|.int (v:Nat),Yt<|.list<|j.map n0,Zt<|.int (p:Nat)]) ?_ ?_
 .intro N hN;have hml:((j.map n0).length:Int)=(nuK c:Nat):=by rw[l0,ir]
  refine⟨ns,k,l,((j.map n0).length:Int),Z,Y,hl,by lia,by lia,λr y l1 _ r0 r1 uf df=>?_⟩;obtain⟨p,rfl⟩:=j5 r0;exact hN _ ⟨p,y,l1,U4.1<|lt_of_lt_of_eq r1 hml,uf,df,Z⟩
 rintro _ ⟨p,k,l,hp,Y,hl,rfl⟩;have J0:∃(i:Rt) (jm:Qo),RwL c i/\i.length=g.length/\jm.length=nuK c/\i=g/\jm=j:=⟨g,j,R,Z,ir,Z,Z⟩;with_reducible refine xZ (λρ=>∃(i:Rt) (jm:Qo),RwL c i/\i.length=g.length/\jm.length=nuK c/\ρ=[O<|.io<|NZ ns k l,Zt<|.list g,Yt<|.list i,Zt<|.int (a:Nat),Zt<|.int (t:Nat),Zt<|.int (v:Nat),Yt<|.list<|jm.map n0,Zt<|.int (p:Nat)]) ?_ ?_
 .intro N hN;refine RZ (λh=>?_)<|λh=>hN _ ⟨g,j,R,Z,ir,Z⟩;have h:=Ld h;obtain⟨x,hx⟩:∃x:Int,vW [n0 1,n0<|-1] ((v:Nat):Int)=O (.int x):=by
   rcases (show v=0\/v=1 by lia) with rfl|rfl
   .exact⟨1,Z⟩
   .exact⟨-1,Z⟩
  obtain⟨b,bm,e,hm⟩:=R.at ha;refine⟨_,uV<|lt_of_lt_of_eq hp ir.symm,_,hx,p,LA (by rw[l0];omega),?_⟩;refine⟨_,bJ e,c,Er,b,bm,j.set p<|j.getD p 0+x,?_,hm,by rw[o4];exact ir,λo=>?_⟩
  .rw[EQ];rfl
  .have hw:(j.set p<|j.getD p 0+x).length=nuK c:=by rw[o4];exact ir
   exact⟨vC _ _ _,a,LA ha,hN _ ⟨g.set a<|pG c b<|j.set p<|j.getD p 0+x,j.set p<|j.getD p 0+x,R.set hw,o4 ..,hw,by rw[EQ];rfl⟩⟩
 rintro _ ⟨i,j,M,B,ir,rfl⟩;with_reducible refine xZ (λρ=>∃(i:Rt),RwL c i/\i.length=g.length/\ρ=[O<|.io<|NZ ns k l,Zt<|.list g,Yt<|.list i,Zt<|.int (a:Nat),Zt<|.int (t:Nat),Zt<|.int (v:Nat),Yt<|.list<|j.map n0,Zt<|.int (p:Nat)]) ?_ ?_
 .intro N hN;refine RZ (λh=>?_)<|λh=>hN _ ⟨i,M,B,Z⟩;obtain⟨b,bm,e,hm⟩:=M.at (show a<i.length by exact lt_of_lt_of_eq ha B.symm);obtain⟨b2,L,e2,wg⟩:=R.at ht;obtain⟨b4,ns4,e4,hm4⟩:=R.at ha;have hes':=M.set (a:=a) (b:=b) wg;obtain⟨b3,ns3,e3,hm3⟩:=hes'.at (show t<(i.set a<|pG c b L).length by rw[o4];exact lt_of_lt_of_eq ht B.symm);refine⟨_,bJ e,_,bJ e2,c,b2,L,Z,wg,λo=>?_⟩;refine⟨c,Ep,b,bm,L,Z,hm,wg,λo=>?_⟩;refine⟨a,LA<|lt_of_lt_of_eq ha B.symm,?_⟩;refine⟨_,bJ e3,_,bJ e4,c,b4,ns4,Z,hm4,λo=>?_⟩;refine⟨c,Ep,b3,ns3,ns4,Z,hm3,hm4,λo=>?_⟩;exact⟨t,LA (by rw[o4];exact lt_of_lt_of_eq ht B.symm),hN _ ⟨_,hes'.set hm4,by rw[o4,o4];exact B,Z⟩⟩
 rintro _ ⟨i,M,B,rfl⟩;with_reducible refine xZ (λρ=>∃(i:Rt),RwL c i/\i.length=g.length/\ρ=[O<|.io<|NZ ns k l,Zt<|.list g,Yt<|.list i,Zt<|.int (a:Nat),Zt<|.int (t:Nat),Zt<|.int (v:Nat),Yt<|.list<|j.map n0,Zt<|.int (p:Nat)]) ?_ ?_
 .intro N hN;refine RZ (λh=>?_)<|λh=>hN _ ⟨i,M,B,Z⟩;obtain⟨b,bm,e,hm⟩:=M.at (show a<i.length by exact lt_of_lt_of_eq ha B.symm);obtain⟨b2,L,e2,wg⟩:=R.at ht;refine⟨_,bJ e,_,bJ e2,c,b2,L,Z,wg,λo=>?_⟩;refine⟨c,Ep,b,bm,L,Z,hm,wg,λo=>?_⟩;exact⟨a,LA<|lt_of_lt_of_eq ha B.symm,hN _ ⟨_,M.set wg,by rw[o4];exact B,Z⟩⟩
 rintro _ ⟨i,M,B,rfl⟩;with_reducible refine xZ (λρ=>∃(i:Rt),RwL c i/\i.length<=g.length/\ρ=[O<|.io<|NZ ns k l,Zt<|.list g,Yt<|.list i,Zt<|.int (a:Nat),Zt<|.int (t:Nat),Zt<|.int (v:Nat),Yt<|.list<|j.map n0,Zt<|.int (p:Nat)]) ?_ ?_
 .intro N hN;refine RZ (λh=>?_)<|λh=>hN _ ⟨i,M,V0 B,Z⟩;exact⟨G3 _,U4.2<|lt_of_lt_of_eq ha B.symm,by lia,λd hd=>hN _ ⟨_,λx hx=>M x<|List.mem_of_mem_eraseIdx hx,by rw[List.length_eraseIdx];split<;>lia,Z⟩⟩
 rintro _ ⟨i,M,B,rfl⟩;exact q i k l _ M (K0 B lp) Y hl
theorem DL(k:Bool)(b:qZ)(ns:Qo):Nice 3 (pG k b ns):=by
 cases k with
 |true =>
  refine .tuple λd hd=>?_;have hd:d=VX b\/d=tupD ns:=by simpa using hd
  rcases hd with rfl|rfl
  .exact yV b
  .exact(Nice.tup ns).mono (by decide)
 |false =>
  refine .tuple λd hd=>?_;rcases R0.mp hd with rfl|hd
  .exact(Nice.tup b.1).mono (by decide)
  .rcases R0.mp hd with rfl|hd
   .exact(Nice.tup b.2).mono (by decide)
   .obtain⟨x,_,rfl⟩:=v0.mp hd;exact(Nice.int 2 x)
theorem JK(c:Bool):Nice 1 (.bool c):=by first|exact Nice.bool 1 c|exact Nice.bool 0 c|constructor
theorem Vq{k:Bool}{a:Rt}(h:RwL k a):Nice 4 (.list a):=.list λd hd=>by obtain⟨b,ns,rfl,_⟩:=h d hd;exact DL k b ns
theorem EL(k:Bool)(b c:qZ)(ns a:Qo):Ng (pG k b ns) (pG k c a)=Ep↔pG k b ns=pG k c a:=by
 refine⟨λh=>?_,λh=>by rw[h];exact Yi _⟩;cases k with
 |true=>have h:(Ng (.tuple [tupD b.1,tupD b.2]) (.tuple [tupD c.1,tupD c.2])&&(Ng (tupD ns) (tupD a)&&Ep))=true:=h;rw[aD,fW,F7,J1,J1,decide_eq_true_eq,decide_eq_true_eq,decide_eq_true_eq]at h;rw[show b=c from Prod.ext h.1.1 h.1.2,h.2]
 |false=>have h:(Ng (tupD b.1) (tupD c.1)&&(Ng (tupD b.2) (tupD c.2)&&Og (ns.map n0) (a.map n0)))=true:=h;rw[fW,fW,VJ,J1,J1,decide_eq_true_eq,decide_eq_true_eq,decide_eq_true_eq]at h;rw[show b=c from Prod.ext h.1 h.2.1,h.2.2]
theorem UP(k:Bool)(b c:qZ)(ns a:Qo):SeqAt.noMix (pG k b ns) (pG k c a)=true:=by
 cases k with
 |true=>simp[pG,SeqAt.noMix,SeqAt.noMixAll,kK]
 |false=>simp[pG,SeqAt.noMix,SeqAt.noMixAll,kK]
theorem Wq{k:Bool}:∀{ds es:Rt},RwL k ds->RwL k es->(Og ds es=Ep↔ds=es)/\SeqAt.noMixAll ds es=Ep
 |[],[],_,_=>by simp[Og,SeqAt.noMixAll]
 |[],_::_,_,_=>by simp[Og,SeqAt.noMixAll]
 |_::_,[],_,_=>by simp[Og,SeqAt.noMixAll]
 |d::ds,e::es,a,g=>by
  obtain⟨i1,i2⟩:=Wq (ds:=ds) (es:=es) (λx hx=>a x<|q0 _ hx)<|λx hx=>g x<|q0 _ hx;obtain⟨b,ns,rfl,_⟩:=a d G0;obtain⟨c,i,rfl,_⟩:=g e G0;refine⟨?_,?_⟩
  .simp only[Og,J1,List.cons.injEq];rw[EL,i1]
  .simp only[SeqAt.noMixAll,J1];exact⟨UP _ _ _ _ _,i2⟩
noncomputable def BY(k:Bool)(sd cl:Qo):Rt:=if k then (hbs sd).map (KH sd cl) else (cY sd).map (CV sd cl)
theorem wC(k:Bool)(sd cl:Qo):RwL k (BY k sd cl):=λd hd=>by
 cases k with
 |true=>obtain⟨b,_,rfl⟩:=v0.mp<|show d∈(hbs sd).map (KH sd cl) from hd;exact⟨b,IU sd cl b,Z,Z⟩
 |false=>obtain⟨b,_,rfl⟩:=v0.mp<|show d∈(cY sd).map (CV sd cl) from hd;exact⟨b,v2 sd cl b,Z,Z⟩
theorem xC{k:Bool}{sd:Qo}{b:qZ}(a:Bx b.1 b.2 sd):BY k sd cl≠[]:=by
 cases k with
 |true=>obtain⟨c,d⟩:=U9 _<|OB a;exact FX<|v0.mpr ⟨c,Fk a d,Z⟩
 |false=>obtain⟨c,d⟩:=U9 _<|Qk b.1 b.2;exact FX<|v0.mpr ⟨c,pcs_mem.mpr<|bY a d,Z⟩
theorem QA(k:Bool)(b:qZ)(ns:Qo):WH (pG k b ns)=true:=by
 cases k with
 |true =>
  refine dW λd hd=>?_;have hd:d=VX b\/d=tupD ns:=by simpa using hd
  rcases hd with rfl|rfl
  .exact sB b.1 b.2
  .exact vV ns
 |false =>
  refine dW λd hd=>?_;rcases R0.mp hd with rfl|hd
  .exact vV _
  .rcases R0.mp hd with rfl|hd
   .exact vV _
   .obtain⟨x,_,rfl⟩:=v0.mp hd;rfl
theorem VP{k:Bool}{a:Rt}(h:RwL k a):WH (.list a)=true:=dW λd hd=>by obtain⟨b,ns,rfl,_⟩:=h d hd;exact QA k b ns
variable (P w K mg base) in
structure CalsLb:Prop where
 No:Cal P w K mg base 2 "_law_answer" ["_law_known","_law_box_here"] (QX K PP)
 Np:Cal P w K mg base 6 "holds_halves" ["field","thing"] (QX K Wb)
 Nr:Cal P w K mg base 4 "by_halves" ["sides","table","box"] (QX K Ma)
 Nt:Cal P w K mg base 5 "holds_powers" ["field","thing"] (QX K jc)
 Mo:Cal P w K mg base 4 "by_powers" ["sides","table","box"] (QX K Ra)
def Cc:Con:=λa Q=>∃(c:Bool) (sd cl:Qo) (b:qZ) (d:Rt),a=[.fz<|dJ sd cl,.fz<|uU<|PZ sd cl,.fz<|.list<|BY c sd cl,.fz<|.list d,.fz<|VX b]/\Sd sd/\cl.length=(tJ sd).length/\Bx b.1 b.2 sd/\RwL c d/\∀o,Q (.fz<|.bool Ep) o
theorem RA(F:Rr K "_law_let_by" (top 78) f fd)(T:Txt mg)(C:CalsLb P w K mg base):FnOk P w K mg base mJ 7 f fd ["_law_field_here","_law_known","_law_table","_law_some","_law_box_here"] (QX K Cc):=by
 have S:FnScope ["_law_field_here","_law_known","_law_table","_law_some","_law_box_here","_law_due","_law_found","_law_told"] ["_law_field_here","_law_known","_law_table","_law_some","_law_box_here"] (SX<|top 78):={};refine IJ F S (λke A outer s H E k=>RX (tZ 5<|dZ C.No k.m<|hZ 1<|aZ 4)<|RX (lJ (YV k (wx<|WJ T.Qp<|TX<|ZX (wn 2) UX) UX) (RX (tZ 6<|dZ C.Np k.m<|hZ 0<|aZ 3)<|RX (RV (i:=7) S.nd Z (Or.inl Z)<|wn 5)<|AZ<|lJ (NJ<|wv 6) (AZ<|tZ 7<|dZ C.Nr k.m<|iZ (ZX (wn 0) UX)<|hZ 3<|aZ 4) GZ)<|RX (tZ 6<|dZ C.Nt k.m<|hZ 0<|aZ 3)<|RX (tZ 5<|zu Z (wn 5) UX)<|RX (RV (i:=7) S.nd Z (Or.inl Z)<|wn 5)<|AZ<|lJ (NJ<|wv 6) (AZ<|tZ 7<|dZ C.Mo k.m<|iZ (ZX (wn 0) UX)<|hZ 3<|aZ 4) GZ)<|sZ<|LD (FS .bl Z T.Zp T.Xr boot_bool<|wn 6)<|LD (SY RY (AK (K:=K) Z k.units) (wn 6)<|wx<|SY RY (AK (K:=K) Z k.units) (wn 3)<|wn 2)<|tu<|SY RY (AK (K:=K) Z k.units) (wn 7)<|wn 5) ?_;rintro Y Qd ⟨c,sd,cl,b,j,rfl,x,L,G,M,q⟩;with_reducible refine xZ (λρ=>ρ=[Zt<|dJ sd cl,Zt<|uU<|PZ sd cl,Zt<|.list<|BY c sd cl,Zt<|.list j,Zt<|VX b,Zt<|tupD<|IU sd cl b,U,U]) ?_ ?_
 .intro N hN;exact⟨sd,cl,b,Z,x,L,G,λo=>hN _ Z⟩
 rintro _ rfl;have hx:=wC c sd cl;obtain⟨R,v,e0,y⟩:=hx.at (a:=0)<|c5.mpr<|xC G;have yo:vW (BY c sd cl) 0=O (pG c R v):=bJ e0;have B:=VP M;with_reducible refine xZ (λρ=>∃(t:Bool) (dl:Qo),(t=Ep↔j=BY c sd cl)/\ρ=[Zt<|dJ sd cl,Zt<|uU<|PZ sd cl,Zt<|.list<|BY c sd cl,Zt<|.list j,Zt<|VX b,Zt<|tupD dl,Zt<|.bool t,Zt<|tupD dl]) ?_ ?_
 .intro N hN;cases c with
  |true =>
   refine⟨_,yo,?_⟩;refine⟨sd,cl,.list j,Z,B,x,L,λt o g=>?_⟩;have g:t=Ep↔j=BY Ep sd cl:=g.trans ⟨λh=>(by injection h),λh=>(by rw[h];rfl)⟩;cases t with
   |true=>have e:=g.mp Z;subst e;exact⟨_,Z,sd,cl,b.1,b.2,Z,x,G,λo=>hN _ ⟨Ep,_,g,Z⟩⟩
   |false=>exact hN _ ⟨Er,_,g,Z⟩
  |false =>
   refine⟨_,yo,?_⟩;have hl0:v.length=2:=y;refine RZ (λh=>?_)<|λh=>?_
   .have h:Es (((tupD R.1::tupD R.2::v.map n0).length:Int)=2)=true:=h;have h:=Ld h;simp at h
    lia
   refine⟨sd,cl,.list j,Z,B,x,L,λt o g=>?_⟩;have g:t=Ep↔j=BY Er sd cl:=g.trans ⟨λh=>(by injection h),λh=>(by rw[h];rfl)⟩;refine⟨by decide,X2 1 2,?_⟩;cases t with
   |true=>have e:=g.mp Z;subst e;exact⟨_,Z,sd,cl,b.1,b.2,Z,x,G,λo=>hN _ ⟨Ep,[GJ<|jZ sd cl b.1 b.2,HJ<|jZ sd cl b.1 b.2],g,Z⟩⟩
   |false=>exact hN _ ⟨Er,[GJ<|jZ sd cl b.1 b.2,HJ<|jZ sd cl b.1 b.2],g,Z⟩
 rintro _ ⟨t,dl,g,rfl⟩;have n1:=Vq M;have n2:=Vq hx;obtain⟨s1,s2⟩:=Wq M hx;have es:Ng (.list j) (.list<|BY c sd cl)=t:=by
  show Og j (BY c sd cl)=t;cases t with
  |true=>exact s1.mpr<|g.mp Z
  |false =>
   cases e:Og j (BY c sd cl) with
   |false=>rfl
   |true=>exact absurd (g.mpr<|s1.mp e) (by decide)
 have l:=Nice.tup dl;have e1:Ng (tupD dl) (tupD dl)=true:=Yi _;refine⟨n1.p,n2.p,n1.sh<|by decide,n2.sh<|by decide,s2,?_⟩;rw[show Ng (P2 j) (Sl.fz<|P2<|BY c sd cl).d=t from es];rw[<-e1]at q;cases t with
 |true=>exact⟨(JK Ep).p,(JK Ep).p,(JK Ep).sh<|by decide,(JK Ep).sh<|by decide,Z,l.p,l.p,l.sh<|by decide,l.sh<|by decide,tK dl dl,q _⟩
 |false=>exact⟨(JK Er).p,(JK Er).p,(JK Er).sh<|by decide,(JK Er).sh<|by decide,Z,l.p,l.p,l.sh<|by decide,l.sh<|by decide,tK dl dl,q _⟩
variable (P w K mg base) in
structure CalsTr:Prop where
 No:Cal P w K mg base 2 "_law_answer" ["_law_known","_law_box_here"] (QX K PP)
 Nr:Cal P w K mg base 4 "by_halves" ["sides","table","box"] (QX K Ma)
 Mo:Cal P w K mg base 4 "by_powers" ["sides","table","box"] (QX K Ra)
 Mp:Cal P w K mg base 7 "sum_in" ["field","box"] (QX K sC)
 Mr:Cal P w K mg base 7 "least_in" ["field","box"] (QX K Rq)
 Ms:Cal P w K mg base 7 "greatest_in" ["field","box"] (QX K Tq)
def Dc:Con:=λa Q=>∃(sd cl:Qo) (b:qZ),a=[.fz<|dJ sd cl,.fz<|uU<|PZ sd cl,.fz<|.list<|BY Ep sd cl,.fz<|.list<|BY Er sd cl,.fz<|VX b]/\Sd sd/\cl.length=(tJ sd).length/\Bx b.1 b.2 sd/\∀o,Q (.fz<|.bool Ep) o
theorem SA(F:Rr K "_law_truly" (top 79) f fd)(T:Txt mg)(C:CalsTr P w K mg base):FnOk P w K mg base mJ 8 f fd ["_law_field_here","_law_known","_law_halves","_law_powers","_law_box_here"] (QX K Dc):=by
 have S:FnScope ["_law_field_here","_law_known","_law_halves","_law_powers","_law_box_here","_law_due"] ["_law_field_here","_law_known","_law_halves","_law_powers","_law_box_here"] (SX<|top 79):={};refine IJ F S (λt A outer s H E a=>RX (tZ 5<|dZ C.No a.m<|hZ 1<|aZ 4)<|RX (lJ (Hw<|vU (oq a (wx<|dZ C.Nr a.m<|iZ (ZX (wn 0) UX)<|hZ 2<|aZ 4)<|wn 5)<|xW<|oq a (wx<|dZ C.Mo a.m<|iZ (ZX (wn 0) UX)<|hZ 3<|aZ 4)<|wx<|zu Z (wn 5) UX) (sZ EW) GZ)<|sZ<|SY RY (AK (K:=K) Z a.units) (wx<|DZ<|iZ (dZ C.Mp a.m<|hZ 0<|aZ 4)<|iZ (dZ C.Mr a.m<|hZ 0<|aZ 4)<|TX<|dZ C.Ms a.m<|hZ 0<|aZ 4)<|wn 5) ?_;rintro j v ⟨sd,cl,b,rfl,d,g,e,q⟩;with_reducible refine xZ (λρ=>ρ=[Zt<|dJ sd cl,Zt<|uU<|PZ sd cl,Zt<|.list<|BY Ep sd cl,Zt<|.list<|BY Er sd cl,Zt<|VX b,Zt<|tupD<|IU sd cl b]) ?_ ?_
 .intro N hN;exact⟨sd,cl,b,Z,d,g,e,λo=>hN _ Z⟩
 rintro _ rfl;have c:=Nice.tup<|IU sd cl b;have i:=Nice.tup [GJ<|jZ sd cl b.1 b.2,HJ<|jZ sd cl b.1 b.2];have k:Ng (tupD<|IU sd cl b) (tupD<|IU sd cl b)=true:=Yi _;have l:Ng (tupD [GJ<|jZ sd cl b.1 b.2,HJ<|jZ sd cl b.1 b.2]) (tupD [GJ<|jZ sd cl b.1 b.2,HJ<|jZ sd cl b.1 b.2])=true:=Yi _;with_reducible refine xZ (λρ=>ρ=[Zt<|dJ sd cl,Zt<|uU<|PZ sd cl,Zt<|.list<|BY Ep sd cl,Zt<|.list<|BY Er sd cl,Zt<|VX b,Zt<|tupD<|IU sd cl b]) ?_ ?_
 .intro N hN;refine⟨_,Z,sd,cl,b.1,b.2,Z,d,e,λo=>?_⟩;refine⟨c.p,c.p,c.sh<|by decide,c.sh<|by decide,tK _ _,RZ (λh=>?_)<|λh=>?_⟩
  .have h:(!same (tupD<|IU sd cl b) (tupD<|IU sd cl b))=true:=h;rw[k]at h;cases h
  refine⟨_,Z,sd,cl,b.1,b.2,Z,d,e,λo=>?_⟩;refine⟨by decide,X2 1 2,i.p,i.p,i.sh<|by decide,i.sh<|by decide,tK _ _,RZ (λh=>?_)<|λh=>hN _ Z⟩;have h:(!same (tupD [GJ<|jZ sd cl b.1 b.2,HJ<|jZ sd cl b.1 b.2]) (tupD [GJ<|jZ sd cl b.1 b.2,HJ<|jZ sd cl b.1 b.2]))=true:=h;rw[l]at h;cases h
 rintro _ rfl;refine⟨sd,cl,b.1,b.2,Z,d,g,e,λo=>?_⟩;refine⟨sd,cl,b.1,b.2,Z,d,g,e,λo=>?_⟩;refine⟨sd,cl,b.1,b.2,Z,d,g,e,λo=>?_⟩;rw[<-k]at q;exact⟨c.p,c.p,c.sh<|by decide,c.sh<|by decide,tK (IU sd cl b)<|IU sd cl b,q _⟩
variable (P w K mg base) in
structure CalsL:Prop where
 Lo:Cal P w K mg base 1 "_law_pen" ["_law_script"] (QX K CT)
 Wp:Cal P w K mg base 1 "_law_take" ["_law_pen_here","_law_most"] (QX K Px)
 Lp:Cal P w K mg base 3 "_law_field" ["_law_pen_here"] (QX K DB)
 Lr:Cal P w K mg base 7 "halves_of" ["field"] (QX K Kb)
 Ls:Cal P w K mg base 8 "powers_of" ["field"] (QX K fc)
 Pp:Cal P w K mg base 2 "_law_box" ["_law_pen_here","_law_sides_here"] (QX K jA)
 Pr:Cal P w K mg base 2 "_law_bent" ["_law_pen_here","_law_table"] (QX K Bc)
 Ps:Cal P w K mg base 7 "_law_let_by" ["_law_field_here","_law_known","_law_table","_law_some","_law_box_here"] (QX K Cc)
 Pt:Cal P w K mg base 4 "all_boxes" ["sides"] (QX K IM)
 Rp:Cal P w K mg base 8 "_law_truly" ["_law_field_here","_law_known","_law_halves","_law_powers","_law_box_here"] (QX K Dc)
def yC:Con:=λa Q=>∃ns:Qo,a=[.fz<|jY ns]/\ns.length<=63/\∀o,Q (.fz<|.bool Ep) o
theorem FL{K:M0}{a:Hd}{ns:Qo}(hl:ns.length<=63)(h:SqL K H a (ns.map V.int)):QX K yC [.ref a] H (λv _=>v=.bl Ep) λ_ _ _=>Fo:=by
 refine⟨⟨H,H,λ_=>U⟩,H,[.fz<|jY ns],λr _=>r=.fz (.bool Ep),?_,⟨ns,Z,hl,λ_=>rfl⟩,?_⟩
 .refine⟨Z,Sub.refl _,Sub.refl _,λa o h=>.inl h,λa o h _=>h,?_,?_,?_,?_,?_,?_⟩
  .intro i d e;cases i with
   |zero=>cases e;exact⟨_,Z,.scr h⟩
   |succ i=>cases e
  .intro i s e w;cases i with
   |zero=>cases e;cases w
   |succ i=>cases e
  .intro i d a e;cases i with
   |zero=>cases e
   |succ i=>cases e
  .intro i a e;cases e
  .intro i d e;cases i with
   |zero=>cases e
   |succ i=>cases e
  .intro i j s t a e w;cases i with
   |zero=>cases e;cases w
   |succ i=>cases e
 .intro v k c r g _ _ b e;subst e;have b:Da K c v (.bool Ep):=b;cases b;rfl
theorem WP(F:Rr K "law" (top 80) f fd)(T:Txt mg)(C:CalsL P w K mg base):FnOk P w K mg base mJ 9 f fd ["_law_script"] (QX K yC):=by
 have S:FnScope ["_law_script","_law_pen_here","_law_k","_law_field_here","_law_known","_law_halves","_law_powers","_law_boxes","_law_turn","_law_table","_law_box_here"] ["_law_script"] (SX<|top 80):={};refine IJ F S (λke A outer s H E y=>RX (tZ 1<|dZ C.Lo y.m<|aZ 0)<|RX (aW [2,5,6,7,10,3,4] (FW T.Xs<|TX yZ) (HZ 2)<|RX (LO (wJ C.Lp y.m<|aZ 1)<|pK Z rfl<|lZ (HZ 3)<|lZ (HZ 4) EJ)<|RX (tZ 5<|dZ C.Lr y.m<|aZ 3)<|RX (tZ 6<|dZ C.Ls y.m<|aZ 3)<|RX (GW (i:=7) S.nd Z Z Z (own:=["_law_turn"]) (fr:=[1,3]) (by kernel_rfl) (FW T.Xs<|TX<|JJ UX<|wx<|wJ C.Wp y.m<|hZ 1<|TX yZ) (λ_ _ _ _=>HZ 0) (λ_ _ _ _=>RL)<|λ_ _ _ _=>wJ C.Pp y.m<|hZ 1<|TX<|ZX (wn 2) UX)<|RX (aW [8,9] (FW T.Xs<|TX<|JJ UX<|wx<|wJ C.Wp y.m<|hZ 1<|TX yZ) (HZ 8)<|AZ<|aW [9] (CZ rfl<|DZ<|iZ (wv 5)<|TX<|wv 6) (HZ 9)<|AZ<|lJ (ZJ<|NJ<|dZ C.Ps y.m<|hZ 3<|hZ 4<|hZ 9<|iZ (wJ C.Pr y.m<|hZ 1<|aZ 9)<|TX<|ZX (wn 7)<|wx<|mH UX) (sZ EW) GZ)<|RX (lJ (rJ hU UW (wx<|kZ UI cv T.Qp PySem.boot_len<|aZ 4) UX) (AZ<|tZ 7<|dZ C.Pt y.m<|TX<|ZX (wn 3) UX) GZ)<|AZ<|aW [10] (CZ rfl<|wv 7) (HZ 10)<|AZ<|lJ (ZJ<|NJ<|dZ C.Rp y.m<|hZ 3<|hZ 4<|hZ 5<|hZ 6<|aZ 10) (sZ EW) GZ)<|sZ EW) ?_;rintro args Qd ⟨ns,rfl,hn,q⟩;with_reducible refine xZ (λρ=>ρ=[Zt<|jY ns,Yt<|NZ ns 0 0,U,U,U,U,U,U,U,U,U]) ?_ ?_
 .intro N hN;exact⟨ns,Z,λo=>hN _ Z⟩
 rintro _ rfl;with_reducible refine xZ (λρ=>∃a b:Int,ρ=[Zt<|jY ns,Yt<|NZ ns a b,U,U,U,U,U,U,U,U,U]) ?_ ?_
 rotate_left
 .rintro _ ⟨a,b,rfl⟩;exact q _
 intro N0 hN0;refine⟨by decide,by decide,?_⟩;generalize wZ 0 (2:Int).toNat=L;refine YJ (λrest ρ=>∃a b:Int,0<=a/\0<=b/\ρ=[Zt<|jY ns,Yt<|NZ ns a b,U,U,U,U,U,U,U,U,U]) ?_ ?_ ⟨0,0,by decide,by decide,Z⟩
 rotate_left
 .rintro ρ ⟨a,b,_,_,rfl⟩;exact hN0 _ ⟨a,b,Z⟩
 rintro d ds ρ ⟨a,b,ha,hb,rfl⟩ N hN;with_reducible refine kT Z ?_
 with_reducible refine xZ (λρ=>∃(sd cl:Qo) (a b:Int),Sd sd/\cl.length=(tJ sd).length/\(∀c∈cl,iR c)/\0<=a/\0<=b/\ρ=[Zt<|jY ns,Yt<|NZ ns a b,Zt d,Zt<|dJ sd cl,Zt<|uU<|PZ sd cl,U,U,U,U,U,U]) ?_ ?_
 .intro M l;exact⟨ns,a,b,Z,ha,hb,λsd cl a1 b1 o v Y hB zg yg=>⟨Z,l _ ⟨sd,cl,a1,b1,v,Y,hB,zg,yg,Z⟩⟩⟩
 rintro _ ⟨sd,cl,a,b,v,Y,hB,ha,hb,rfl⟩;with_reducible refine xZ (λρ=>ρ=[Zt<|jY ns,Yt<|NZ ns a b,Zt d,Zt<|dJ sd cl,Zt<|uU<|PZ sd cl,Yt<|.list<|BY Ep sd cl,U,U,U,U,U]) ?_ ?_
 .intro M l;exact⟨sd,cl,Z,v,Y,λo=>l _ Z⟩
 rintro _ rfl;with_reducible refine xZ (λρ=>ρ=[Zt<|jY ns,Yt<|NZ ns a b,Zt d,Zt<|dJ sd cl,Zt<|uU<|PZ sd cl,Yt<|.list<|BY Ep sd cl,Yt<|.list<|BY Er sd cl,U,U,U,U]) ?_ ?_
 .intro M l;exact⟨sd,cl,Z,v,Y,λo=>l _ Z⟩
 rintro _ rfl;with_reducible refine xZ (λρ=>∃(bs:List qZ) (a b:Int),bs≠[]/\(∀c∈bs,Bx c.1 c.2 sd)/\0<=a/\0<=b/\ρ=[Zt<|jY ns,Yt<|NZ ns a b,Zt d,Zt<|dJ sd cl,Zt<|uU<|PZ sd cl,Yt<|.list<|BY Ep sd cl,Yt<|.list<|BY Er sd cl,Yt<|.list<|bs.map VX,U,U,U]) ?_ ?_
 .intro M l;refine⟨ns,a,b,6,Z,ha,hb,by decide,by decide,λr a1 b1 _ r0 r1 zg yg=>?_⟩;refine⟨by lia,by lia,by rw[wZ,l0,v5];exact WX<|by lia,HG (λrest acc τ=>∃(g:List qZ) (a b:Int),acc=g.map VX/\g.length+rest.length=(1+r).toNat/\(∀c∈g,Bx c.1 c.2 sd)/\τ=[U,O<|.io<|NZ ns a b,Zt<|dJ sd cl]/\0<=a/\0<=b) ?_ ?_ ⟨[],a1,b1,Z,by rw[wZ,l0,v5];simp,λc hc=>(by cases hc),Z,zg,yg⟩⟩
  .rintro e es acc τ ⟨g,a2,b2,rfl,je,xi,rfl,gg,ng⟩ N' we;refine⟨_,Z,ns,a2,b2,sd,Z,gg,ng,v,λlo hi a3 b3 o ff B G=>?_⟩;refine we _ _ ⟨g++[(lo,hi)],a3,b3,by simp[Sl.d],by simp at je ⊢;lia,λc hc=>?_,Z,B,G⟩;rcases B2.mp hc with z|z
   .exact xi c z
   .rw[T1.mp z];exact ff
  .rintro acc τ ⟨g,a2,b2,rfl,je,xi,rfl,gg,ng⟩;exact l _ ⟨g,a2,b2,λz=>(by rw[z]at je;simp at je;lia),xi,gg,ng,Z⟩
 rintro _ ⟨bs,a,b,hbs0,R,ha,hb,rfl⟩;with_reducible refine xZ (λρ=>∃(j k:Sl) (a b:Int),((j=.ow (.list<|BY Ep sd cl)/\k=.ow (.list<|BY Er sd cl))\/(j=.fz (.list<|BY Ep sd cl)/\k=.fz (.list<|BY Er sd cl)))/\0<=a/\0<=b/\ρ=[Zt<|jY ns,Yt<|NZ ns a b,Zt d,Zt<|dJ sd cl,Zt<|uU<|PZ sd cl,O j,O k,Yt<|.list<|bs.map VX,U,U,U]) ?_ ?_
 .intro M l;obtain⟨bi,bl,eb⟩:∃bi bl,bs=bi++[bl]:=⟨bs.dropLast,bs.getLast hbs0,(List.dropLast_concat_getLast hbs0).symm⟩;have og:=R bl (by rw[eb];simp);have yo:vW (bs.map VX) (-1)=O (VX bl):=by rw[eb,u4];exact my _ _
  have je:∀c,(BY c sd cl).length<=20000:=λc=>by
   cases c with
   |true=>show ((hbs sd).map<|KH sd cl).length<=_;rw[l0];have:=HU v;lia
   |false=>show ((cY sd).map<|CV sd cl).length<=_;rw[l0];have:=MU v;lia
  refine⟨ns,a,b,4,Z,ha,hb,by decide,by decide,λr a1 b1 _ r0 r1 zg yg=>⟨by lia,by lia,?_⟩⟩;generalize wZ 0 (2+r).toNat=L2;refine YJ (λrest ρ=>∃(j k:Sl) (a b:Int),((j=.ow (.list<|BY Ep sd cl)/\k=.ow (.list<|BY Er sd cl))\/(j=.fz (.list<|BY Ep sd cl)/\k=.fz (.list<|BY Er sd cl)))/\0<=a/\0<=b/\ρ=[Zt<|jY ns,Yt<|NZ ns a b,Zt d,Zt<|dJ sd cl,Zt<|uU<|PZ sd cl,O j,O k,Yt<|.list<|bs.map VX,U,U,U]) ?_ ?_ ⟨_,_,a1,b1,.inl ⟨Z,Z⟩,zg,yg,Z⟩
  rotate_left
  .rintro ρ ⟨j,k,a2,b2,hx,gg,ng,rfl⟩;exact l _ ⟨j,k,a2,b2,hx,gg,ng,Z⟩
  rintro e es ρ ⟨j,k,a2,b2,hx,gg,ng,rfl⟩ N2 gm;with_reducible refine kT Z ?_
  rcases hx with⟨rfl,rfl⟩|⟨rfl,rfl⟩;all_goals
   refine YJ (λrest ρ=>∃(g:List Bool) (a b:Int),rest=g.map (λc=>P2<|BY c sd cl)/\0<=a/\0<=b/\ρ=[Zt<|jY ns,Yt<|NZ ns a b,Zt d,Zt<|dJ sd cl,Zt<|uU<|PZ sd cl,Zt<|.list<|BY Ep sd cl,Zt<|.list<|BY Er sd cl,Yt<|.list<|bs.map VX,Zt e,U,U]) ?_ ?_ ⟨[Ep,Er],a2,b2,Z,gg,ng,Z⟩
   rotate_left
   .rintro ρ ⟨g,a3,b3,er,B,G,rfl⟩;exact gm _ ⟨_,_,a3,b3,.inr ⟨Z,Z⟩,B,G,Z⟩
   rintro t ts ρ ⟨g,a3,b3,er,B,G,rfl⟩ N3 hN3;cases g with
   |nil=>cases er
   |cons c g =>
    cases er;with_reducible refine kT Z ?_
    refine⟨ns,a3,b3,c,BY c sd cl,Z,B,G,xC og,je c,wC c sd cl,λfs a4 b4 o hfs hfl ha4 hb4=>?_⟩;refine⟨_,yo,c,sd,cl,bl,fs,Z,v,Y,og,hfs,λo=>?_⟩;exact hN3 _ ⟨g,a4,b4,Z,ha4,hb4,Z⟩
 rintro _ ⟨j,k,a,b,hx,ha,hb,rfl⟩;with_reducible refine xZ (λρ=>∃(bs:List qZ),(∀c∈bs,Bx c.1 c.2 sd)/\ρ=[Zt<|jY ns,Yt<|NZ ns a b,Zt d,Zt<|dJ sd cl,Zt<|uU<|PZ sd cl,O j,O k,Yt<|.list<|bs.map VX,U,U,U]) ?_ ?_
 .intro M l;refine RZ (λh=>?_)<|λh=>l _ ⟨bs,R,Z⟩;have h:=Ld h;rw[l0]at h;have e:(PZ sd cl).length=(tJ sd).length:=by unfold PZ;rw[l0,U1];exact E5<|V0 Y.symm
  have ye:=xY v.p;refine⟨_,Z,sd,Z,v,by lia,λbs o h1 h2=>l _ ⟨bs,h1,Z⟩⟩
 rintro _ ⟨bs,R,rfl⟩;refine YJ (λrest ρ=>∃g:List qZ,rest=g.map VX/\(∀c∈g,Bx c.1 c.2 sd)/\ρ=[Zt<|jY ns,Yt<|NZ ns a b,Zt d,Zt<|dJ sd cl,Zt<|uU<|PZ sd cl,O j,O k,Zt<|.list<|bs.map VX,U,U,U]) ?_ ?_ ⟨bs,Z,R,Z⟩
 .rintro e es ρ ⟨g,er,xi,rfl⟩ N2 gm;cases g with
  |nil=>cases er
  |cons c g =>
   cases er;with_reducible refine kT Z ?_
   have hc:=xi c G0;rcases hx with⟨rfl,rfl⟩|⟨rfl,rfl⟩
   .exact⟨sd,cl,c,Z,v,Y,hc,λo=>⟨Z,gm _ ⟨g,Z,λx hx=>xi x<|q0 _ hx,Z⟩⟩⟩
   .exact⟨sd,cl,c,Z,v,Y,hc,λo=>gm _ ⟨g,Z,λx hx=>xi x<|q0 _ hx,Z⟩⟩
 .rintro ρ ⟨g,er,xi,rfl⟩;rcases hx with⟨rfl,rfl⟩|⟨rfl,rfl⟩;all_goals exact hN _ ⟨a,b,ha,hb,rfl⟩
theorem Sa(h:p []):∀us:Et,us.length=0->p us:=λus e=>by
 cases us with
 |nil=>exact h
 |cons x us=>cases e
theorem len1(h:∀a,p [a]):∀us:Et,us.length=1->p us:=λus e=>by
 cases us with
 |nil=>cases e
 |cons x us=>exact Sa (p:=λl=>p (x::l)) (h x) us<|k8 e
theorem len2(h:∀b a,p [b,a]):∀us:Et,us.length=2->p us:=λus e=>by
 cases us with
 |nil=>cases e
 |cons x us=>exact len1 (p:=λl=>p (x::l)) (λa=>h x a) us<|k8 e
theorem UA(h:∀c a b,p [c,a,b]):∀us:Et,us.length=3->p us:=λus e=>by
 cases us with
 |nil=>cases e
 |cons x us=>exact len2 (p:=λl=>p (x::l)) (λa b=>h x a b) us<|k8 e
theorem Ta(h:∀d a b c,p [d,a,b,c]):∀us:Et,us.length=4->p us:=λus e=>by
 cases us with
 |nil=>cases e
 |cons x us=>exact UA (p:=λl=>p (x::l)) (λa b c=>h x a b c) us<|k8 e
theorem Ua(h:∀g a b c d,p [g,a,b,c,d]):∀us:Et,us.length=5->p us:=λus e=>by
 cases us with
 |nil=>cases e
 |cons x us=>exact Ta (p:=λl=>p (x::l)) (λa b c d=>h x a b c d) us<|k8 e
structure Df(K:M0)(mg:Str->Do Cd)(y x:Str)(st:Xg)(f:Hd)(d:Tg):Prop where
 F:Fun K x x st f d
 m:mg y=O (.ref f)
 k:i7 K (.ref f)=Ep
section
variable {K:M0}{mg:Str->Do Cd}
theorem df_mk(X:K.In h)(G:h.Ns Zd mg){y x:Str}{st:Xg}{f:Hd}{j:Cd}{od d:Do Hd}{m:Eo (Do Cd)}{kV e g b i:Cd}(a:J4 K Zd y=O (O<|.ref f))(l:K.lookup f=O ⟨j,od,.func<|u7 x x (fY st) (PJ st) (SX st) .none kV e g d b i,m⟩)(c:M9 K b x=Ep)(k:i7 K (.ref f)=Ep):Df K mg y x st f (u7 x x (fY st) (PJ st) (SX st) .none kV e g d b i):=⟨CN l c k,PySem.W.mg_of X G a,k⟩
theorem BZ(P:De)(w:Be)(base:Ke){k:Nat}{y x:Str}{a:Oo}{c:Sp}{st:Xg}{f:Hd}{d:Tg}(D:Df K mg y x st f d)(h:FnOk P w K mg base mJ k f d a c)(b:∀(kV e g:Cd) (i:Do Hd) (j l:Cd) (us:Et),us.length=a.length->bindArgs (u7 x x (fY st) (PJ st) (SX st) .none kV e g i j l) ⟨us,[]⟩=pure (a.zip us):=by first|exact λ_ _ _ _ _ _=>len1 λ_=>rfl|exact λ_ _ _ _ _ _=>len2 λ_ _=>rfl|exact λ_ _ _ _ _ _=>UA λ_ _ _=>rfl|exact λ_ _ _ _ _ _=>Ua λ_ _ _ _ _=>rfl):Cal P w K mg base k y a c:=⟨⟨f,d,h,D.m,D.k,D.F.binds b⟩⟩
end
theorem all_mk{l:NQ}{w:Be}{K:M0}{mg:Str->Do Cd}{fa f0 f1 f2 f3 f4 f5 f6 f7 f8 f9 f10 f11 f12 f13 f14 f15 f16 f17 f18 f19 f20 f21 f22 f23 f24 f25 f26 f27 f28 f29 f30 f31 f32 f33 f34 f35 f36 f37 f38 f39 f40 f41 f42 f43 f44 f45 f46 f47 f48 f49 f50 f51 f52 f53 f54 f55 f56 f57 f58 f59 f60 f61 f62 f63 f64 f65 f66:Hd}{d0 d1 d2 d3 d4 d5 d6 d7 d8 d9 d10 d11 d12 d13 d14 d15 d16 d17 d18 d19 d20 d21 d22 d23 d24 d25 d26 d27 d28 d29 d30 d31 d32 d33 d34 d35 d36 d37 d38 d39 d40 d41 d42 d43 d44 d45 d46 d47 d48 d49 d50 d51 d52 d53 d54 d55 d56 d57 d58 d59 d60 d61 d62 d63 d64 d65 j:Tg}(X:K.In h)(G:h.Ns Zd mg)(hfa:mg "law"=O (.ref fa))(D0:Df K mg "_law_pen" "_law_pen" (top 66) f0 d0) (D1:Df K mg "_law_take" "_law_take" (top 67) f1 d1) (D2:Df K mg "_law_sides" "_law_sides" (top 69) f2 d2) (D3:Df K mg "_law_places" "_law_places" (top 70) f3 d3) (D4:Df K mg "_law_number" "_law_number" (top 68) f4 d4) (D5:Df K mg "_law_field" "_law_field" (top 71) f5 d5) (D6:Df K mg "one_of_each" "one_of_each" (top 6) f6 d6) (D7:Df K mg "box_of" "box_of" (top 30) f7 d7) (D8:Df K mg "boxes_by" "boxes_by" (top 31) f8 d8) (D9:Df K mg "two_halves" "two_halves" (top 21) f9 d9) (k:Df K mg "stretches" "stretches" (top 22) f10 d10) (q:Df K mg "half_boxes" "half_boxes" (top 32) f11 d11) (t:Df K mg "is_whole" "is_whole" (top 4) f12 d12) (x:Df K mg "are_wholes" "are_wholes" (top 5) f13 d13) (y:Df K mg "is_place" "is_place" (top 12) f14 d14) (B:Df K mg "is_box" "is_box" (top 13) f15 d15) (C:Df K mg "ask_for_box" "ask_for_box" (top 14) f16 d16) (L:Df K mg "places_between" "places_between" (top 7) f17 d17) (M:Df K mg "index_of" "index_of" (top 8) f18 d18) (R:Df K mg "cells_in" "cells_in" (top 25) f19 d19) (S:Df K mg "told_of" "told_of" (top 34) f20 d20) (Y:Df K mg "halves_of" "halves_of" (top 33) f21 d21) (D22:Df K mg "first_place" "first_place" (top 15) f22 d22) (D23:Df K mg "last_place" "last_place" (top 16) f23 d23) (D24:Df K mg "all_places" "all_places" (top 18) f24 d24) (D25:Df K mg "greatest_power" "greatest_power" (top 50) f25 d25) (D26:Df K mg "all_pieces" "all_pieces" (top 51) f26 d26) (D27:Df K mg "two_to" "two_to" (top 49) f27 d27) (D28:Df K mg "entry_of" "entry_of" (top 53) f28 d28) (D29:Df K mg "powers_of" "powers_of" (top 52) f29 d29) (D30:Df K mg "_law_box" "_law_box" (top 73) f30 d30) (D31:Df K mg "_law_numbers" "_law_numbers" (top 74) f31 d31) (D32:Df K mg "_law_with" "_law_with" (top 75) f32 d32) (D33:Df K mg "_law_bent" "_law_bent" (top 76) f33 d33) (D34:Df K mg "_law_within" "_law_within" (top 72) f34 d34) (D35:Df K mg "_law_answer" "_law_answer" (top 77) f35 d35) (D36:Df K mg "is_entry_tables" "is_entry" (top 38) f36 d36) (D37:Df K mg "long_ways" "long_ways" (top 43) f37 d37) (D38:Df K mg "thrice" "thrice" (top 42) f38 d38) (D39:Df K mg "cell_at" "cell_at" (top 17) f39 d39) (D40:Df K mg "replaced" "replaced" (top 9) f40 d40) (D41:Df K mg "with_stretch" "with_stretch" (top 45) f41 d41) (D42:Df K mg "put_together_tables" "put_together" (top 35) f42 d42) (D43:Df K mg "from_halves" "from_halves" (top 44) f43 d43) (D44:Df K mg "is_right_tables" "is_right" (top 40) f44 d44) (D45:Df K mg "holds_halves" "holds_halves" (top 37) f45 d45) (D46:Df K mg "cover" "cover" (top 23) f46 d46) (D47:Df K mg "box_cover" "box_cover" (top 46) f47 d47) (D48:Df K mg "entry_at" "entry_at" (top 10) f48 d48) (D49:Df K mg "by_halves" "by_halves" (top 47) f49 d49) (D50:Df K mg "is_entry_powers" "is_entry" (top 57) f50 d50) (D51:Df K mg "put_together_powers" "put_together" (top 54) f51 d51) (D52:Df K mg "from_lesser" "from_lesser" (top 61) f52 d52) (D53:Df K mg "is_right_powers" "is_right" (top 59) f53 d53) (D54:Df K mg "holds_powers" "holds_powers" (top 56) f54 d54) (D55:Df K mg "starts" "starts" (top 63) f55 d55) (D56:Df K mg "met_by" "met_by" (top 62) f56 d56) (D57:Df K mg "entry_at" "entry_at" (top 10) f57 d57) (D58:Df K mg "put_together_powers" "put_together" (top 54) f58 d58) (D59:Df K mg "by_powers" "by_powers" (top 64) f59 d59) (D60:Df K mg "_law_let_by" "_law_let_by" (top 78) f60 d60) (D61:Df K mg "all_boxes" "all_boxes" (top 19) f61 d61) (D62:Df K mg "sum_in" "sum_in" (top 26) f62 d62) (D63:Df K mg "least_in" "least_in" (top 27) f63 d63) (D64:Df K mg "greatest_in" "greatest_in" (top 28) f64 d64) (D65:Df K mg "_law_truly" "_law_truly" (top 79) f65 d65) (c:Df K mg "law" "law" (top 80) f66 j)(z0:J4 K Zd "len"=O U) (z1:J4 K Zd "abs"=O U) (z2:J4 K Zd "max"=O U) (z3:J4 K Zd "min"=O U) (z4:J4 K Zd "zip"=O U) (z5:J4 K Zd "int"=O U) (z6:J4 K Zd "bool"=O U) (z7:J4 K Zd "range"=O U) (z8:J4 K Zd "repr"=O U) (z9:J4 K Zd "sorted"=O U) (z10:J4 K Zd "isinstance"=O U) (z11:J4 K Zd "list"=O U) (z12:J4 K Zd "tuple"=O U) (z13:J4 K Zd "all"=O U) (z14:J4 K Zd "sum"=O U) (z15:J4 K Zd "dict"=O U) (z16:J4 K Zd "enumerate"=O U) (z17:J4 K Zd "str"=O U) (z18:J4 K Zd "set"=O U):∃fd:Tg,(∀(s:Fd) (v:Cd),Xl s fd ⟨[v],[]⟩ [("_law_script",v)])/\∀base:Ke,K.In base->base.Ns Zd mg->FnOk l.prog w K mg base mJ 9 fa fd ["_law_script"] (QX K yC):=by
 cases hfa.symm.trans c.m;have T:Txt mg:=⟨K2 X G z0,K2 X G z1,K2 X G z2,K2 X G z3,K2 X G z4,K2 X G z5,K2 X G z6,K2 X G z7,K2 X G z8,K2 X G z9,K2 X G z10,K2 X G z11,K2 X G z12,K2 X G z13,K2 X G z14,K2 X G z15,K2 X G z16,K2 X G z17,K2 X G z18⟩;obtain⟨oc,od,kV,ah,pm,an,ke,ct,cm,e,lk,xh⟩:=c.F.ex;refine⟨j,λs v=>by subst e;exact .of_eq Z,λb _ _=>?_⟩;have C0:=BZ l.prog w b D0<|nP D0.F;have C1:=BZ l.prog w b D1<|VI D1.F T;have C2:=BZ l.prog w b D2<|AB D2.F T ⟨C1⟩;have C3:=BZ l.prog w b D3<|lv D3.F T;have C4:=BZ l.prog w b D4<|kv D4.F T ⟨C1⟩;have C5:=BZ l.prog w b D5<|EB D5.F T ⟨C2,C3,C4⟩;have C6:=BZ l.prog w b D6<|ZI D6.F;have C7:=BZ l.prog w b D7<|NT D7.F T;have C8:=BZ l.prog w b D8<|OT D8.F T ⟨C6,C7⟩;have C9:=BZ l.prog w b D9<|oP D9.F;have C10:=BZ l.prog w b k<|pP k.F T ⟨C9⟩;have C11:=BZ l.prog w b q<|QT q.F T ⟨C8,C10⟩;have C12:=BZ l.prog w b t<|oB t.F T;have d:=BZ l.prog w b x<|YI x.F T ⟨C12⟩;have C14:=BZ l.prog w b y<|sj y.F T ⟨d⟩;have C15:=BZ l.prog w b B<|pB B.F T ⟨C14⟩;have C16:=BZ l.prog w b C<|uP C.F ⟨C15⟩;have g:=BZ l.prog w b L<|sP L.F T ⟨C6⟩;have C18:=BZ l.prog w b M<|qB M.F T;have a:=BZ l.prog w b R<|yB R.F T ⟨C16,g,C18⟩;have C20:=BZ l.prog w b S<|UT S.F T;have C21:=BZ l.prog w b Y<|VT Y.F T ⟨C11,a,C20⟩;have C22:=BZ l.prog w b D22<|bC D22.F T;have C23:=BZ l.prog w b D23<|uL D23.F T;have C24:=BZ l.prog w b D24<|cD D24.F ⟨g,C22,C23⟩;have C25:=BZ l.prog w b D25<|zA D25.F;have C26:=BZ l.prog w b D26<|AA D26.F T ⟨C24,C25,C6⟩;have i:=BZ l.prog w b D27<|yA D27.F T;have C28:=BZ l.prog w b D28<|BA D28.F T ⟨i,a⟩;have C29:=BZ l.prog w b D29<|CA D29.F T ⟨C26,C28⟩;have C30:=BZ l.prog w b D30<|GP D30.F T ⟨C1⟩;have C31:=BZ l.prog w b D31<|MA D31.F T;have C32:=BZ l.prog w b D32<|NA D32.F T;have C33:=BZ l.prog w b D33<|OA D33.F T ⟨C1,C31,C32⟩;have C34:=BZ l.prog w b D34<|qv D34.F T;have C35:=BZ l.prog w b D35<|QP D35.F T ⟨C34⟩;have C36:=BZ l.prog w b D36<|vA D36.F T ⟨C15,d⟩;have C37:=BZ l.prog w b D37<|pA D37.F T;have C38:=BZ l.prog w b D38<|lA D38.F;have C39:=BZ l.prog w b D39<|qA D39.F ⟨C18⟩;have C40:=BZ l.prog w b D40<|nA D40.F;have C41:=BZ l.prog w b D41<|oA D41.F ⟨C40⟩;have C42:=BZ l.prog w b D42<|fA D42.F T;have C43:=BZ l.prog w b D43<|rA D43.F T ⟨C9,C41,C42⟩;have C44:=BZ l.prog w b D44<|sA D44.F T ⟨C37,C38,C39,C43⟩;have C45:=BZ l.prog w b D45<|wA D45.F T ⟨C11,C36,C44⟩;have C46:=BZ l.prog w b D46<|DP D46.F T ⟨C9⟩;have C47:=BZ l.prog w b D47<|bA D47.F T ⟨C8,C46⟩;have C48:=BZ l.prog w b D48<|dA D48.F T;have C49:=BZ l.prog w b D49<|gA D49.F T ⟨C47,C48,C42⟩;have C50:=BZ l.prog w b D50<|zL D50.F T ⟨C14,d,C12⟩;have C51:=BZ l.prog w b D51<|wL D51.F T;have C52:=BZ l.prog w b D52<|DA D52.F T ⟨C40,i,C51⟩;have C53:=BZ l.prog w b D53<|xL D53.F T ⟨C39,C52⟩;have C54:=BZ l.prog w b D54<|FA D54.F T ⟨C26,C50,C53⟩;have C55:=BZ l.prog w b D55<|HA D55.F T ⟨i⟩;have C56:=BZ l.prog w b D56<|IA D56.F T ⟨C25,C55,C6⟩;have C57:=BZ l.prog w b D57<|BL D57.F T;have C58:=BZ l.prog w b D58<|OP D58.F T;have C59:=BZ l.prog w b D59<|KA D59.F T ⟨C56,C57,C58⟩;have C60:=BZ l.prog w b D60<|RA D60.F T ⟨C35,C45,C49,C54,C59⟩;have C61:=BZ l.prog w b D61<|CL D61.F ⟨C24,g,C23⟩;have C62:=BZ l.prog w b D62<|uC D62.F T ⟨a⟩;have C63:=BZ l.prog w b D63<|Jj D63.F T ⟨a⟩;have C64:=BZ l.prog w b D64<|Kj D64.F T ⟨a⟩;have C65:=BZ l.prog w b D65<|SA D65.F T ⟨C35,C49,C59,C62,C63,C64⟩;exact WP c.F T ⟨C0,C1,C5,C21,C29,C30,C33,C60,C61,C65⟩
theorem walk{l:NQ}{q:De}{d:DefRec}{K:Params->M0}(b:l.most=O 63)(c:d.params.defaults=[])(e:∀(w:Be) (h:Ke),YP w h->(K w.params).In h)(F:∀(w:Be) (mg:Str->Do Cd) (fa:Hd) (h:Ke),(K w.params).In h->h.Ns Zd mg->mg d.name=O (.ref fa) -> ∃fd:Tg,(∀(s:Fd) (u:Cd),Xl s fd ⟨[u],[]⟩ [("_law_script",u)])/\∀base:Ke,(K w.params).In base->base.Ns Zd mg->FnOk l.prog w (K w.params) mg base mJ 9 fa fd ["_law_script"] (QX (K w.params) yC)):PySem.W.WalkO q wl XP YP l.row.toRowW d [] (λf g=>PySem.call f g):=
 L2.walk_of (n:=63) (k:=9) (x:="_law_script") (CX:=λ_=>mJ) (sp:=λw=>QX (K w.params) yC) b (by decide) c ⟨Z,by decide,by decide,Z⟩ e F (λ_ _ a ns hl _ i=>FL hl i) λ_ _ _ _ _ z=>z
end
end R23
open PySem.W
structure PySem.W.Fast:Prop where(tw9306240395302762565 tw11212967603261675752 tw14697382032339715574 tw9437261177705628525 tw7653352958491722891 tw5466776381196283118 tw9077713519791669257 tw13778596917508076907 tw13751678061937375960 tw9209592182938672611 tw17516813491396732995 tw16743288783335231562 tw8255841665048037066 tw6609987920213237972 tw3516954824955656040 tw8539944732456209802 tw15333639730691320174 tw9483064584849981720 tw3986378089691547507 tw18406631210225010484 tw16705674775347042262 tw9084936577095745169 tw723415967594898945 tw279166262813802626 tw4168100349535468812 tw2848932573368367032 tw8216975519055465231 tw17280953532992829341 tw16410365844071738276 tw15560372816605198963 tw14843807767409780298 tw2656611140854329386 tw13125514075867066954 tw13914120766007676348 tw12982024336607853509 tw13034904103691421188 tw3985954853753018792 tw9839740926376374719 tw17180173806804724579 tw5622879351793066732 tw12396957026952383656 tw16665568876812749319 tw4961950238432521383 tw17039150712421776780 tw10199026984848704189 tw2743742268992480553 tw1900549048291999455 tw11057523910132797108 tw15963765938176969509 tw13386711706295820443 tw15457261560457252973 tw9705895380218889485 tw11625125927988051928 tw14489371292096326260 tw2788929484173459351 tw6618815199364736136 tw5442580019822903998 tw88132775931945989 tw11041987601927953701 tw18262379133628683348 tw7553599915442018018 tw11259610322810820788 tw13189238194272812545 tw10955127602920040205 tw17569528782961083171 tw17499181528284879061 tw4578759854067850385 tw16507805643084943088 tw14811707389037553245 tw537618454490055333 tw12581063958873109974 tw892605394622467806 tw2989762037727145908 tw7014266829514213140 tw14440044259809480075 tw4974880556178787460 tw868469794700233674 tw2024754208378751580 tw13380049956495005976 tw17863934497110447997 tw15840384538402631467 tw12394865603519868477 tw4453043040246261169 tw13597257626636874915 tw10658938215878174468 tw8518292242915788000 tw12973602981162788322 tw13107565774344637872 tw3087334020641058789 tw1663544329702853136 tw4697270863604560507 tw4931402973039610440 tw3699264572005790812 tw12797219399394782236 tw16077072768002729291 tw13654267952002713553 tw5285030191170655124 tw13850101135325562459 tw12268908424864155678 tw10349023045467135079 tw8523486879345847183 tw11487483556421769039 tw3475928874619513161 tw17779945449814665361 tw14310914968925538250 tw17365506867068546808 tw14078271247106869419 tw12613839849998311286 tw12645909881876836876 tw5767864828628208556 tw3249917634616810508 tw15891074128535377885 tw13109363717592407483 tw4931256336539971332 tw2415376840346976356 tw12637283984637369655 tw1961629735543115072 tw7074852529456717776 tw4930437527616609313 tw7175057422456907372 tw12746793948768397488 tw17793693909557763738 tw11386908730594149409 tw3040007177493066675 tw6432892815508346880 tw12179617650576557316 tw15193995815067548589 tw18037206967840596634 tw13618375434784963509 tw16201390599808947484 tw1955238947728641363 tw14294712927457251125 tw17977895015563651549 tw18330422939035676165 tw15756458811905192792 tw3602260017394862575 tw17796218988148849383 tw13798452073056304605 tw12936933936627586198 tw8039724066798349634 tw1558308965716386665 tw8349834128141764399 tw3548836607589617333 tw6441485415680485315 tw9144507347213442106 tw10396928366942111795 tw6247512520542411739 tw7828168960075032224 tw6139993076785098537 tw10810419859270461642 tw3006813006473627052 tw16527580653222078485 tw4469218945042884284 tw16766910843217455310 tw5514876661839037762 tw7726823814954341629 tw5386118559417465040 tw6783347010276264942 tw15788091194411113843 tw11554768021992226571 tw12833755122716687121 tw15886551505206702524 tw7715497456737414093 tw13285884611159624102 tw15372890371257485089 tw2607302649001946043 tw659753509103827612 tw5067113372245744843 tw3116169118863654865 tw11211076164465052445 tw13389667149132418571 tw3705013634400628361 tw5716460804838265847 tw15862917243391910513 tw7655323278211496497 tw10275185656217252521 tw7568932486226351843 tw16609789176438474160 tw2979457381686927202 tw325263512584795549 tw4877229445017550014 tw12219706844255467730 tw2600764625848485502 tw8490371475833254694 tw15394830861255267456 tw13626605739605256445 tw14807970785639107910 tw16005196739485056582 tw2075511027696600524 tw12351607170730940097 tw11859479506344319051 tw1459108439840266471 tw10893737149130736587 tw10961740844859763485 tw11204436027502100153 tw404098345602245521 tw8870710527283497983 tw17079821134508940370 tw8050580581418114668 tw16146238533031911039 tw15444588521681738417 tw5014246893520943945 tw14691616385648397349 tw2335664388605743954 tw18078141269120502274 tw6479859783931087748 tw16102962777138955916 tw14039622872286793727 tw9954537756330128558 tw2309250332412758752 tw458983314388625638 tw14592092096791110773 tw4430402204880584813 tw17208327202838639981 tw14621550408545557540 tw4876641855526649416 tw7931351706353793847 tw5334882165838573752 tw6770122167797612921 tw16777110602968959274 tw1809646208609700108 tw4558296703528081813 tw17020205290140786846 tw18228620659016360729 tw6382530442674410586 tw13278259086761883446 tw17284645302734187535 tw5161102886168623957 tw9861546268343105303 tw10207853882103567968 tw13027768958783422317 tw9721960904294179983 tw8080461155475122337 tw14799047142252208038 tw5012878816648928665 tw16815574041161996853 tw1701177154044580372 tw11256213401047693007 tw7805951991517503343 tw16614875352585309039 tw4818277278292282633 tw12195672087627152095 tw15938234571534287885:True)
set_option maxRecDepth 100000 in
set_option maxHeartbeats 0 in
theorem PySem.Challenge.cw_boxsums_k23_whole_whatever_table_holds : PySem.Challenge.rw_boxsums_k23_whole_whatever_table.Holds := by
 w_on;o_law;k_head;(case hw=>w_witness2)
 k_fill
 refine R23.walk (l:=PySem.Challenge.rw_boxsums_k23_whole_whatever_table) rfl rfl (λw h Y=>PySem.W.kIn_of Y) ?F
 case F =>
  intro w mg fa h KX G hmg
  refine' R23.all_mk KX G hmg ?_ ?_ ?_ ?_ ?_ ?_ ?_ ?_ ?_ ?_ ?_ ?_ ?_ ?_ ?_ ?_ ?_ ?_ ?_ ?_ ?_ ?_ ?_ ?_ ?_ ?_ ?_ ?_ ?_ ?_ ?_ ?_ ?_ ?_ ?_ ?_ ?_ ?_ ?_ ?_ ?_ ?_ ?_ ?_ ?_ ?_ ?_ ?_ ?_ ?_ ?_ ?_ ?_ ?_ ?_ ?_ ?_ ?_ ?_ ?_ ?_ ?_ ?_ ?_ ?_ ?_ ?_ ?_ ?_ ?_ ?_ ?_ ?_ ?_ ?_ ?_ ?_ ?_ ?_ ?_ ?_ ?_ ?_ ?_ ?_ ?_
  any_goals refine' R23.df_mk KX G ?_ ?_ ?_ ?_
  any_goals (show _=_;k_is)
