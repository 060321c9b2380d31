import PyProof.Rows.All
import Wide.All
import OpenK.AllK
import Wide.FinOn
import PyProof.EqAt
import PyProof.EqKinds
import PyProof.TupleCall
import KE.BitLaws
import Open.SpecLaws
import KE.OsHead
import KE.OsGo
import PyVabldc
import PySem.Challenge.RW_treelabels_s01_answers
import PyProof.P3In
import PyProof.ZipIter
import PyProof.Rows.CallKwBuiltin
import KE.KDictSum
import KE.KSortTupG
import OpenK.KOwn
import PyProof.ExcClass2
import PyProof.Rows.CatchBare
import PyProof.SetNew
set_option Elab.async false
set_option linter.all false
set_option maxRecDepth 100000
set_option maxHeartbeats 0
set_option compiler.extract_closed false
open Array renaming ext'->Y',forIn_toList->SS,getD->uy,getElem?_eq_getElem->OR,getElem?_eq_none->Yo,getElem?_eq_some_iff->dH,getElem?_toList->Tf,getElem_mem->R_,length_toList->Ng,mem_toList_iff->wB,perm_iff_toList_perm->kS,replicate->aaI,size_map->aaK,toList->WQ,toList_append->aaB,toList_extract->LS,toList_map->zH,toList_push->KS
open Bool renaming and_eq_true->Kc,and_eq_true_iff->M_,and_false->LB,and_self->my,and_true->aak,beq_comm->vS,eq_false_iff->J',eq_iff_iff->tf,false->ma,false_and->kh,false_eq_true->yc,false_ne_true->se,false_or->ll,noConfusion->mi,not_eq_false->abg,not_eq_true->xS,not_eq_true'->IH,not_false->Hu,not_true->si,or_comm->jT,or_eq_false_iff->aan,or_eq_true->ki,or_false->su,true->da,true_and->gr,true_or->LR
open Classical renaming byContradiction->Ln
open False renaming elim->Og
open ForIn renaming forIn->um
open ForInStep renaming yield->XG
open Int renaming ofNat_lt->aai,toNat->Cm,toNat_natCast->bu
open Int.ofNat renaming inj->UB
open LawfulBEq renaming eq_of_beq->dk
open List renaming Nodup->aad,Pairwise->abc,Perm->OS,all_cons->du,all_eq_true->Df,all_map->tm,all_toArray->aba,any_cons->ji,any_eq_false->vB,any_eq_true->Ze,any_map->Tx,append_assoc->cf,append_cancel_left->abf,append_eq_nil_iff->abe,append_nil->sj,contains_cons->VR,contains_iff_mem->qT,countP_cons->y',count_cons->pH,drop->aas,dropLast_concat_getLast->G',drop_append_of_le_length->iH,drop_drop->Hn,drop_eq_getElem_cons->aal,drop_left->aat,drop_left'->abj,drop_length->zS,drop_of_length_le->er,drop_take->ly,drop_zero->Fn,ext_getElem?->O',extract_eq_take_drop->aaC,filterMap_cons->PQ,filterMap_cons_none->RS,filterMap_cons_some->aC,filterMap_map->a_,filter_append->aac,filter_congr->pT,filter_cons->jk,filter_map->mT,filter_sublist->zl,find?_cons->ju,find?_cons_of_neg->rH,find?_cons_of_pos->qH,find?_eq_none->mr,find?_some->oy,findIdx_cons->dS,findIdx_eq_length->E',findIdx_getElem->ZR,findIdx_lt_length->mH,flatMap_append->Du,flatMap_cons->Eu,foldl_append->aaf,foldl_cons->Bm,forIn_cons->gu,forIn_nil->Uq,forIn_toArray->f',getElem?_append_left->HB,getElem?_append_right->Px,getElem?_cons_succ->G_,getElem?_cons_zero->SR,getElem?_eq_getElem->Wd,getElem?_eq_none->Xq,getElem?_eq_some_iff->Cf,getElem?_map->Ac,getElem?_of_mem->Cp,getElem?_set_ne->SQ,getElem?_set_self->RQ,getElem?_take->aaF,getElem?_zip_eq_some->aae,getElem_cons_drop->gy,getElem_inj->w9,getElem_mem->BH,getElem_of_mem->M',getElem_take->rS,getLastD_eq_getLast?->F',isEmpty_iff->xr,length->He,length_append->wd,length_cons->Oc,length_drop->ue,length_eq_zero_iff->zm,length_filter_le->xl,length_map->Na,length_nil->uj,length_pos_iff->hI,length_range->aay,length_range'->aag,length_singleton->UG,length_take->rd,length_zip->tS,lookup->Oq,lookup_cons->iu,map->PH,mapM_toArray->aa9,map_append->vf,map_congr_left->Am,map_cons->Nb,map_drop->TB,map_id->Cu,map_map->yd,map_nil->Tq,map_reverse->abh,map_take->RB,mem_append->Pe,mem_append_left->CG,mem_append_right->Nq,mem_cons->jc,mem_cons_of_mem->sf,mem_cons_self->Mh,mem_filter->Mc,mem_filterMap->Hx,mem_map->Mb,mem_map_of_mem->Ku,mem_of_find?_eq_some->EH,mem_of_getElem?->vd,mem_of_mem_drop->aa5,mem_of_mem_take->CS,mem_range->dm,mem_range'_1->aah,mem_reverse->aa6,mem_singleton->dC,nodup_append->YB,nodup_cons->tj,nodup_nil->Yq,nodup_range->IS,not_mem_nil->Al,of_mem_zip->DB,pairwise_append->aaE,pairwise_cons->Ui,pairwise_iff_getElem->AH,pairwise_lt_range->aaL,pairwise_map->Ti,pairwise_singleton->fI,perm_ext_iff_of_nodup->bC,perm_middle->MH,range->Li,range'->cp,range'_succ->hH,range_succ_eq_map->AR,singleton_append->aaj,size_toArray->Od,sum_cons->Em,take_append_drop->Ph,take_left->XB,take_left'->lT,take_length->Cg,take_nil->jy,take_of_length_le->rm,take_sublist->R9,take_succ->ni,take_take->FH,zipIdx_cons->Y_,zipIdx_nil->Z_,zip_cons_cons->lR
open List.Pairwise renaming imp_of_mem->tT,nil->gI
open List.Perm renaming eq_of_pairwise->abb,refl->JH,swap->aaq
open List.Sublist renaming map->DH
open MonadExcept renaming tryCatch->yu
open Nat renaming add_assoc->HS,add_mod->GS,add_mul->HH,add_mul_mod_self_left->aav,add_sub_cancel->WH,le_add_right->Zo,le_of_eq->AB,le_of_lt->Ag,le_of_not_lt->aaA,le_of_succ_le->WG,le_refl->rb,le_succ->KG,le_succ_of_le->En,le_trans->Bc,lt_irrefl->Zk,lt_of_le_of_lt->Qi,lt_of_lt_of_le->kg,lt_or_ge->Sg,lt_succ_of_lt->Wq,lt_succ_self->IG,lt_trichotomy->JS,min_eq_left->ml,min_eq_right->wu,min_le_left->X_,min_le_right->MG,mod_eq_of_lt->Gu,mod_eq_sub_mod->aaw,mod_lt->Bp,mul_add->qy,mul_assoc->Fu,mul_comm->nr,mul_le_mul_right->aap,mul_left_comm->KH,mul_mod->aax,ne_of_gt->fm,ne_of_lt->Kd,pow_le_pow_right->sy,pow_pos->BS,pow_succ->Dm,strongRecOn->aaz,sub_self->yS,sub_zero->iy,succ_le_succ->D',two_mul->aau,zero_add->QS,zero_le->Pd
open Ne renaming symm->Gc
open Option renaming bind_eq_bind->aaG,bind_some->aaH,getD_none->m_,isSome_iff_exists->GB,isSome_map->aH,isSome_some->ER,map_eq_none_iff->aar,map_eq_some_iff->Ie,map_none->aam,map_some->abo,none->ia,some->ba
open Option.some renaming inj->Dd,injEq->QB
open Or renaming inl->rB,inr->Dn
open Pure renaming pure->pd
open PyFlat renaming call->ET,calls->Iy,played->IT,row->DT,rows->Mu,told->FT
open PyProof.Rows renaming Constant_none->x9,IntsAre->mm,IsTup->qj,Keyed->Ra,SortKind->pb,SortSt->Ha,SortedToK->yj,Subscript_->uR,args_tuple_getitem->d_,arrOf->zb,beyond'->iT,callWith_type1->LG,collect_list->Z',elem'->cI,entry_list_iadd'->T',entry_proto_collect'->R',entry_tuple_getitem->c_,envOfC->Sf,failedOf->sr,firstOfTuple'->aa8,gallop'->zy,general'->Ay,isTrue_and->D9,itemOrd->jS,keyKind'->xH,keyLt'->bI,len_tuple->K',listUpdate_at->aa7,ltAt'->dI,oneType'->By,pairsOf->Td,pairsOf_size->mS,pairsOf_toList->lS,pendingOf->xy,reverseSlice'->aa4,seqObj->nh,setArr->gC,setMinGallop'->eI,size_push'->yH,slicePart_none->Y9,slot_tuple_getitem->Rx,sortRuns'->iC,sortedHeap_at->W',sortedHeap_old->X',subscriptTail->vR,subscriptTail_builtinR->k_,tup_kind->oS,tupleItemsOf_->f_,tuples'->lr
open PyProof.Rows.G.TupsOf renaming keep->qS,length->pS
open PyProof.Rows.SortSt renaming mk'->wy
open PySem renaming Around->bb,BindsTo->Kx,Builtin->vj,CmpOp->wb,Code->Zt,Ctx->pk,DictEntry->fb,End->Nn,Env->va,Expr->ua,Frame->fC,FuncData->qb,GenResult->cT,GenState->QQ,IsEnum->YR,IsPair->Ef,IsPart->Bn,ItemsOf->WB,Keyword->CB,Meets->IB,Model->ub,NameKind->fi,Params->bp,PassesOwn->XQ,PlainAttrs->o_,Pos->La,Program->Va,Reads->fu,ReadsAll->BR,Result->xb,Resume->bT,Runs->Xd,Scope->jb,Sem->Ma,SetTable->Sa,Shared->ja,Stmt->za,Tok->pj,Walks->NB,Within->zG,World->Pa,argsOk->Au,assign->pB,assignEach->qB,atKey->Xo,attributeBase->BB,backTo->Ye,backToKw->Mx,behindInMarks->Lq,binaryOp->rj,bindArgs->jR,bindC->Rq,bindL->Qq,bootBuiltins->Ex,boot_len->Sd,builtinLookup_eq_fast->aaY,builtinsNs->OQ,cLine->Wc,call->Q_,callType_new->V_,callWith->kR,call_list_seq->n_,call_meets->eu,callerA->ey,cellOf->DR,cellsFrom->lg,checkBuiltinCall->fS,checkCount->V',closureFor->u_,codeAny->jm,codeAny_builtin->Jn,codeAny_call_builtin->L',codeAny_mono->Pq,codeAny_of_tree->aaT,collect->Bu,compEnvC->gk,compPost->KR,compareOp->ee,comprehension->w_,concat_meets->nR,entryFor->XH,entryFor_alias->WS,eval->Ic,evalPart_none->g_,field->qp,firstArgMember->cy,foldedSetIterable->EG,getAttr->bR,getItem->Cn,getMethod->zB,hashByValue->NH,holding->To,intBits_le_64->J9,interactive->F9,keywordEach->Ox,leaving->EB,letOwnedTupleGo->DG,mainGlobals->qf,mem_of_lookup->Mi,model->Ea,newExc->ay,newFunctionEnv->v_,newList->ZG,newTuple->RR,noFill_tuple_add->oR,noteFrame->JR,notedBy->Vx,ofAClassStatement->US,operate->xR,pickOrder->SH,plainId_quiet->kr,pushCells->Vq,pushCells_keeps->VG,pyIter->Gx,pyNext->Pg,rawInt->Qg,recursionLimit->M9,richCompare->T9,searchCouldBeSeen->aaM,seqIndex_neg->j_,seqIndex_of->i_,seqItems?->ny,seq_tuple_add->pR,setAddHashed->QH,setField->PR,setNext->vy,setSearchFrom->OH,setWalk->UH,setWalkUnseen->aaS,setsByText->Iu,signature?_of->aaZ,sizeLine_eq->FG,sliceBounds->cu,slotArgs->ZH,slot_list_getitem->l_,spliced->UQ,standAt->Fx,starEach->Jc,sub_set_self->VS,subscripted->RG,swapsWith->Mq,sysModules->Lh,table->YH,tupleKind->Jq,tupleKind_room_in1->bH,typeLookup->h_,typeLookup_type->aaX,typeOf->yR,valueAt->lu,wpAny->ra,wpAny_Call_Name_kw->Lx,wpAny_Call_method_late->p_,wpAny_Compare1->B9,wpAny_Dict_empty->y_,wpAny_Name->VQ,wpAny_alloc->FR,wpAny_askSetting->Mn,wpAny_assign_Name->G9,wpAny_attempt->Yx,wpAny_call->JG,wpAny_callSpecial?_slot->qm,wpAny_call_entry->Rg,wpAny_dictEntries->mu,wpAny_dictEpoch->Wx,wpAny_eqBool_tuple->aaP,wpAny_eqIsQuiet_tuple->aaN,wpAny_evalAll_cons->N',wpAny_execs_cons->E9,wpAny_execs_nil->oB,wpAny_field->Ni,wpAny_fieldsOf->cH,wpAny_forIn_list->au,wpAny_holding->ng,wpAny_isOneOf_keyiter->E_,wpAny_isSame_ref_self->aaQ,wpAny_isTrue_Compare1->C9,wpAny_ite_split->aa2,wpAny_letGo->jr,wpAny_loadPart'->Sq,wpAny_mono->jh,wpAny_newList->iS,wpAny_newTuple->cS,wpAny_of_eq->PB,wpAny_onRaise->oH,wpAny_passesOwn->Yt,wpAny_pyIter_enum->W_,wpAny_pyIter_keyiter->H_,wpAny_pyIter_list->aR,wpAny_pyIter_slot->OB,wpAny_pyIter_tuple->uB,wpAny_pyIter_zip->J_,wpAny_pyNext_list_end->ZQ,wpAny_pyNext_list_item->YQ,wpAny_rule->fy,wpAny_runValue->P',wpAny_seqItems->xj,wpAny_sequenceKey->b_,wpAny_setEntries_of->ZS,wpAny_setEpoch_of->YS,wpAny_setField->nu,wpAny_setField_rec->xu,wpAny_setState_of->aaO,wpAny_specialOf->MR,wpAny_standAt->YG,wpAny_storeSet_of->RH,wpAny_truthy_bool->il,wpAny_tryCatch->zu,wpAny_typeOf->Sx,wpAny_updateSeq->kH,wpAny_updateSeq_pair->bS
open PySem.Around renaming under->gR,under_plainId->zp
open PySem.Builtin.Frozenset renaming addrOf->aaW,copyOf->XS,isAnySet->VH,updateFrom->eC
open PySem.Builtin.List renaming listExtendWith->U',listLengthHint->aa1,listTooLong->JB
open PySem.Builtin.Slice renaming sliceAdjust->tR,sliceApplied->Z9,slicePlaces->OG
open PySem.Builtin.SmallTypes renaming nextOf->ql,ownedTupleHandOut->c',ownedTupleIsFree->nH
open PySem.Builtin.Tuple renaming tupleExact->QG,tupleItemsOf->e_
open PySem.Calls renaming Name_function_global->y9,callWith_builtin->q_,call_function_entry->gS,evalArgs_plain->zR
open PySem.Challenge renaming rw_treelabels_s01_answers->zj
open PySem.Code renaming frames->N9,isFrame->iR
open PySem.F renaming args_dict_keyiterator_next_1->C_,args_list_extend_2->s_,args_tuple_add_2->sR,args_tuple_iterator_next_1->U_,args_tuple_lt_2->W9,args_zip_next_1->k',called_set->rr,entry_dict_keyiterator_next->B_,entry_list_extend->r_,entry_max_loop->vH,entry_tuple_add->rR,entry_tuple_iterator_next->T_,entry_tuple_lt->V9,entry_zip_next->j',plainAttrs_list->Ri,plainAttrs_tuple->uH,plain_list_iadd->wH,plain_max_loop->Ap,plain_proto_collect->S',plain_set_new->aaU,slot_dict_iter->z_,slot_dict_keyiterator_iter->I_,slot_dict_keyiterator_next->Xx,slot_dict_len->aao,slot_list_append->xm,slot_list_count->C',slot_list_extend->MB,slot_set_iter->aa0,slot_set_or->aaV,slot_tuple_add->qR,slot_tuple_count->B',slot_tuple_index->lH,slot_tuple_iterator_next->jH,slot_tuple_lt->mR,slot_zip_iter->l',slot_zip_next->VB,type_list_append->ym,type_list_extend->uS,type_tuple_index->eS
open PySem.Heap renaming ExtBut->QR,IsTuple->WR,Ns->HR,SameBut->Nh,get?_none_of_le->v9,get?_push_of_some->Qb,get?_push_size->Uc,get?_update_ne->aaa,get?_update_other->SG,get?_update_self->ou,lt_size->cc,size_push->lh,size_update->aab
open PySem.Heap.SameBut renaming refl->aS,update->br
open PySem.NameKind renaming cell->GR,free->Ux
open PySem.Obj renaming cls_mapFields->F_,data_mapFields->Zx,isFreed_of_fields->eH,mapFields->Zq,mapSeq->Wo,putSet->cC
open PySem.Paired renaming length->bf,snoc->x_
open PySem.PassesOwn renaming never->qi
open PySem.PyData renaming canLay0->wm,canLayAll0->oi,depth->ip,depthAll->Dg,eqv->og,eqvAll->wj,int->Gn,tuple->ir
open PySem.Sem renaming wp->fe,wp_bind'->yy,wp_mono->aI,wp_pure->aa3,wp_pure'->Pn
open PySem.SeqAt renaming EqAt->gi,shaped->Oi
open PySem.SeqAt.EqAt renaming int_int->S9,int_str->n9,str_int->o9
open PySem.SetTable renaming below->aT,fill->LH,has->MS,laid->aaJ,slot->aaD
open PySem.SetTable.probe renaming go->NS
open PySem.Str renaming empty->L9,ofString->uf
open PySem.Value renaming bool->Ro,bytes->r9,float->u9,int->Yk,isInt->l9,isStrOf->m9,none->Kh,ref->Bb,str->yG,type->ck
open PySem.W renaming Codec->Jy,Frag->xa,WRecords->K_,WalkOS->P_,callWith_K->O9,callWith_K0->P9,cellsFrom_some->Q9,codeIn->Qx,emptyDict->Vo,excIn->DS,findIn->jl,fnOf->An,handedIn->K9,hasDictIn->HG,hideAll->So,hideAll_get->AG,hideAll_none->nB,instObj->Kq,isFn->yB,keepIn->km,length_le_weightAllW->L_,lookIn->GG,makesIn->fR,methodObj->NQ,mg_of->lC,nsIn->Ep,of_hideAll->BG,plainGet->xB,plainGet_of->cR,plainOver->dR,takerIn->eR
open PySem.W.Codec renaming app->NT
open PyVabldc renaming answers->MT,answers_asked->JT,shape->Ar,whole->Fg
open StateT renaming run_bind->fT,run_lift->gT,run_pure->eT
open Std.Legacy renaming Range->UR
open Std.Legacy.Range renaming forIn_eq_forIn_range'->gH,size->S_
open Sum renaming inl->Ce,inr->Iq
open ToString renaming toString->Uo
open True renaming intro->Jx
open Vabldc renaming Answer->xT,Call->yf,File->Eb,SLASH->gp,STAR->Lu,State->Tg,Text->Fb,above->kC,absolute->Qh,allMatch->vI,answer->oI,archive->abm,areTree->Cy,behind->Je,bytesAt->vT,counted->sI,decimal->AS,decimalIn->GH,digit->Gd,globAnswer->abr,globbed->abq,isAt->ur,isDeep->Bl,isDirectory->uT,isPackage->yr,isPart->Bg,isPath->gb,isPathOrEmpty->xf,isPattern->Dl,isPatternPart->CT,joined->Eg,kept->Qn,labelAnswer->yp,labelText->vp,lines->Ju,listAnswer->abk,matchAnswer->abp,moveCall->lI,moveClash->jC,moved->rT,no->pI,owner->mI,ownerAnswer->abi,partByte->ik,partMatches->Ey,partsOf->uu,pathMatches->yT,patternsOf->Fy,putCall->iI,readArchive->uI,readCounted->zr,readFiles->tI,removeCall->kI,resolveAnswer->abl,said->vr,split->Za,start->Kn,step->Ke,str->vm,textBefore->Si,textsOf->wI,told->sH,total->Vf,twoStars->zT,unlike->qI,valueOf->lk,withinLimits->Fm
open VabldcNeutral renaming asked1->Nu,callOf->Gm,encode->Fd,natural->Gy,step->xI,text->Hy,whole60->abt
open PySem PySem.Spec PyProof.Rows
noncomputable section
local macro_rules(kind:=«term{_}»)|`({$x:term,*})=>`(⟨$x,*⟩)
abbrev Bx:=@beq_eq_false_iff_ne
abbrev lp:=@beq_false_of_ne
abbrev Oh:=@beq_iff_eq
abbrev qu:=@beq_self_eq_true
abbrev qr:=@bne_self_eq_false
abbrev wc:=@congrArg
abbrev mh:=@decide_eq_decide
abbrev Rf:=@decide_eq_false
abbrev Xc:=@decide_eq_true
abbrev Ub:=@if_false
abbrev oa:=@if_neg
abbrev qa:=@if_pos
abbrev Ld:=@if_true
abbrev Qe:=@of_decide_eq_true
theorem ZQ0(a:True:=by rfl):True:=a
theorem ZQ1(a:True:=by decide):True:=a
theorem ZQ2(a:True:=by first|exact .inl rfl|exact .inr rfl|assumption):True:=a
theorem ZQ3(a:True:=by intro _;rfl):True:=a
theorem ZQ4(a:True:=by assumption):True:=a
theorem ZQ5(a:True:=by with_unfolding_all rfl):True:=a
theorem ZQ6(a:True:=by k_extra "s"):True:=a
theorem ZQ7(a:True:=by k_extra "l"):True:=a
variable{C a b d:Addr}{A:bb}{es:Array (Int×Value)}{e:ua}{K:xa}{base h:Heap}{pins:List (Addr×Obj)}{ps:List Str}{i k:Nat}{P prog:Va}{s:ja}{mg:Str->Option Value}{α:Type}{E Q:Value->ja->Prop}{w:Pa}
inductive E4{α β γ δ:Sort _}(P:α->β->γ->δ->Prop):Prop|mk:∀a b c d,P a b c d->E4 P
inductive A5(a b c d e:Prop):Prop|mk:a->b->c->d->e->A5 a b c d e
namespace L2
abbrev Key:=Sum Int Str
noncomputable def Ao:Key->Value->Bool
 | .inl k,v=>l9 k v
 | .inr x,v=>m9 x v
noncomputable def P7(w:Pa):Key->Int
 | .inl k=>hashInt k
 | .inr x=>hashStr w x
theorem Pl:∀{k:Key}{v:Value},Ao k v=da->(∃i t,k=Ce i/\v=Yk i t)\/(∃x t,k=Iq x/\v=yG x t)
 | .inl i,v,h=>by
  obtain⟨t,e⟩:=Value.isInt_shape (k:=i) (v:=v) h;exact .inl ⟨i,t,rfl,e⟩
 | .inr x,v,h=>by
  obtain⟨t,e⟩:=Value.isStrOf_shape (x:=x) (v:=v) h;exact .inr ⟨x,t,rfl,e⟩
theorem WX(i:Int)(t:pj):Ao (.inl i) (.int i t)=da:=by simp[Ao,l9]
theorem w1(x:Str)(t:pj):Ao (.inr x) (.str x t)=da:=by simp[Ao,m9]
theorem N0(a b:Int):decide ((Ce a:Key)=Ce b)=(a==b):=by
 by_cases e:a=b
 .subst e;simp
 .have h:¬(Ce a:Key)=Ce b:=λq=>e (Ce.inj q);rw[Rf h];exact(Bx.mpr e).symm
theorem YZ(a b:Str):decide ((Iq a:Key)=Iq b)=decide (a=b):=by
 by_cases e:a=b
 .subst e;simp
 .have h:¬(Iq a:Key)=Iq b:=λq=>e (Iq.inj q);rw[Rf h,Rf e]
theorem x4(a:Int)(b:Str):decide ((Ce a:Key)=Iq b)=ma:=Rf (λq=>nomatch q)
theorem B7(a:Str)(b:Int):decide ((Iq a:Key)=Ce b)=ma:=Rf (λq=>nomatch q)
noncomputable def ah(prog:Va)(w:Pa):PySem.KeyKind prog w Key where
 is:=Ao
 hash:=P7 w
 inj:=λv a b c d=>by
  rcases Pl c with⟨i,t,rfl,rfl⟩ |⟨x,t,rfl,rfl⟩
  .rcases Pl d with⟨j,u,rfl,e⟩ |⟨y,u,rfl,e⟩
   .injection e with e1 _;rw[e1]
   .exact nomatch e
  .rcases Pl d with⟨j,u,rfl,e⟩ |⟨y,u,rfl,e⟩
   .exact nomatch e
   .injection e with e1 _;rw[e1]
 byValue:=λk v h=>by
  rcases Pl h with⟨i,t,rfl,rfl⟩ |⟨x,t,rfl,rfl⟩<;>rfl
 pyHash:=λf h=>by
  rcases Pl f with⟨i,t,rfl,rfl⟩ |⟨x,t,rfl,rfl⟩
  .exact wpAny_pyHash_int h
  .exact wpAny_pyHash_str h
 eqBool:=λg f h=>by
  rcases Pl g with⟨i,t,rfl,rfl⟩ |⟨x,t,rfl,rfl⟩
  .rcases Pl f with⟨j,u,rfl,rfl⟩ |⟨y,u,rfl,rfl⟩
   .rw[N0] at h;exact wpAny_eqBool_int h
   .rw[x4] at h;exact n9 i t y u _ _ _ _ h
  .rcases Pl f with⟨j,u,rfl,rfl⟩ |⟨y,u,rfl,rfl⟩
   .rw[B7] at h;exact o9 x t j u _ _ _ _ h
   .rw[YZ] at h;exact wpAny_eqBool_str h
 «strs»:=λk x t v h=>by
  rcases Pl h with⟨i,u,rfl,e⟩ |⟨y,u,rfl,e⟩
  .exact nomatch e
  .injection e with e1 _;subst e1;cases v<;>rfl
theorem JX(prog:Va)(w:Pa)(i:Int)(t:pj):(ah prog w).is (.inl i) (.int i t)=da:=WX i t
theorem Q0(prog:Va)(w:Pa)(x:Str)(t:pj):(ah prog w).is (.inr x) (.str x t)=da:=w1 x t
inductive V where
 |Tb|bl (b:Bool) |int (i:Int) |str (x:Str) |Yg (b:Array UInt8) |Av (b:UInt64) |ref (a:Addr) |ty (n:String)
 deriving DecidableEq
def RelV:V->Value->Prop
 | .Tb,u=>u=Kh
 | .bl b,u=>u=Ro b
 | .int i,u=>∃t,u=Yk i t
 | .str x,u=>∃t,u=yG x t
 | .Yg b,u=>∃t,u=r9 b t
 | .Av b,u=>∃t,u=u9 b t
 | .ref a,u=>u=Bb a
 | .ty n,u=>u=ck n
abbrev yb:List V->List Value->Prop:=Paired RelV
theorem yb.length{xs:List V}{us:List Value}(r:yb xs us):xs.length=us.length:=bf r
theorem yb.get:∀{xs:List V}{us:List Value}{i:Nat}{x:V},yb xs us->xs[i]?=ba x->∃u,us[i]?=ba u/\RelV x u
 |_,_,_,_,.nil,e=>by simp at e
 |_,_,0,_,.cons r _,e=>by simp at e;subst e;exact{_,rfl,r}
 |_,_,i+1,x,.cons _ t,e=>by
  obtain⟨u,h1,h2⟩:=yb.get (i:=i) (x:=x) t (by simpa using e);exact{u,by simpa using h1,h2}
theorem yb.append:∀{xs ys:List V}{us a:List Value},yb xs us->yb ys a->yb (xs++ys) (us++a)
 |_,_,_,_,.nil,s=>s
 |_,_,_,_,.cons r t,s=> .cons r (yb.append t s)
theorem yb.take:∀{xs:List V}{us:List Value}(n:Nat),yb xs us->yb (xs.take n) (us.take n)
 |_,_,0,_=> .nil
 |_,_,_+1,.nil=> .nil
 |_,_,n+1,.cons r t=> .cons r (yb.take n t)
theorem yb.drop:∀{xs:List V}{us:List Value}(n:Nat),yb xs us->yb (xs.drop n) (us.drop n)
 |_,_,0,r=>r
 |_,_,_+1,.nil=> .nil
 |_,_,n+1,.cons _ t=>yb.drop n t
def Dh:Option V->Option Value->Prop
 |some v,ba u=>RelV v u
 |none,ia=>True
 |_,_=>False
def KV{κ:Type}:List (κ×V)->List (κ×Value)->Prop:=Paired λ(p:κ×V)(q:κ×Value)=>p.1=q.1/\RelV p.2 q.2
noncomputable def kV:Key->V
 | .inl i=> .int i
 | .inr x=> .str x
inductive HO where
 |lst (xs:List V)
 |tup (xs:List V)
 |dK (kvs:List (Key×V)) |dT (kvs:List (List Key×V))
 |set (S:Int->Bool) (n:Nat)
 |ins (C dx:Addr) (fs:List (Str×V))
 |own (x:Addr)
 |xd (fs:List (Str×V))
 |met (f x:Addr)
 |oo (lo hi:Int)
 |qc (o:Obj) (u:HO)
 |Qo (ps:Array Value)
 |ext (φ:Heap->Prop)
abbrev Hp:=Addr->Option HO
noncomputable def upd(H:Hp)(a:Addr)(o:HO):Hp:=λb=>if b=a then ba o else H b
theorem wa{H:Hp}{o:HO}:upd H a o a=ba o:=by unfold upd;rw[qa rfl]
theorem Ja{H:Hp}{o:HO}(h:b≠a):upd H a o b=H b:=by unfold upd;rw[oa h]
theorem tK{H:Hp}{o u:HO}:upd (upd H a o) a u=upd H a u:=by
 funext b;unfold upd;split<;>rfl
theorem Vb{H:Hp}{o u:HO}(h:H a=ba o)(h':H b=ba u)(d:o≠u:=by intro z;cases z):a≠b:=by
 intro e;subst e;rw[h] at h';exact d (Dd h')
theorem de{H:Hp}{o:HO}(h:H a=ba o)(h':H b=ia):a≠b:=by
 intro e;subst e;rw[h] at h';cases h'
inductive BK(h:Heap)(a:Addr):Prop|mk:∀o,h.get? a=ba o->o.dict=ia->BK h a
section
variable(P:Va)(w:Pa)
def Cd(H:Hp)(h:Heap)(a:Addr):HO->Prop
 | .lst xs=>xs.length<=sizeLine/\∃(its:List Value)(n:Nat),yb xs its/\h.get? a=ba {cls:= .type "list",data:= .seq its.toArray n}
 | .tup xs=>xs.length<=sizeLine/\∃its:List Value,yb xs its/\qj h a its.toArray/\BK h a
 | .dK kvs=>kvs.length<=sizeLine/\(a==Lh)=ma/\∃vs,KV kvs vs/\h.DictOf (ah P w) a vs
 | .dT kvs=>kvs.length<=sizeLine/\(a==Lh)=ma/\∃xs:List (List Key×Addr×Value),
   Paired (λ(p:List Key×V)(q:List Key×Addr×Value)=>p.1=q.1/\H q.2.1=ba (.tup (p.1.map kV))/\RelV p.2 q.2.2) kvs xs/\
   ∃o es ep,h.get? a=ba o/\o.ExactDict/\o.data= .dict es ep/\es.toList=xs.map (entryOfKey (Jq (ah P w)))/\(xs.map (·.1)).Nodup
 | .set S n=>h.SetOf (intKind P w) a S n
 | .ins C dx fs=>H dx=ba (.own a)/\fs.length<=1000/\dx≠a/\h.get? a=ba (Kq C dx)/\
   ∃mA,h.Ns1 dx mA/\(∀f,Dh (fs.lookup f) (mA f))/\zG mA (fs.map (·.1))
 | .own _=>∃o,h.get? a=ba o
 | .xd fs=>∃mA,h.Ns1 a mA/\∀f,Dh (fs.lookup f) (mA f)
 | .oo lo hi=>∃t u v,h.get? a=ba {cls:= .type "range",data:= .fields #[.int lo t,.int hi u,.int 1 v]}
 | .qc o u=>h.get? a=ba o/\Cd H h a u
 | .Qo ps=>h.get? a=ba {cls:= .none,data:= .fields ps}
 | .met f x=>h.get? a=ba (NQ (.ref f) (.ref x))
 | .ext b=>b h/\(∃o,h.get? a=ba o)/\∀h1 h2:Heap,b h1->(∀o,h1.get? a=ba o->h2.get? a=ba o)->b h2
def ud(H:Hp)(h:Heap):Prop:=∀a o,H a=ba o->Cd P w H h a o
end
section
variable{H H':Hp}{h':Heap}{o:HO}
theorem Cd.lt(x:Cd P w H h a o):a< h.objs.size:=by
 cases o with
 |lst xs=>obtain⟨_,_,_,_,e⟩:=x;exact cc e
 |tup xs=>obtain⟨_,_,_,p⟩:=x;exact p.1.lt
 |dK b=>obtain⟨_,_,_,_,o,_,_,e,_⟩:=x;exact cc e
 |dT b=>obtain⟨_,_,_,_,o,_,_,e,_⟩:=x;exact cc e
 |set S n=>obtain⟨o,_,_,_,e,_⟩:=x;exact cc e
 |ins C dx fs=>obtain⟨_,_,_,e,_⟩:=x;exact cc e
 |own y=>obtain⟨_,e⟩:=x;exact cc e
 |xd fs=>obtain⟨_,⟨_,_,_,e,_⟩,_⟩:=x;exact cc e
 |oo lo hi=>obtain⟨_,_,_,e⟩:=x;exact cc e
 |qc c u=>obtain⟨e,_⟩:=x;exact cc e
 |Qo d=>exact cc (show h.get? a=ba _ from x)
 |met f y=>exact cc (show h.get? a=ba _ from x)
 |ext φ=>obtain⟨_,⟨_,e⟩,_⟩:=x;exact cc e
theorem Paired.wh{c:Type}{F G:α->c->Prop}:∀{d:List α}{l₂:List c},Paired F d l₂->(∀a b,F a b->G a b)->Paired G d l₂
 |_,_,.nil,_=> .nil
 |_,_,.cons r t,f=> .cons (f _ _ r) (Paired.wh t f)
theorem Cd.Sk(x:Cd P w H h a o)(k:∀b u,(b=a\/H b=ba (.own a))->h.get? b=ba u->h'.get? b=ba u)
  (g:∀b,H b=ba (.own a)->H' b=ba (.own a)) (i:∀b xs,H b=ba (.tup xs)->H' b=ba (.tup xs)):Cd P w H' h' a o:=by
 induction o with
 |lst xs=>obtain⟨z,its,n,r,e⟩:=x;exact{z,its,n,r,k _ _ (.inl rfl) e}
 |tup xs=>obtain⟨z,its,r,⟨j,e,c⟩,l,m,s⟩:=x;exact{z,its,r,{j,k _ _ (.inl rfl) e,c},l,k _ _ (.inl rfl) m,s}
 |dK A=>obtain⟨z,y,B,r,j,es,ep,e,c⟩:=x;exact{z,y,B,r,j,es,ep,k _ _ (.inl rfl) e,c}
 |dT A=>
  obtain⟨z,y,xs,r,j,es,ep,e,c⟩:=x;exact{z,y,xs,Paired.wh r λp q z=>{z.1,i _ _ z.2.1,z.2.2},j,es,ep,k _ _ (.inl rfl) e,c}
 |set S n=>obtain⟨j,es,ep,t,e,c⟩:=x;exact{j,es,ep,t,k _ _ (.inl rfl) e,c}
 |ins C dx fs=>
  obtain⟨d,z,D,e,mA,⟨E,es,ep,m,c⟩,r⟩:=x;exact{g _ d,z,D,k _ _ (.inl rfl) e,mA,{E,es,ep,k _ _ (.inr d) m,c},r}
 |own y=>obtain⟨j,e⟩:=x;exact{j,k _ _ (.inl rfl) e}
 |xd fs=>obtain⟨mA,⟨E,es,ep,e,c⟩,r⟩:=x;exact{mA,{E,es,ep,k _ _ (.inl rfl) e,c},r}
 |oo lo hi=>obtain⟨t,u,v,e⟩:=x;exact{t,u,v,k _ _ (.inl rfl) e}
 |qc j u F=>obtain⟨e,q⟩:=x;exact{k _ _ (.inl rfl) e,F q}
 |Qo G=>
  have e:h.get? a=ba {cls:= .none,data:= .fields G}:=x;show h'.get? a=ba {cls:= .none,data:= .fields G};exact k a _ (.inl rfl) e
 |met f y=>
  have e:h.get? a=ba (NQ (.ref f) (.ref y)):=x;show h'.get? a=ba (NQ (.ref f) (.ref y));exact k a _ (.inl rfl) e
 |ext φ=>obtain⟨p,⟨o,e⟩,st⟩:=x;exact{st _ _ p λo q=>k _ _ (.inl rfl) q,{o,k _ _ (.inl rfl) e},st}
theorem ud.lt(x:ud P w H h)(e:H a=ba o):a< h.objs.size:=(x a o e).lt
theorem ud.fresh(x:ud P w H h)(e:h.objs.size<=a):H a=ia:=by
 cases q:H a with
 |none=>rfl
 |some u=>exact absurd (kg (x.lt q) e) (Zk _)
theorem ud.kept(x:ud P w H h)(k:∀b u,h.get? b=ba u->h'.get? b=ba u):ud P w H h':=λa o e=>
 (x a o e).Sk (λb u _ q=>k b u q) (λ_ q=>q) λ_ _ q=>q
theorem ud.laid(x:ud P w H h)(k:∀b u,h.get? b=ba u->h'.get? b=ba u)(d:h.objs.size<=a)(f:Cd P w (upd H a o) h' a o):ud P w (upd H a o) h':=λb u e=>by
 have g:=x.fresh d;by_cases i:b=a
 .subst i;rw[wa] at e;cases e;exact f
 .rw[Ja i] at e;exact(x b u e).Sk (λc v _ q=>k c v q) (λc q=>by rw[Ja (de q g)];exact q) λc xs q=>by rw[Ja (de q g)];exact q
end
def Rd(H:Hp)(a:Addr)(u:HO):Prop:=H a=ba u\/∃o,H a=ba (.qc o u)
theorem Rd.ok{H:Hp}{u:HO}(r:Rd H a u)(x:ud P w H h):Cd P w H h a u:=by
 rcases r with r|⟨o,r⟩
 .exact x a u r
 .obtain⟨_,q⟩:=x a _ r;exact q
def dn:Option HO->Prop
 |some (.lst _)=>True
 |some (.dK _)=>True
 |some (.dT _)=>True
 |some (.set _ _)=>True
 |some (.ins _ _ _)=>True
 |some (.ext _)=>True
 |_=>False
section
variable{H:Hp}{h':Heap}{x e:Addr}{o':HO}
theorem ud.write(a:ud P w H h)(d:dn (H x))(f:e=x\/H e=ba (.own x))(k:∀b u,b≠e->h.get? b=ba u->h'.get? b=ba u)(g:∃u,h'.get? e=ba u)
  (i:Cd P w (upd H x o') h' x o'):ud P w (upd H x o') h':=λb u q=>by
 have j:∀c y,H c=ba (.own y)->c≠x:=λc y r z=>by subst z;rw[r] at d;exact d
 have l:∀c xs,H c=ba (.tup xs)->c≠x:=λc xs r z=>by subst z;rw[r] at d;exact d
 by_cases m:b=x
 .subst m;rw[wa] at q;cases q;exact i
 .rw[Ja m] at q;by_cases n:b=e
  .have o:H b=ba (.own x):=by
    rcases f with z|z
    .exact absurd (n.trans z) m
    .rw[n];exact z
   rw[q] at o;cases o;obtain⟨v,p⟩:=g;exact{v,by rw[n];exact p}
  .refine(a b u q).Sk (λc v s r=>k c v ?_ r) (λc r=>by rw[Ja (j c b r)];exact r) λc xs r=>by rw[Ja (l c xs r)];exact r
   rcases s with rfl|s
   .exact n
   .rintro rfl;rcases f with z|z
    .exact j c b s z
    .rw[s] at z;cases z;exact m rfl
end
structure Un(fs ex:List Addr)(H H':Hp)(h h':Heap):Prop where
 keep:∀b o,h.get? b=ba o->H b=ia->b∉fs->b∉ex->h'.get? b=ba o
 slot:∀b o,h.get? b=ba o->H b=ia->b∈fs->b∉ex->∃sl,h'.get? b=ba {o with slots:=sl}
 free:∀b o,h.get? b=ba o->H b=ia->b∉ex->H' b=ia
 there:∀b o,h.get? b=ba o->b∉ex->∃o',h'.get? b=ba o'
 Xa:∀b xs,H b=ba (.tup xs)->H' b=ba (.tup xs)
 Gk:∀b o u,H b=ba (.qc o u)->H' b=ba (.qc o u)
 Nm:∀b ps,H b=ba (.Qo ps)->∃more,H' b=ba (.Qo (ps++more))
section
variable{fs fs' ex ex':List Addr}{H H1 H2:Hp}{h1 h2 h':Heap}{x e:Addr}{o:HO}
theorem Un.any(u:Un fs ex H H1 h h1){a:Obj}(q:h.get? b=ba a)(n:H b=ia)(c:b∉ex):∃sl,h1.get? b=ba {a with slots:=sl}:=by
 by_cases d:b∈fs
 .exact u.slot b a q n d c
 .exact{a.slots,u.keep b a q n d c}
theorem Un.kept(k:∀b u,h.get? b=ba u->h'.get? b=ba u):Un fs ex H H h h':=
 {λb a q _ _ _=>k b a q,λb a q _ _ _=>{a.slots,k b a q},λ_ _ _ n _=>n,λb a q _=>{a,k b a q},λ_ _ q=>q,λ_ _ _ q=>q,λ_ c q=>{#[],by rw[q];simp}}
theorem Un.refl:Un fs ex H H h h:=Un.kept λ_ _ q=>q
theorem Un.laid(k:∀b u,h.get? b=ba u->h'.get? b=ba u)(c:h.objs.size<=a)(d:H a=ia):Un fs ex H (upd H a o) h h' where
 keep:=λb u q _ _ _=>k b u q
 slot:=λb u q _ _ _=>{u.slots,k b u q}
 free:=λb u q n _=>by rw[Ja (Kd (kg (cc q) c))];exact n
 there:=λb u q _=>{u,k b u q}
 Xa:=λb xs q=>by rw[Ja (de q d)];exact q
 Gk:=λb u xs q=>by rw[Ja (de q d)];exact q
 Nm:=λb e q=>{#[],by rw[Ja (de q d),q];simp}
theorem Un.write(a:dn (H x))(c:e=x\/H e=ba (.own x))(k:∀b u,b≠e->h.get? b=ba u->h'.get? b=ba u)(d:∃u,h'.get? e=ba u):Un fs ex H (upd H x o) h h':=by
 have f:∀b,H b=ia->b≠x:=λb n z=>by subst z;rw[n] at a;exact a
 have g:∀b,H b=ia->b≠e:=λb n z=>by
  subst z;rcases c with r|r
  .exact f b n r
  .rw[n] at r;cases r
 have i:∀b u,H b=ba u->¬dn (ba u)->b≠x:=λb u q nm z=>by subst z;rw[q] at a;exact nm a
 refine{λb u q n _ _=>k b u (g b n) q,λb u q n _ _=>{u.slots,k b u (g b n) q},λb u q n _=>by rw[Ja (f b n)];exact n,λb u q _=>?_,
  λb xs q=>by rw[Ja (i b _ q λz=>z)];exact q,λb u xs q=>by rw[Ja (i b _ q λz=>z)];exact q,λb j q=>{#[],by rw[Ja (i b _ q λz=>z),q];simp}}
 by_cases l:b=e
 .subst l;exact d
 .exact{u,k b u l q}
end
noncomputable def Ez(h:Heap)(H:Hp):List Addr:=(Li h.objs.size).filter λa=>(H a).isSome
def jn(h:Heap)(H:Hp):Heap:=So h (Ez h H)
theorem yY(h:Heap)(H:Hp):(jn h H).objs.size=h.objs.size:=PySem.W.hideAll_size _ _
theorem cY{H:Hp}{o:Obj}(e:h.get? b=ba o)(n:H b=ia):(jn h H).get? b=ba o:=
 AG _ e λa=>by
  have q:(H b).isSome=da:=(Mc.mp a).2;rw[n] at q;simp at q
theorem V0{H:Hp}{o:Obj}(e:(jn h H).get? b=ba o):h.get? b=ba o/\H b=ia:=by
 have a:h.get? b=ba o:=BG (Ez h H) e;refine{a,?_};cases q:H b with
 |none=>rfl
 |some x=>
  have c:b∈Ez h H:=Mc.mpr {dm.mpr (cc a),by simp[q]};have z:(jn h H).get? b=ia:=nB (Ez h H) c;rw[z] at e;cases e
end L2
variable{H:L2.Hp}{kvs:List (List L2.Key×L2.V)}
namespace L2
structure Mod(K:xa)(mg:Str->Option Value)(base:Heap):Prop where
 Dr:K.In base
 glob:base.Ns qf mg
 blt:∃mb,base.Ns OQ mb/\∀x:Str,x≠"__name__"->mb x=Ex x
 nolimit:base.NoLimit
structure Cx where
 prog:Va
 w:Pa
 K:xa
 mg:Str->Option Value
 base:Heap
 A:bb
 N:List Str
 fg:ja
 iq:Hp
 env:va
 outer:List va
 stack:List va
 ex:List Addr
 fn:Str->Bool
 calm:Bool
 pn:List (Addr×Obj)
 xe:Value->ja->Prop
noncomputable def Zd(l:List va):List Addr:=l.filterMap (·.frame)
noncomputable abbrev Cx.fs(X:Cx):List Addr:=Zd X.outer
def px(sc:jb)(x:Str):Prop:=sc.names.lookup x=ba .local\/sc.names.lookup x=ba .cell\/sc.names.lookup x=ba .free
def Loc(sc:jb)(x:Str):Prop:=sc.names.lookup x=ba .local\/sc.names.lookup x=ba .cell
def Look(env:va)(h:Heap)(m:Str->Option Value)(x:Str)(u:Value):Prop:=
 (env.kindOf x=ba .local/\m x=ba u)\/((env.kindOf x=ba .cell\/env.kindOf x=ba .free)/\∃c,env.cells.lookup x=ba c/\h.IsCell c (ba u))
structure Cx.Ok(X:Cx):Prop where
 mod:Mod X.K X.mg X.base
 kind:X.env.scope.kind= .function
 glob:X.env.globals=qf
 blt:X.env.builtins=OQ
 above:X.fg.heap.objs.size<=X.env.locals
 inj:∀x y c,X.env.cells.lookup x=ba c->X.env.cells.lookup y=ba c->x=y
 has:∀x,(X.env.kindOf x=ba .cell\/X.env.kindOf x=ba .free)->∃c,X.env.cells.lookup x=ba c
 ko:∀x c,X.fn x=da->X.env.cells.lookup x=ba c->X.fg.heap.objs.size<=c
 hd:X.calm=da->X.A.handled=ia
 frames:X.A.frames=ba X.stack
 oq:X.stack=X.outer\/(X.stack=X.env::X.outer/\X.env.frame=ba X.env.locals)
 kq:∀b∈X.ex,b≠X.env.locals/\∀x c,X.env.cells.lookup x=ba c->c≠b
 bs:∀b o,X.base.get? b=ba o->X.fg.heap.get? b=ba o/\X.iq b=ia
 Vj:X.base.objs.size<=X.fg.heap.objs.size
 Eo:∀b o,X.base.get? b=ba o->b∉X.ex
 zo:∀b∈X.ex,b∉X.fs
 Vh:X.fg.heap.FunFrames X.base X.outer
 Sl:∀b∈X.fs,X.iq b=ia
structure Inv(X:Cx)(pins:List (Addr×Obj))(σ:List (Option V))(H:Hp)(s:ja):Prop where
 ok:X.Ok
 os:s.os=X.fg.os
 bare:AllBare s.gens
 base:Un X.fs X.ex X.iq H X.fg.heap s.heap
 loc:∃m,s.heap.Ns X.env.locals m/\∀(i:Nat)(x:Str)(v:V),X.N[i]?=ba x->σ[i]?=ba (ba v)->px X.env.scope x->∃u,RelV v u/\Look X.env s.heap m x u
 cell:∀x c,X.env.cells.lookup x=ba c->∃v,s.heap.IsCell c v
 free:H X.env.locals=ia
 eh:∀x c,X.env.cells.lookup x=ba c->H c=ia
 pin:∀p∈X.pn++pins,s.heap.get? p.1=ba p.2/\H p.1=ia/\p.1≠X.env.locals/\p.1∉X.fs/\∀v,p.2.data≠ .cell v
 vb:ud X.prog X.w H s.heap
 len:σ.length=X.N.length
section
variable{X:Cx}{σ:List (Option V)}{H':Hp}{h':Heap}
theorem Cx.Ok.U2(a:X.Ok){o:Obj}(e:X.base.get? b=ba o):b∉X.fs:=λc=>by
 have:=(a.Vh.mem c).1;rw[e] at this;cases this
theorem Inv.bs(I:Inv X pins σ H s):∀b o,X.base.get? b=ba o->s.heap.get? b=ba o/\H b=ia:=λb o e=>
 {I.base.keep b o (I.ok.bs b o e).1 (I.ok.bs b o e).2 (I.ok.U2 e) (I.ok.Eo b o e),I.base.free b o (I.ok.bs b o e).1 (I.ok.bs b o e).2 (I.ok.Eo b o e)}
theorem Inv.bk(I:Inv X pins σ H s):∀b o,X.base.get? b=ba o->s.heap.get? b=ba o:=λb o e=>(I.bs b o e).1
theorem Inv.mod(I:Inv X pins σ H s):Mod X.K X.mg X.base:=I.ok.mod
theorem Inv.yi(I:Inv X pins σ H s):X.K.In s.heap:=I.ok.mod.Dr.keeps I.bk
theorem Inv.lt(I:Inv X pins σ H s):X.env.locals< s.heap.objs.size:=let⟨_,hn,_⟩:=I.loc;hn.lt
theorem Inv.sz(I:Inv X pins σ H s):X.fg.heap.objs.size<=s.heap.objs.size:=Bc I.ok.above (Ag I.lt)
theorem Inv.X0(I:Inv X pins σ H s)(h:s.heap.objs.size<=a):a∉X.fs:=λb=>by
 obtain⟨_,o,c,_⟩:=I.ok.Vh.mem b;exact absurd (kg (cc c) (Bc I.sz h)) (Zk _)
theorem Inv.sG(I:Inv X pins σ H s):∀x c,X.env.cells.lookup x=ba c->c≠X.env.locals:=λx c e z=>by
 obtain⟨v,o,a,hd⟩:=I.cell x c e;obtain⟨m,⟨o',es,ep,b,d,_⟩,_⟩:=I.loc;rw[z,b] at a;cases a;rw[d] at hd;cases hd
theorem Inv.Vh(I:Inv X pins σ H s):s.heap.FunFrames X.base X.outer:=by
 have a:∀(l:List va),(∀b∈Zd l,b∈X.fs)->X.fg.heap.FunFrames X.base l->s.heap.FunFrames X.base l:=by
  intro l
  induction l with
  |nil=>intro _ _;trivial
  |cons c r d=>
   intro f g;obtain⟨h,⟨L,o,hf,i,j,hd⟩,k⟩:=g;have m:L∈X.fs:=f L (by unfold Zd;rw[PQ,hf];exact Mh);obtain⟨n,e⟩:=I.base.slot L o j (I.ok.Sl L m) m λz=>I.ok.zo L z m;exact{h,{L,_,hf,i,e,hd},d (λb p=>f b (by unfold Zd;rw[PQ,hf];exact sf _ p)) k}
 exact a X.outer (λ_ p=>p) I.ok.Vh
theorem Inv.stack(I:Inv X pins σ H s):s.heap.FunFrames X.base X.stack:=by
 rcases I.ok.oq with e|⟨e,hf⟩
 .rw[e];exact I.Vh
 .rw[e];obtain⟨m,a,_⟩:=I.loc;refine .cons (by rw[I.ok.kind];decide) hf a ?_ I.Vh;exact v9 (Bc I.ok.Vj I.ok.above)
theorem Inv.VE(I:Inv X pins σ H s):∀b∈Zd X.stack,b∈X.env.locals::X.fs:=λb a=>by
 rcases I.ok.oq with e|⟨e,hf⟩
 .rw[e] at a;exact sf _ a
 .rw[e] at a;unfold Zd at a;rw[PQ,hf] at a;exact a
theorem Inv.dA(I:Inv X pins σ H s):∀b∈Zd X.stack,H b=ia:=λb a=>by
 rcases jc.mp (I.VE b a) with e|a
 .rw[e];exact I.free
 .obtain⟨_,o,c,_⟩:=I.ok.Vh.mem a;exact I.base.free b o c (I.ok.Sl b a) λz=>I.ok.zo b z a
theorem Inv.step{g':Array QQ}{t':Nat}{d':Drawn}{ch:List Addr}(I:Inv X pins σ H s)
  (a:∀b∈ch,(b∈X.ex\/X.fg.heap.objs.size<=b)/\b≠X.env.locals/\(∀x c,X.env.cells.lookup x=ba c->c≠b)/\∀p∈X.pn++pins,p.1≠b)
  (f:∀b o,b≠X.env.locals->b∉X.fs->b∉ch->s.heap.get? b=ba o->H b=ia->h'.get? b=ba o)
  (g:∀b o,b≠X.env.locals->b∈X.fs->b∉ch->s.heap.get? b=ba o->H b=ia->∃sl,h'.get? b=ba {o with slots:=sl}) (h:∀b o,b∉ch->s.heap.get? b=ba o->H b=ia->H' b=ia)
  (j:∀b o,b∉ch->s.heap.get? b=ba o->∃o',h'.get? b=ba o')
  (t:∀b xs,H b=ba (.tup xs)->H' b=ba (.tup xs)) (w:∀b o u,H b=ba (.qc o u)->H' b=ba (.qc o u)) (y:∀b ps,H b=ba (.Qo ps)->∃more,H' b=ba (.Qo (ps++more)))
  (ns:∀m,s.heap.Ns X.env.locals m->h'.Ns X.env.locals m) (A:ud X.prog X.w H' h') (B:AllBare g'):
  Inv X pins σ H' {s with heap:=h',gens:=g',drawn:=d',toks:=t'}:=by
 have C:∀b o,X.fg.heap.get? b=ba o->b≠X.env.locals:=λb o e=>Kd (kg (cc e) I.ok.above);have D:∀b o,X.fg.heap.get? b=ba o->b∉X.ex->b∉ch:=λb o e E F=>by
  rcases(a b F).1 with z|z
  .exact E z
  .exact absurd (kg (cc e) z) (Zk _)
 have G:∀x c,X.env.cells.lookup x=ba c->∀v,s.heap.IsCell c v->h'.IsCell c v:=λx c e v ⟨o,J,hd⟩=>by
  have K:c∉ch:=λz=>(a c z).2.2.1 x c e rfl;by_cases L:c∈X.fs
  .obtain⟨sl,q⟩:=g c o (I.sG x c e) L K J (I.eh x c e);exact{_,q,hd}
  .exact{o,f c o (I.sG x c e) L K J (I.eh x c e),hd}
 refine{I.ok,I.os,B,{λb o e n F E=>?_,λb o e n F E=>?_,λb o e n E=>?_,λb o e E=>?_,λb xs e=>t b xs (I.base.Xa b xs e),λb o xs e=>w b o xs (I.base.Gk b o xs e),λb ps e=>?_},?_,λx c e=>?_,?_,λx c e=>?_,λp M=>?_,A,I.len}
 .exact f b o (C b o e) F (D b o e E) (I.base.keep b o e n F E) (I.base.free b o e n E)
 .obtain⟨sl,N⟩:=I.base.slot b o e n F E;obtain⟨O,P⟩:=g b _ (C b o e) F (D b o e E) N (I.base.free b o e n E);exact⟨O,P⟩
 .obtain⟨o',N⟩:=I.base.there b o e E;exact h b o' (D b o e E) N (I.base.free b o e n E)
 .obtain⟨o',N⟩:=I.base.there b o e E;exact j b o' (D b o e E) N
 .obtain⟨Q,N⟩:=I.base.Nm b ps e;obtain⟨R,P⟩:=y b _ N;exact{Q++R,by rw[P,Array.append_assoc]}
 .obtain⟨m,S,T⟩:=I.loc;refine{m,ns m S,λi x v N P U=>?_};obtain⟨u,r,l⟩:=T i x v N P U;refine{u,r,?_};rcases l with l|⟨k,c,e,z⟩
  .exact .inl l
  .exact .inr {k,c,e,G x c e _ z}
 .obtain⟨v,z⟩:=I.cell x c e;exact{v,G x c e v z}
 .obtain⟨m,⟨o,_,_,J,_⟩,_⟩:=I.loc;exact h _ o (λz=>(a _ z).2.1 rfl) J I.free
 .obtain⟨v,o,J,hd⟩:=I.cell x c e;exact h c o (λz=>(a c z).2.2.1 x c e rfl) J (I.eh x c e)
 .obtain⟨e,n,V,W,d⟩:=I.pin p M;have K:p.1∉ch:=λz=>(a p.1 z).2.2.2 p M rfl;exact{f p.1 p.2 V W K e n,h p.1 p.2 K e n,V,W,d}
theorem Inv.un{t':Nat}(I:Inv X pins σ H s)(u:Un X.fs [] H H' s.heap h')(a:ud X.prog X.w H' h'):Inv X pins σ H' {s with heap:=h',toks:=t'}:=by
 obtain⟨m,⟨o,es,ep,c,r⟩,_⟩:=id I.loc;obtain⟨d,f⟩:=u.any c I.free (by simp);exact I.step (g':=s.gens) (d':=s.drawn) (ch:=[]) (λ_ z=>nomatch z) (λb o _ g _ e n=>u.keep b o e n g (by simp)) (λb o _ g _ e n=>u.slot b o e n g (by simp)) (λb o _ e n=>u.free b o e n (by simp)) (λb o _ e=>u.there b o e (by simp)) u.Xa u.Gk u.Nm (λh i=>by
  obtain⟨o',j,k,l,p⟩:=i;rw[c] at l;cases l;exact{_,j,k,f,p}) a I.bare
theorem Inv.call{g':Array QQ}{t':Nat}{d':Drawn}{ch:List Addr}(I:Inv X pins σ H s)(u:Un (Zd X.stack) ch H H' s.heap h')(a:ud X.prog X.w H' h')(d:AllBare g')
  (f:∀b∈ch,(b∈X.ex\/X.fg.heap.objs.size<=b)/\b≠X.env.locals/\(∀x c,X.env.cells.lookup x=ba c->c≠b)/\∀p∈X.pn++pins,p.1≠b):
  Inv X pins σ H' {s with heap:=h',gens:=g',drawn:=d',toks:=t'}:=by
 obtain⟨m,⟨o,es,ep,g,r⟩,_⟩:=id I.loc;obtain⟨h,i⟩:=u.any g I.free λz=>(f _ z).2.1 rfl;exact I.step (ch:=ch) f (λb o i j k e n=>u.keep b o e n (λz=>(jc.mp (I.VE b z)).elim i j) k) (λb o _ _ k e n=>u.any e n k) (λb o k e n=>u.free b o e n k) (λb o k e=>u.there b o e k) u.Xa u.Gk u.Nm (λl q=>by
  obtain⟨o',t,v,w,y⟩:=q;rw[g] at w;cases w;exact{_,t,v,i,y}) a d
theorem Inv.turned{t':Nat}{a:Addr}(I:Inv X pins σ H s)(k:∀b o,b≠a->s.heap.get? b=ba o->h'.get? b=ba o)(d:H a=ia)(f:a≠X.env.locals)
  (h1:a∈X.ex\/X.fg.heap.objs.size<=a) (h2:∀x c,X.env.cells.lookup x=ba c->c≠a) (g:∀p∈X.pn++pins,p.1≠a):Inv X pins σ H {s with heap:=h',toks:=t'}:=by
 have h:∀b u,H b=ba u->b≠a:=λb u e z=>by rw[z,d] at e;cases e
 refine I.step (g':=s.gens) (d':=s.drawn) (ch:=[a]) (λb i=>?_) (λb o _ _ j e _=>k b o (λz=>j (by simp[z])) e) (λb o _ _ j e _=>{o.slots,k b o (λz=>j (by simp[z])) e}) (λ_ _ _ _ n=>n)
  (λb o j e=>{o,k b o (λz=>j (by simp[z])) e}) (λ_ _ e=>e) (λ_ _ _ e=>e) (λb l e=>{#[],by rw[e];simp}) (λm t=>?_) (λb u e=>?_) I.bare
 .have e:b=a:=by simpa using i
  subst e;exact⟨h1,f,h2,g⟩
 .obtain⟨o,es,ep,w,r⟩:=t;exact{o,es,ep,k _ o (Gc f) w,r}
 .refine(I.vb b u e).Sk (λc v j q=>k c v ?_ q) (λ_ q=>q) λ_ _ q=>q;rcases j with z|z
  .rw[z];exact h b u e
  .exact h c _ z
theorem Inv.tok(I:Inv X pins σ H s)(t:Nat):Inv X pins σ H {s with toks:=t}:=I.un (h':=s.heap) (t':=t) Un.refl I.vb
theorem Inv.kept{t':Nat}(I:Inv X pins σ H s)(k:∀b u,s.heap.get? b=ba u->h'.get? b=ba u):Inv X pins σ H {s with heap:=h',toks:=t'}:=I.un (Un.kept k) (I.vb.kept k)
theorem Inv.laid{o:HO}{t':Nat}(I:Inv X pins σ H s)(k:∀b u,s.heap.get? b=ba u->h'.get? b=ba u)(c:s.heap.objs.size<=a)(d:Cd X.prog X.w (upd H a o) h' a o):
  Inv X pins σ (upd H a o) {s with heap:=h',toks:=t'}:=I.un (Un.laid k c (I.vb.fresh c)) (I.vb.laid k c d)
theorem Inv.write{x e:Addr}{o:HO}{t':Nat}(I:Inv X pins σ H s)(a:dn (H x))(c:e=x\/H e=ba (.own x))(k:∀b u,b≠e->s.heap.get? b=ba u->h'.get? b=ba u)(d:∃u,h'.get? e=ba u)
  (f:Cd X.prog X.w (upd H x o) h' x o):Inv X pins σ (upd H x o) {s with heap:=h',toks:=t'}:=I.un (Un.write a c k d) (I.vb.write a c k d f)
theorem Inv.weak{a:List (Option V)}(I:Inv X pins σ H s)(b:a.length=σ.length)(w:∀(i:Nat) v,a[i]?=ba (ba v)->σ[i]?=ba (ba v)):Inv X pins a H s:=
 {I.ok,I.os,I.bare,I.base,let⟨m,hn,hl'⟩:=I.loc;{m,hn,λi x v c d e=>hl' i x v c (w i v d) e},I.cell,I.free,I.eh,I.pin,I.vb,b.trans I.len}
theorem Inv.UO{a:List (Addr×Obj)}(I:Inv X pins σ H s)(h:∀p∈a,s.heap.get? p.1=ba p.2/\H p.1=ia/\p.1≠X.env.locals/\p.1∉X.fs/\∀v,p.2.data≠ .cell v):Inv X a σ H s:=
 {I.ok,I.os,I.bare,I.base,I.loc,I.cell,I.free,I.eh,λp b=>(Pe.mp b).elim (λz=>I.pin p (CG _ z)) (h p),I.vb,I.len}
theorem gG{N:List Str}(c:N.Nodup){j:Nat}{x:Str}(a:N[i]?=ba x)(b:N[j]?=ba x):i=j:=by
 obtain⟨h1,d⟩:=Cf.mp a;obtain⟨h2,e⟩:=Cf.mp b;exact(w9 c).mp (d.trans e.symm)
theorem fK{M:ub}{x:Str}{v:V}{u:Value}{Q:Unit->ja->Prop}(I:Inv X pins σ H s)(hN:X.N.Nodup)(hi:X.N[i]?=ba x)(f:Loc X.env.scope x)(r:RelV v u)
  (h:∀s',Inv X pins (σ.set i (ba v)) H s'->(∃a,Nh a s.heap s'.heap/\(a=X.env.locals\/X.env.cells.lookup x=ba a))->Q () s') (hf:autoParam (X.fn x=da\/X.env.scope.names.lookup x=ba .local) ZQ2._auto_1):ra M A (storeName X.env x u) Q E s:=by
 obtain⟨m,g,hl⟩:=id I.loc;have l:(X.env.scope.kind== .class||(X.env.scope.kind== .module&&X.env.locals != X.env.globals))=ma:=by rw[I.ok.kind];rfl
 have t:i< σ.length:=by rw[I.len];exact(Cf.mp hi).1
 have w:=I.sG;have B:∀{a:Addr}{h':Heap},(∃o,s.heap.get? a=ba o/\H a=ia)->Nh a s.heap h'->ud X.prog X.w H h':=λ{a h'} ha C b ob e=>by
  obtain⟨_,_,D⟩:=ha;refine(I.vb b ob e).Sk (λc F G q=>(C.2 c ?_).trans q) (λ_ q=>q) λ_ _ q=>q;rintro rfl;rcases G with rfl|G
  .rw[D] at e;cases e
  .rw[D] at G;cases G
 rcases f with J|J
 .refine wpAny_storeName_local J g (λh' K C=>?_) l;obtain⟨oL,_,_,hoL,_⟩:=id g;refine h _ {I.ok,I.os,I.bare,{λb o e n L f=>?_,λb o e n L f=>?_,I.base.free,λb o e f=>?_,I.base.Xa,I.base.Gk,I.base.Nm},{_,K,λj y v' N O e3=>?_},λy c e=>?_,I.free,I.eh,λp hp=>?_,B ⟨oL,hoL,I.free⟩ C,by simpa using I.len} {_,C,.inl rfl}
  .exact(C.2 b (Kd (kg (cc e) I.ok.above))).trans (I.base.keep b o e n L f)
  .obtain⟨sl,N⟩:=I.base.slot b o e n L f;exact{sl,(C.2 b (Kd (kg (cc e) I.ok.above))).trans N}
  .obtain⟨o',N⟩:=I.base.there b o e f;exact{o',(C.2 b (Kd (kg (cc e) I.ok.above))).trans N}
  .by_cases P:j=i
   .subst P;rw[hi] at N;cases N;rw[RQ t] at O;cases O;exact{u,r,.inl {J,by simp}}
   .rw[SQ (Gc P)] at O;obtain⟨u',r',q⟩:=hl j y v' N O e3;refine{u',r',?_};rcases q with⟨k,e⟩ |⟨k,c,e,z⟩
    .refine .inl {k,?_};have:y≠x:=λe=>P (gG hN N (e▸hi));simp[this,e]
    .exact .inr {k,c,e,z.sameBut C (w y c e)}
  .obtain⟨F,z⟩:=I.cell y c e;exact{F,z.sameBut C (w y c e)}
  .obtain⟨e,n,R,nf,d⟩:=I.pin p hp;exact{(C.2 p.1 R).trans e,n,R,nf,d}
 .have S:X.fn x=da:=by
   rcases hf with z|z
   .exact z
   .rw[z] at J;cases J
  obtain⟨c,G⟩:=I.ok.has x (.inl J);obtain⟨F,z⟩:=I.cell x c G;refine wpAny_storeName_cell I.ok.kind J G z (λh' T C=>?_);obtain⟨oc,U,W⟩:=id z;refine h {s with heap:=h'} ⟨I.ok,I.os,I.bare,⟨λb o e n L f=>?_,λb o e n L f=>?_,I.base.free,λb o e f=>?_,I.base.Xa,I.base.Gk,I.base.Nm⟩,⟨m,g.sameBut C (Gc (w x c G)),λj y v' N O e3=>?_⟩,λy Y e=>?_,I.free,I.eh,λp hp=>?_,B ⟨oc,U,I.eh x c G⟩ C,by simpa using I.len⟩ ⟨c,C,.inr G⟩
  .exact(C.2 b (Kd (kg (cc e) (I.ok.ko x c S G)))).trans (I.base.keep b o e n L f)
  .obtain⟨sl,N⟩:=I.base.slot b o e n L f;exact{sl,(C.2 b (Kd (kg (cc e) (I.ok.ko x c S G)))).trans N}
  .obtain⟨o',N⟩:=I.base.there b o e f;exact{o',(C.2 b (Kd (kg (cc e) (I.ok.ko x c S G)))).trans N}
  .by_cases P:j=i
   .subst P;rw[hi] at N;cases N;rw[RQ t] at O;cases O;exact{u,r,.inr {.inl J,c,G,T}}
   .rw[SQ (Gc P)] at O;obtain⟨u',r',q⟩:=hl j y v' N O e3;refine{u',r',?_};rcases q with q|⟨k,Y,e,z'⟩
    .exact .inl q
    .refine .inr {k,Y,e,z'.sameBut C ?_};rintro rfl;exact P (gG hN N (I.ok.inj _ _ _ e G▸hi))
  .by_cases Z:Y=c
   .subst Z;exact{_,T}
   .obtain⟨w2,z2⟩:=I.cell y Y e;exact{w2,z2.sameBut C Z}
  .obtain⟨e,n,R,nf,d⟩:=I.pin p hp;refine{(C.2 p.1 ?_).trans e,n,R,nf,d};intro q;rw[q,U] at e;have q':oc=p.2:=Dd e;exact d F (by rw[<-q'];exact W)
theorem HP{M:ub}{x:Str}{v:V}{u:Value}{Q:Unit->ja->Prop}(I:Inv X pins σ H s)(a:X.N.Nodup)(hi:X.N[i]?=ba x)(b:Loc X.env.scope x)(r:RelV v u)
  (h:∀s',Inv X pins (σ.set i (ba v)) H s'->Q () s') (hf:autoParam (X.fn x=da\/X.env.scope.names.lookup x=ba .local) ZQ2._auto_1):ra M A (storeName X.env x u) Q E s:=
 fK I a hi b r (λs' c _=>h s' c) hf
theorem Inv.kA{s':ja}{ch:List Addr}(I:Inv X pins σ H s)(a:s'.os=s.os)(u:Un (Zd X.stack) ch H H' s.heap s'.heap)(d:ud X.prog X.w H' s'.heap)(f:AllBare s'.gens)
  (g:∀b∈ch,(b∈X.ex\/X.fg.heap.objs.size<=b)/\b≠X.env.locals/\(∀x c,X.env.cells.lookup x=ba c->c≠b)/\∀p∈X.pn++pins,p.1≠b):Inv X pins σ H' s':=by
 obtain⟨h',h,i,j,o'⟩:=s';have e:o'=s.os:=a;subst e;exact I.call (g':=h) (t':=j) (d':=i) u d f g
end
abbrev XK:=Value->Option Addr->Hp->Prop
abbrev St:=List (Option V)
abbrev VK:=V->Hp->Prop
abbrev TE:=St->Hp->VK->Prop
abbrev TT:=St->Hp->(Bool->Hp->Prop)->Prop
abbrev TA:=St->Hp->(List V->Hp->Prop)->Prop
structure Ends where
 nx:St->Hp->Prop
 rt:VK
 bk:St->Hp->Prop:=λ_ _=>False
 ct:St->Hp->Prop:=λ_ _=>False
abbrev TS:=Ends->St->Hp->Prop
inductive EP(X:Cx)(pins:List (Addr×Obj))(σ:St)(Q:VK)(u:Value)(s':ja):Prop|mk:∀v H',Inv X pins σ H' s'->RelV v u->Q v H'->EP X pins σ Q u s'
def TP(X:Cx)(pins:List (Addr×Obj))(σ:St)(Q:Bool->Hp->Prop)(b:Bool)(s':ja):Prop:=∃H',Inv X pins σ H' s'/\Q b H'
inductive AP(X:Cx)(pins:List (Addr×Obj))(σ:St)(Q:List V->Hp->Prop)(us:List Value)(s':ja):Prop|mk:∀vs H',Inv X pins σ H' s'->yb vs us->Q vs H'->AP X pins σ Q us s'
def SP(X:Cx)(pins:List (Addr×Obj))(D:Ends)(f:Flow)(s':ja):Prop:=
 match f with
 | .next=>∃a H',Inv X pins a H' s'/\D.nx a H'
 | .brk=>∃a H',Inv X pins a H' s'/\D.bk a H'
 | .cont=>∃a H',Inv X pins a H' s'/\D.ct a H'
 | .ret u=>∃v a H',Inv X pins a H' s'/\RelV v u/\D.rt v H'
def PE(X:Cx)(e:ua)(t:TE):Prop:=
 ∀(pins:List (Addr×Obj))(s:ja)(σ:St)(H:Hp)(Q:VK),Inv X pins σ H s->t σ H Q->ra (Ea X.prog X.w) X.A (Ic e X.env) (EP X pins σ Q) X.xe s
def PT(X:Cx)(e:ua)(t:TT):Prop:=
 ∀(pins:List (Addr×Obj))(s:ja)(σ:St)(H:Hp)(Q:Bool->Hp->Prop),Inv X pins σ H s->t σ H Q->ra (Ea X.prog X.w) X.A (isTrue e X.env (Ic e X.env)) (TP X pins σ Q) X.xe s
def PW(X:Cx)(e:ua)(t:TT):Prop:=
 ∀(a:Ma Value)(pins:List (Addr×Obj))(s:ja)(σ:St)(H:Hp)(Q:Bool->Hp->Prop),Inv X pins σ H s->t σ H Q->ra (Ea X.prog X.w) X.A (isTrue e X.env a) (TP X pins σ Q) X.xe s
theorem PW.pt{X:Cx}{t:TT}(h:PW X e t):PT X e t:=h _
def PA(X:Cx)(es:List ua)(t:TA):Prop:=
 ∀(pos:La)(pins:List (Addr×Obj))(s:ja)(σ:St)(H:Hp)(Q:List V->Hp->Prop),Inv X pins σ H s->t σ H Q->ra (Ea X.prog X.w) X.A (UQ (Ye pos (Jc es X.env))) (AP X pins σ Q) X.xe s
def PS(X:Cx)(st:za)(t:TS):Prop:=
 ∀(pins:List (Addr×Obj))(s:ja)(σ:St)(H:Hp)(D:Ends),Inv X pins σ H s->t D σ H->ra (Ea X.prog X.w) X.A (exec st X.env) (SP X pins D) X.xe s
def yh(X:Cx)(st:List za)(t:TS):Prop:=
 ∀(pins:List (Addr×Obj))(s:ja)(σ:St)(H:Hp)(D:Ends),Inv X pins σ H s->t D σ H->ra (Ea X.prog X.w) X.A (execs st X.env) (SP X pins D) X.xe s
theorem Gb{t:Ma α}{Q b:α->ja->Prop}{M:ub}(h:ra M A t Q E s)(c:∀a s,Q a s->b a s):ra M A t b E s:=jh h c λ_ _ x=>x
end L2
variable{X:L2.Cx}{σ:L2.St}
namespace L2
section
inductive Ua(i:Nat)(σ:L2.St)(H:Hp)(Q:VK):Prop|mk:∀v,σ[i]?=ba (ba v)->Q v H->Ua i σ H Q
def tC(v:V):TE:=λ_ H Q=>Q v H
theorem UX{x:Str}{pos:La}(a:X.N[i]?=ba x)(b:px X.env.scope x)(hd:autoParam ((x==("__debug__":Str))=ma) ZQ1._auto_1)(d:autoParam ((x==("__classdict__":Str))=ma) ZQ1._auto_1):PE X (.Name x pos) (Ua i):=by
 intro f s σ H Q I h;obtain⟨v,e,h⟩:=h;obtain⟨m,g,j⟩:=I.loc;obtain⟨u,r,l⟩:=j i x v a e b;have k:EP X f σ Q u s:=⟨v,H,I,r,h⟩;rcases l with⟨n,o⟩ |⟨n,c,p,q⟩
 .exact VQ (wpAny_loadName_local I.ok.kind n g o k) hd
 .rcases n with n|n
  .exact VQ (wpAny_loadName_cell I.ok.kind n p q k) hd
  .exact VQ (wpAny_loadName_free I.ok.kind n p q k d) hd
theorem Sb{i j pos}:PE X (.Constant (.int i) j pos) (tC (.int i)):=λ_ _ _ H _ I h=>wpAny_Constant_int {.int i,H,I.tok _,{_,rfl},h}
theorem xi{b j pos}:PE X (.Constant (.bool b) j pos) (tC (.bl b)):=λ_ _ _ H _ I h=>Constant_bool {.bl b,H,I,rfl,h}
theorem uG{j pos}:PE X (.Constant .none j pos) (tC .Tb):=λ_ _ _ H _ I h=>x9 {.Tb,H,I,rfl,h}
theorem Iz{x j pos}:PE X (.Constant (.str x) j pos) (tC (.str x)):=λ_ _ _ H _ I h=>Calls.Constant_str {.str x,H,I.tok _,{_,rfl},h}
def Gl(X:Cx)(x:Str):Prop:=X.env.kindOf x=ba .globalImplicit
theorem Wr{x:Str}{u:Value}{pos:La}(I:Inv X pins σ H s)(a:Gl X x)(b:X.mg x=ba u)(h:Q u s)
  (hd:autoParam ((x==("__debug__":Str))=ma) ZQ1._auto_1):ra (Ea X.prog X.w) X.A (Ic (.Name x pos) X.env) Q E s:=
 y9 I.ok.kind a (Calls.loadGlobal_global (by rw[I.ok.glob];exact I.mod.glob.keeps I.bk) b h) hd
theorem xq{x:Str}{u:Value}{pos:La}(I:Inv X pins σ H s)(a:Gl X x)(b:X.mg x=ia)(c:Ex x=ba u)(h:Q u s)
  (d:autoParam (x≠"__name__") ZQ1._auto_1) (hd:autoParam ((x==("__debug__":Str))=ma) ZQ1._auto_1):ra (Ea X.prog X.w) X.A (Ic (.Name x pos) X.env) Q E s:=by
 obtain⟨e,h1,h2⟩:=I.mod.blt;exact y9 I.ok.kind a (Calls.loadGlobal_builtin (by rw[I.ok.glob];exact I.mod.glob.keeps I.bk) b (by rw[I.ok.blt];exact h1.keeps I.bk) ((h2 x d).trans c) h) hd
theorem jZ{x:Str}{v:V}{u:Value}{pos:La}(a:Gl X x)(b:X.mg x=ba u)(r:RelV v u)(hd:autoParam ((x==("__debug__":Str))=ma) ZQ1._auto_1):PE X (.Name x pos) (tC v):=
 λ_ _ _ H _ I h=>Wr I a b ⟨v,H,I,r,h⟩ hd
variable{a b:ua}{ta tb:TE}{pos:La}
def PC(X:Cx)(op:wb)(a b:ua)(t:TE):Prop:=
 ∀(pins:List (Addr×Obj))(s:ja)(σ:St)(H:Hp)(Q:VK),Inv X pins σ H s->t σ H Q->
  ra (Ea X.prog X.w) X.A (Ic a X.env) (λv c=>ra (Ea X.prog X.w) X.A (Ic b X.env) (λu d=>ra (Ea X.prog X.w) X.A (ee op v u) (EP X pins σ Q) X.xe d) X.xe c) X.xe s
theorem BQ(b:ua){op:wb}(h:op≠ .In)(h2:op≠ .NotIn):Lq op b=ma:=by
 have a:(op==CmpOp.In)=ma:=by cases op<;>first|rfl|exact absurd rfl h
 have c:(op==CmpOp.NotIn)=ma:=by cases op<;>first|rfl|exact absurd rfl h2
 cases b<;>simp[Lq,a,c]
def lP(ta:TE):TE:=λσ H Q=>ta σ H λx H1=>Q (.bl (decide (x= .Tb))) H1
theorem RelV.bU{x:V}{v:Value}(r:RelV x v):(v==Kh)=decide (x= .Tb):=by
 cases x with
 |Tb=>cases r;rfl
 |bl _=>cases r;rfl
 |int _=>obtain⟨t,rfl⟩:=r;rfl
 |str _=>obtain⟨t,rfl⟩:=r;rfl
 |Yg _=>obtain⟨t,rfl⟩:=r;rfl
 |Av _=>obtain⟨t,rfl⟩:=r;rfl
 |ref _=>cases r;rfl
 |ty _=>cases r;rfl
theorem fB{j pos'}(b:PE X a ta):PC X .Is a (.Constant .none j pos') (lP ta):=by
 intro c s σ H Q I h;refine Gb (b c s σ H _ I h) λv d ⟨x,H1,I1,r1,q1⟩=>?_;exact x9 (is_none_gen {.bl _,H1,I1,by rw[r1.bU];rfl,q1})
inductive jB(Q:Bool->Hp->Prop)(x:V)(H1:Hp):Prop|mk:∀c,x= .bl c->Q c H1->jB Q x H1
def tB(t:TE):TT:=λσ H Q=>t σ H (jB Q)
theorem IV{op:wb}{t:TE}(h:PC X op a b t)(h1:Lq op b=ma:=by first|exact BQ _ (by decide) (by decide) |rfl):PE X (.Compare a [op] [b] pos) t:=λc s σ H Q I d=>B9 (h c s σ H Q I d) h1
theorem Ck{op:wb}{t:TE}(h:PC X op a b t)(h1:Lq op b=ma:=by first|exact BQ _ (by decide) (by decide) |rfl):PT X (.Compare a [op] [b] pos) (tB t):=by
 intro e s σ H Q I f;refine C9 (Gb (h e s σ H _ I f) λv g h1=>Gb h1 λu i h2=>Gb h2 λc j ⟨x,H1,I1,r1,q1⟩=>?_) h1;obtain⟨d,rfl,q⟩:=q1;cases r1;exact il ⟨H1,I1,q⟩
theorem Nd{t:TE}(h:PE X e t)(a:autoParam (∀b,isTrue e X.env b=(do let v<-b;Fx e.pos;To [v] (truthy v))) ZQ3._auto_1):PT X e (tB t):=by
 intro c s σ H Q I f;refine isTrue_plain (Gb (h c s σ H _ I f) λv g ⟨x,H1,I1,r1,q1⟩=>?_) (a _);obtain⟨d,rfl,q⟩:=q1;cases r1;exact il ⟨H1,I1,q⟩
variable{tA tB':TT}{rest:List ua}
def xw(t u:TT):TT:=λσ H Q=>t σ H λc H1=>if c=da then u σ H1 Q else Q ma H1
def sv(t u:TT):TT:=λσ H Q=>t σ H λc H1=>if c=da then Q da H1 else u σ H1 Q
def Ol(t:TT):TT:=λσ H Q=>t σ H λc H1=>Q (!c) H1
theorem ft(b:PT X a tA):PW X (.BoolOp .And [a] pos) tA:=by
 intro d f s σ H Q I h;refine D9 (Gb (b f s σ H Q I h) λc g e=>?_);cases c with
 |true=>exact isTrue_and_nil e
 |false=>exact e
theorem ij(b:PT X a tA):PW X (.BoolOp .Or [a] pos) tA:=by
 intro d f s σ H Q I h;refine isTrue_or (Gb (b f s σ H Q I h) λc g e=>?_);cases c with
 |false=>exact isTrue_or_nil e
 |true=>exact e
theorem Er(d:PT X a tA)(e:PW X (.BoolOp .And (b::rest) pos) tB'):PW X (.BoolOp .And (a::b::rest) pos) (xw tA tB'):=by
 intro f g s σ H Q I h;refine D9 (Gb (d g s σ H _ I h) λc i ⟨H1,I1,q1⟩=>?_);cases c with
 |true=>exact e f g i σ H1 Q I1 q1
 |false=>exact⟨H1,I1,q1⟩
theorem vh(d:PT X a tA)(e:PW X (.BoolOp .Or (b::rest) pos) tB'):PW X (.BoolOp .Or (a::b::rest) pos) (sv tA tB'):=by
 intro f g s σ H Q I h;refine isTrue_or (Gb (d g s σ H _ I h) λc i ⟨H1,I1,q1⟩=>?_);cases c with
 |true=>exact⟨H1,I1,q1⟩
 |false=>exact e f g i σ H1 Q I1 q1
theorem Yf(b:PT X a tA):PT X (.UnaryOp .Not a pos) (Ol tA):=by
 intro d s σ H Q I h;exact isTrue_not (b d s σ H (λc H1=>Q (!c) H1) I h)
def WW(ta tb:TE):TE:=λσ H Q=>ta σ H λx H1=>∃c,x= .bl c/\if c=da then tb σ H1 Q else Q (.bl ma) H1
def ZY(ta tb:TE):TE:=λσ H Q=>ta σ H λx H1=>∃c,x= .bl c/\if c=da then Q (.bl da) H1 else tb σ H1 Q
theorem Lm{op}{t:TE}(h:PE X a t):PE X (.BoolOp op [a] pos) t:=λb s σ H Q I c=>BoolOp_one (h b s σ H Q I c)
theorem lO(d:PE X a ta)(e:PE X (.BoolOp .And (b::rest) pos) tb):PE X (.BoolOp .And (a::b::rest) pos) (WW ta tb):=by
 intro f s σ H Q I h;refine BoolOp_and (Gb (d f s σ H _ I h) λv g ⟨x,H1,I1,r1,i⟩=>?_);obtain⟨c,rfl,i⟩:=i;cases r1;refine il ?_;cases c with
 |true=>exact e f g σ H1 Q I1 i
 |false=>exact{.bl ma,H1,I1,rfl,i}
theorem fq(d:PE X a ta)(e:PE X (.BoolOp .Or (b::rest) pos) tb):PE X (.BoolOp .Or (a::b::rest) pos) (ZY ta tb):=by
 intro f s σ H Q I h;refine BoolOp_or (Gb (d f s σ H _ I h) λv g ⟨x,H1,I1,r1,i⟩=>?_);obtain⟨c,rfl,i⟩:=i;cases r1;refine il ?_;cases c with
 |false=>exact e f g σ H1 Q I1 i
 |true=>exact{.bl da,H1,I1,rfl,i}
def z4(t:TT)(ta tb:TE):TE:=λσ H Q=>t σ H λc H1=>if c=da then ta σ H1 Q else tb σ H1 Q
theorem PD{c:ua}(e:PT X c tA)(f:PE X a ta)(g:PE X b tb):PE X (.IfExp c a b pos) (z4 tA ta tb):=by
 intro i s σ H Q I h;refine wpAny_IfExp (Gb (e i s σ H _ I h) λd j ⟨H1,I1,q1⟩=>?_);cases d with
 |true=>exact f i j σ H1 Q I1 q1
 |false=>exact g i j σ H1 Q I1 q1
end
def Ia(K:xa)(H:Hp)(a:Addr)(xs:List V):Prop:=
 Rd H a (.lst xs)\/
  ∃(o:Obj)(its:Array Value)(n:Nat),K.lookup a=ba o/\o.cls= .type "list"/\o.dict=ia/\o.data= .seq its n/\its.size<=sizeLine/\yb xs its.toList
def Ba(K:xa)(H:Hp)(a:Addr)(xs:List V):Prop:=
 Rd H a (.tup xs)\/
  ∃(o:Obj)(its:Array Value)(n:Nat),K.lookup a=ba o/\o.cls= .type "tuple"/\o.data= .seq its n/\its.size<=sizeLine/\yb xs its.toList
noncomputable def c7:Value->Option V
 | .none=>ba .Tb
 | .bool b=>ba (.bl b)
 | .int i _=>ba (.int i)
 | .str x _=>ba (.str x)
 | .bytes b _=>ba (.Yg b)
 | .float b _=>ba (.Av b)
 | .ref a=>ba (.ref a)
 | .type n=>ba (.ty n)
 |_=>ia
theorem RelV.abs{x:V}{u:Value}(r:RelV x u):c7 u=ba x:=by
 cases x with
 |Tb=>cases r;rfl
 |bl _=>cases r;rfl
 |int _=>obtain⟨t,rfl⟩:=r;rfl
 |str _=>obtain⟨t,rfl⟩:=r;rfl
 |Yg _=>obtain⟨t,rfl⟩:=r;rfl
 |Av _=>obtain⟨t,rfl⟩:=r;rfl
 |ref _=>cases r;rfl
 |ty _=>cases r;rfl
theorem RelV.inj{x y:V}{u:Value}(r:RelV x u)(q:RelV y u):x=y:=Dd (r.abs.symm.trans q.abs)
theorem yb.inj:∀{xs ys:List V}{us:List Value},yb xs us->yb ys us->xs=ys
 |_,_,_,.nil,.nil=>rfl
 |_,_,_,.cons r t,.cons a b=>by rw[r.inj a,yb.inj t b]
section
variable{xs ys:List V}
theorem Ia.of(h:H a=ba (.lst xs)):Ia K H a xs:= .inl (.inl h)
theorem Ba.of(h:H a=ba (.tup xs)):Ba K H a xs:= .inl (.inl h)
theorem Inv.list(I:Inv X pins σ H s)(h:Ia X.K H a xs):∃its:List Value,yb xs its/\PlainL s.heap a its.toArray/\xs.length<=sizeLine:=by
 rcases h with h|⟨o,its,n,b,c,hd,d,f,r⟩
 .obtain⟨z,its,n,r,e⟩:=h.ok I.vb;exact{its,r,{_,n,e,rfl,rfl,rfl},z}
 .refine{its.toList,r,{o,n,I.yi a o b,c,hd,by simpa using d},?_};have e:=r.length;simp only[Ng] at e;omega
theorem Inv.tuple(I:Inv X pins σ H s)(h:Ba X.K H a xs):∃its:List Value,yb xs its/\qj s.heap a its.toArray/\xs.length<=sizeLine:=by
 rcases h with h|⟨o,its,n,b,c,d,f,r⟩
 .obtain⟨z,its,r,p⟩:=h.ok I.vb;exact⟨its,r,p.1,z⟩
 .refine{its.toList,r,{o,I.yi a o b,c,n,by simpa using d},?_};have e:=r.length;simp only[Ng] at e;omega
theorem Inv.zE(I:Inv X pins σ H s)(h:Ia X.K H a xs)(h':Ia X.K H a ys):xs=ys:=by
 obtain⟨its,r,⟨o,n,e,_,_,d⟩,_⟩:=I.list h;obtain⟨b,c,⟨o',f,g,_,_,i⟩,_⟩:=I.list h';rw[e] at g;cases g;rw[d] at i;injection i with d1 _;have:its=b:=by simpa using wc WQ d1
 subst this;exact r.inj c
theorem Inv.DA(I:Inv X pins σ H s)(h:Ba X.K H a xs)(h':Ba X.K H a ys):xs=ys:=by
 obtain⟨its,r,⟨o,e,_,n,d⟩,_⟩:=I.tuple h;obtain⟨b,c,⟨o',f,_,g,i⟩,_⟩:=I.tuple h';rw[e] at f;cases f;rw[d] at i;injection i with d1 _;have:its=b:=by simpa using wc WQ d1
 subst this;exact r.inj c
end
noncomputable abbrev Cx.cm(X:Cx)(E:Value->ja->Prop):Cx:={X with xe:=E}
noncomputable abbrev Cx.qt(X:Cx):Cx:=X.cm λ_ _=>False
theorem Cx.Ok.cm(a:X.Ok)(E:Value->ja->Prop):(X.cm E).Ok:=
 ⟨a.mod,a.kind,a.glob,a.blt,a.above,a.inj,a.has,a.ko,a.hd,a.frames,a.oq,a.kq,a.bs,a.Vj,a.Eo,a.zo,a.Vh,a.Sl⟩
theorem Cx.Ok.bo(a:(X.cm E).Ok):X.Ok:=
 ⟨a.mod,a.kind,a.glob,a.blt,a.above,a.inj,a.has,a.ko,a.hd,a.frames,a.oq,a.kq,a.bs,a.Vj,a.Eo,a.zo,a.Vh,a.Sl⟩
theorem Inv.cm(I:Inv X pins σ H s)(E:Value->ja->Prop):Inv (X.cm E) pins σ H s:={I.ok.cm E,I.os,I.bare,I.base,I.loc,I.cell,I.free,I.eh,I.pin,I.vb,I.len}
theorem Inv.bo(I:Inv (X.cm E) pins σ H s):Inv X pins σ H s:=⟨I.ok.bo,I.os,I.bare,I.base,I.loc,I.cell,I.free,I.eh,I.pin,I.vb,I.len⟩
theorem SP.bo{D:Ends}{f:Flow}{s':ja}(h:SP (X.cm E) pins D f s'):SP X pins D f s':=by
 cases f with
 |next=>obtain⟨a,H',I,q⟩:=h;exact⟨a,H',I.bo,q⟩
 |brk=>obtain⟨a,H',I,q⟩:=h;exact⟨a,H',I.bo,q⟩
 |cont=>obtain⟨a,H',I,q⟩:=h;exact⟨a,H',I.bo,q⟩
 |ret u=>obtain⟨v,a,H',I,r,q⟩:=h;exact⟨v,a,H',I.bo,r,q⟩
theorem yh.qt{st:List za}{t:TS}(h:yh X.qt st t):yh X st t:=λa s σ H D I b=>
 jh (h a s σ H D (I.cm _) b) (λ_ _ q=>q.bo) λ_ _ z=>Og z
section
variable{st:za}{rest:List za}{t u:TS}{te:TE}{pos:La}
def qF:TS:=λD σ H=>D.nx σ H
def yo(t u:TS):TS:=λD σ H=>t {D with nx:=u D} σ H
theorem Ob:yh X [] qF:=λ_ _ σ H _ I h=>oB ⟨σ,H,I,h⟩
theorem Ga(h1:PS X st t)(h2:yh X rest u):yh X (st::rest) (yo t u):=by
 intro a s σ H D I h;refine E9 (Gb (h1 a s σ H {D with nx:=u D} I h) λf b q=>?_);cases f with
 |next=>
  obtain⟨c,H',d,q⟩:=q;exact h2 a b c H' D d q
 |ret v=>exact q
 |brk=>exact q
 |cont=>exact q
theorem Ca(h1:PS X st t):yh X [st] t:=by
 intro a s σ H D I h;refine E9 (Gb (h1 a s σ H D I h) λf b q=>?_);cases f with
 |next=>exact oB q
 |ret v=>exact q
 |brk=>exact q
 |cont=>exact q
theorem Inv.quiet(I:Inv X pins σ H s):F9 X.env=ma:=by simp[F9,I.ok.kind]
def oN(te:TE):TS:=λD σ H=>te σ H λ_ H1=>D.nx σ H1
theorem vi(a:PE X e te)(b:autoParam (Mq e ia pos.line X.env=pd ma) ZQ0._auto_1):PS X (.Expr e pos) (oN te):=by
 intro c s σ H D I h;exact wpAny_Expr_any (Gb (a c s σ H _ I h) λv d ⟨x,H1,I1,r1,q1⟩=>⟨σ,H1,I1,q1⟩) I.quiet b
def pD(te:TE):TS:=λD σ H=>te σ H D.rt
theorem Oa(a:PE X e te):PS X (.Return (ba e) pos) (pD te):=by
 intro b s σ H D I h;exact wpAny_Return_some (Gb (a b s σ H _ I h) λv c ⟨x,H1,I1,r1,q1⟩=>⟨x,σ,H1,I1,r1,q1⟩)
def Jm(c:TT)(t u:TS):TS:=λD σ H=>c σ H λb H1=>if b=da then t D σ H1 else u D σ H1
theorem Lb{c:ua}{a b:List za}{tc:TT}(e:PT X c tc)(f:yh X a t)(g:yh X b u):PS X (.If c a b pos) (Jm tc t u):=by
 intro i s σ H D I h;refine wpAny_If (Gb (e i s σ H _ I h) λd j ⟨H1,I1,q1⟩=>?_);cases d with
 |true=>exact f i j σ H1 D I1 q1
 |false=>exact g i j σ H1 D I1 q1
def K8:TS:=λ_ _ _=>False
theorem SU:PS X st K8:=λ_ _ _ _ _ _ h=>h.elim
end
abbrev TG:=V->St->Hp->(St->Hp->Prop)->Prop
abbrev vt:=List V->St->Hp->(St->Hp->Prop)->Prop
def PG(X:Cx)(a:ua)(t:TG):Prop:=
 ∀(pins:List (Addr×Obj))(s:ja)(σ:St)(H:Hp)(v:V)(u:Value)(Q:St->Hp->Prop),Inv X pins σ H s->RelV v u->t v σ H Q->
  ra (Ea X.prog X.w) X.A (pB a X.env u) (λ_ s'=>∃b H',Inv X pins b H' s'/\Q b H') X.xe s
def FA(X:Cx)(ts:List ua)(t:vt):Prop:=
 ∀(pins:List (Addr×Obj))(s:ja)(σ:St)(H:Hp)(vs:List V)(us:List Value)(Q:St->Hp->Prop),Inv X pins σ H s->yb vs us->t vs σ H Q->
  ra (Ea X.prog X.w) X.A (assignInOrder ((qB ts X.env).map (·.2)) us) (λ_ s'=>∃a H',Inv X pins a H' s'/\Q a H') X.xe s
section
variable{pos:La}
def Le(i:Nat):TG:=λv σ H Q=>Q (σ.set i (ba v)) H
theorem iz{x:Str}(a:X.N.Nodup)(hi:X.N[i]?=ba x)(b:Loc X.env.scope x)(hf:autoParam (X.fn x=da\/X.env.scope.names.lookup x=ba .local) ZQ2._auto_1):PG X (.Name x pos) (Le i):=by
 intro c s σ H v u Q I r h;exact G9 (HP I a hi b r (λs' d=>{_,H,d,h}) hf)
theorem Md{x:Str}(a:autoParam (X.N.Nodup) ZQ4._auto_1)(hi:autoParam (X.N[i]?=ba x) ZQ0._auto_1)(b:Loc X.env.scope x:=by exact rB rfl)(hf:autoParam (X.fn x=da\/X.env.scope.names.lookup x=ba .local) ZQ2._auto_1):PG X (.Name x pos) (Le i):=iz a hi b hf
def FF:vt:=λvs σ H Q=>vs=[]/\Q σ H
inductive Ht(t:TG)(u:vt)(vs:List V)(σ:L2.St)(H:Hp)(Q:L2.St->Hp->Prop):Prop|mk:∀v r,vs=v::r->(t v σ H λσ' H'=>u r σ' H' Q)->Ht t u vs σ H Q
theorem mF:FA X [] FF:=by
 intro a s σ H b c Q I r h;obtain⟨e,h⟩:=h;subst e;cases r;exact assignInOrder_nil ⟨σ,H,I,h⟩
theorem Dt{es:List ua}{t:TG}{u:vt}(h1:PG X e t)(h2:FA X es u)
  (a:autoParam ((qB (e::es) X.env).map (·.2)=pB e X.env::(qB es X.env).map (·.2)) ZQ0._auto_1):FA X (e::es) (Ht t u):=by
 intro b s σ H c d Q I r h;obtain⟨v,f,g,h⟩:=h;subst g;cases r with
 |cons r i=>
  rw[a];refine assignInOrder_cons (Gb (h1 b s σ H _ _ _ I r h) λ_ j ⟨σ1,H1,I1,q1⟩=>?_);exact h2 b j σ1 H1 _ _ Q I1 i q1
inductive rA(K:xa)(n:Nat)(t:vt)(v:V)(σ:L2.St)(H:Hp)(Q:L2.St->Hp->Prop):Prop|mk:∀a xs,v= .ref a->Ba K H a xs->xs.length=n->t xs σ H Q->rA K n t v σ H Q
theorem lF{es:List ua}{t:vt}{n:Nat}(c:X.calm=da)(h:FA X es t)
  (d:autoParam ((qB es X.env).length=n) ZQ0._auto_1) (f:autoParam ((qB es X.env).findIdx? (·.1)=ia) ZQ0._auto_1):PG X (.Tuple es k pos) (rA X.K n t):=by
 intro g s σ H v u Q I r i;obtain⟨a,xs,j,l,m,i⟩:=i;subst j;cases r;obtain⟨its,p,q,w⟩:=I.tuple l;refine assign_Tuple_tuple (I.ok.hd c) q (by simp[d,<-m,p.length]) f λh' x=>?_;have y:Inv X g σ H {s with heap:=h'}:=I.kept (t':=s.toks) λb o e=>x b o (Kd (cc e)) e;exact h g _ σ H xs _ Q y (by simpa using p) i
def Co(te:TE)(g:TG):TS:=λD σ H=>te σ H λx H1=>g x σ H1 D.nx
theorem Qs{x:Str}{te:TE}{pos':La}(a:X.N.Nodup)(hi:X.N[i]?=ba x)(b:Loc X.env.scope x)(c:PE X e te)(d:autoParam (Mq e (ba (.Name x pos')) pos.line X.env=pd ma) ZQ0._auto_1)(hf:autoParam (X.fn x=da\/X.env.scope.names.lookup x=ba .local) ZQ2._auto_1):
  PS X (.Assign [.Name x pos'] e pos) (Co te (Le i)):=by
 intro f s σ H D I h;refine wpAny_Assign_Name (Gb (c f s σ H _ I h) λv g ⟨y,H1,I1,r1,q1⟩=>?_) d;exact HP I1 a hi b r1 (λj k=>{_,H1,k,q1}) hf
theorem nc{x:Str}{te:TE}{pos':La}(a:PE X e te)(b:autoParam (X.N.Nodup) ZQ4._auto_1)(hi:autoParam (X.N[i]?=ba x) ZQ0._auto_1)(c:Loc X.env.scope x:=by exact rB rfl)(d:autoParam (Mq e (ba (.Name x pos')) pos.line X.env=pd ma) ZQ0._auto_1)(hf:autoParam (X.fn x=da\/X.env.scope.names.lookup x=ba .local) ZQ2._auto_1):PS X (.Assign [.Name x pos'] e pos) (Co te (Le i)):=Qs b hi c a d hf
end
section
variable{pos:La}
def gX(c:TT)(tb:TS):TS:=λD σ H=>∃W:Nat->St->Hp->Prop,(∃m,W m σ H)/\∀m σ H,W m σ H->
 c σ H λb H1=>if b=da then∃N:St->Hp->Prop,(∀a H',N a H'->∃d,d< m/\W d a H')/\tb {D with nx:=N,ct:=N,bk:=D.nx} σ H1 else D.nx σ H1
theorem yF{c:ua}{a:List za}{tc:TT}{tb:TS}(d:XQ (Ea X.prog X.w) X.A X.env X.xe)(e:PT X c tc)(g:yh X a tb):PS X (.While c a [] pos) (gX tc tb):=by
 intro i s σ H D I h;obtain⟨W,⟨j,k⟩,l⟩:=h;refine wpAny_While (codeAny_whileLoop (λn s'=>∃m H',Inv X i m H' s'/\W n m H') ?_ j ⟨σ,H,I,k⟩);rintro n o ⟨p,H1,q,r⟩;refine Yt d (Gb (e i o p H1 _ q (l n p H1 r)) λb t ⟨H2,I2,u⟩=>?_);cases b with
 |true=>
  obtain⟨N,w,u⟩:=u;rw[qa rfl];refine Yt d (Gb (g i t p H2 _ I2 u) λf x y=>?_);cases f with
  |next=>
   obtain⟨z,A,B,C⟩:=y;obtain⟨E,F,G⟩:=w z A C;exact⟨E,F,z,A,B,G⟩
  |cont=>
   obtain⟨z,A,B,C⟩:=y;obtain⟨E,F,G⟩:=w z A C;exact⟨E,F,z,A,B,G⟩
  |brk=>exact y
  |ret v=>exact y
 |false=>
  rw[oa se];exact oB ⟨p,H2,I2,u⟩
end
structure It where
 go:Nat->Hp->Prop
 Gj:Nat->Hp->V->Hp->Prop
 stop:Nat->Hp->Prop
def Dj(X:Cx)(pins:List (Addr×Obj))(H:Hp)(b:Addr):Prop:=
 H b=ia/\b≠X.env.locals/\b∉X.fs/\(b∈X.ex\/X.fg.heap.objs.size<=b)/\(∀x c,X.env.cells.lookup x=ba c->c≠b)/\∀p∈X.pn++pins,p.1≠b
theorem Inv.Xp{H':Hp}(I:Inv X pins σ H s)(a:s.heap.objs.size<=b)(d:H' b=ia):Dj X pins H' b:=by
 refine{d,fm (kg I.lt a),I.X0 a,.inr (Bc I.sz a),λx c e z=>?_,λp f z=>?_}
 .obtain⟨v,q⟩:=I.cell x c e;exact absurd (kg q.lt (by rw[z];exact a)) (Zk _)
 .exact absurd (kg (cc (I.pin p f).1) (by rw[z];exact a)) (Zk _)
structure Turn(P:Va)(w:Pa)(K:xa)(tg:ua)(J:It)(fp:List Addr)(it:Addr)(tn:Nat->Heap->Prop):Prop where
 mem:it∈fp
 obj:∀i h,tn i h->∀b∈fp,∃o,h.get? b=ba o/\∀v,o.data≠ .cell v
 keep:∀i h h',tn i h->(∀b∈fp,∀o,h.get? b=ba o->h'.get? b=ba o)->tn i h'
 item:∀(X:Cx),X.prog=P->X.w=w->X.K=K->X.calm=da->∀(i:Nat)(pins:List (Addr×Obj))(s:ja)(σ:St)(H:Hp)(E:Value->ja->Prop),Inv X pins σ H s->(∀b∈fp,Dj X pins H b)->tn i s.heap->J.go i H->
  ra (Ea P w) X.A (Pg (.ref it)) (λr s1=>∃u,r=ba u/\
   ra (Ea P w) X.A (DG tg (.ref it) u) (λ_ s2=>∃x H',Inv X pins σ H' s2/\RelV x u/\J.Gj i H x H'/\tn (i+1) s2.heap/\∀b∈fp,H' b=ia) E s1) E s
 done:∀(X:Cx),X.prog=P->X.w=w->X.K=K->X.calm=da->∀(i:Nat)(pins:List (Addr×Obj))(s:ja)(σ:St)(H:Hp)(E:Value->ja->Prop),Inv X pins σ H s->(∀b∈fp,Dj X pins H b)->tn i s.heap->J.stop i H->
  ra (Ea P w) X.A (Pg (.ref it)) (λr s1=>r=ia/\Inv X pins σ H s1) E s
 self:∀(A:bb)(i:Nat)(s:ja)(Q:Value->ja->Prop)(E:Value->ja->Prop),tn i s.heap->Q (.ref it) s->ra (Ea P w) A (Gx (.ref it)) Q E s
abbrev TI:=St->Hp->(It->Hp->Prop)->Prop
inductive gE(X:Cx)(pins:List (Addr×Obj))(σ:St)(tg:ua)(R:It->Hp->Prop)(itv:Value)(s2:ja):Prop|mk:∀(it:Addr)(fp:List Addr)(tn:Nat->Heap->Prop)(J:It)(H':Hp),itv= .ref it->Inv X pins σ H' s2->Turn X.prog X.w X.K tg J fp it tn->tn 0 s2.heap->(∀b∈fp,Dj X pins H' b)->R J H'->gE X pins σ tg R itv s2
def PI(X:Cx)(tg iter:ua)(a:TI):Prop:=
 ∀(pins:List (Addr×Obj))(s:ja)(σ:St)(H:Hp)(R:It->Hp->Prop),Inv X pins σ H s->a σ H R->
  ra (Ea X.prog X.w) X.A (Ic iter X.env) (λv s1=>ra (Ea X.prog X.w) X.A (Gx v) (gE X pins σ tg R) X.xe s1) X.xe s
theorem Vv{M:ub}{tg:ua}{a:Addr}{u:Value}{o:Obj}{n:String}{vs:Array Value}{Q:Unit->ja->Prop}(b:s.heap.get? a=ba o)(c:o.cls= .type n)(hd:o.data= .fields vs)
  (d:["enumerate","zip","dict_itemiterator","dict_reverseitemiterator","odict_iterator","itertools.zip_longest","itertools.pairwise"].contains n=ma) (e:Q () s):ra M A (DG tg (.ref a) u) Q E s:=by
 unfold DG;cases tg<;>first
  |exact wpAny_pure e
  |(cases u<;>first
    |exact wpAny_pure e
    |(refine wpAny_bind (wpAny_load b ?_)
      rw[c,hd];show ra M A (if(["enumerate","zip","dict_itemiterator","dict_reverseitemiterator","odict_iterator","itertools.zip_longest","itertools.pairwise"].contains n&&vs[0]?==ba (Qg _))=da then _ else _) Q E s;rw[oa (by intro h;rw[d,kh] at h;cases h)];exact wpAny_pure e))
def bD(K:xa)(a:Addr):It:=
 ⟨λi H=>∃xs x,Ia K H a xs/\xs[i]?=ba x,λi H x H'=>H'=H/\∀xs,Ia K H a xs->xs[i]?=ba x,λi H=>∃xs,Ia K H a xs/\xs.length<=i⟩
def XF(K:xa)(a:Addr):It:=
 ⟨λi H=>∃xs x,Ba K H a xs/\xs[i]?=ba x,λi H x H'=>H'=H/\∀xs,Ba K H a xs->xs[i]?=ba x,λi H=>∃xs,Ba K H a xs/\xs.length<=i⟩
theorem HV{tg:ua}(a f:Addr):Turn P w K tg (bD K a) [f] f (λi h=>h.IsListIter f a i) where
 mem:=by simp
 obj:=λi h st b g=>by
  have e:b=f:=by simpa using g
  subst e;obtain⟨o,e,c,d⟩:=st;exact{o,e,λv z=>by rw[d] at z;cases z}
 keep:=λi h h' st k=>st.at λo e=>k f (by simp) o e
 item:=by
  intro X j l m n i q s σ H E I hf st r;subst j l m;obtain⟨xs,x,t,y⟩:=r;obtain⟨its,A,p,B⟩:=I.list t;obtain⟨u,C,D⟩:=A.get y;obtain⟨F,G,J,L,M,N⟩:=hf f (by simp);refine YQ st p.isList (x:=u) (by simpa using C) λh' O Q=>?_;have R:Inv X q σ H {s with heap:=h'}:=I.turned (t':=s.toks) (λb o g e=>(Q.2 b g).trans e) F G L M N;obtain⟨o,e,c,d⟩:=id O;exact{u,rfl,Vv (s:={s with heap:=h'}) e c d (by decide) {x,H,R,D,{rfl,λys S=>by rw[I.zE S t];exact y},O,λb g=>(hf b g).1}}
 done:=by
  intro X j l m n i q s σ H E I hf st r;subst j l m;obtain⟨xs,t,y⟩:=r;obtain⟨its,A,p,B⟩:=I.list t;obtain⟨F,G,J,L,M,N⟩:=hf f (by simp);have T:=A.length;exact ZQ (I.ok.hd n) st p.isList (by simp;omega) λh' U=>{rfl,I.turned (t':=s.toks) (λb o g e=>U b o g e) F G L M N}
 self:=λ_ _ _ _ _ st h=>wpAny_pyIter_listiter st h
theorem n6{tg:ua}(a f:Addr):Turn P w K tg (XF K a) [f] f (λi h=>h.IsTupleIter f a i) where
 mem:=by simp
 obj:=λi h st b g=>by
  have e:b=f:=by simpa using g
  subst e;obtain⟨o,e,c,d⟩:=st;exact{o,e,λv z=>by rw[d] at z;cases z}
 keep:=λi h h' st k=>st.at λo e=>k f (by simp) o e
 item:=by
  intro X j l m n i q s σ H E I hf st r;subst j l m;obtain⟨xs,x,t,y⟩:=r;obtain⟨its,A,p,B⟩:=I.tuple t;obtain⟨u,C,D⟩:=A.get y;obtain⟨F,G,J,L,M,N⟩:=hf f (by simp);refine wpAny_pyNext_tuple_item st (show s.heap.IsTuple a its.toArray from p) (x:=u) (by simpa using C) λh' O Q=>?_;have R:Inv X q σ H {s with heap:=h'}:=I.turned (t':=s.toks) (λb o g e=>(Q.2 b g).trans e) F G L M N;obtain⟨o,e,c,d⟩:=id O;exact{u,rfl,Vv (s:={s with heap:=h'}) e c d (by decide) {x,H,R,D,{rfl,λys S=>by rw[I.DA S t];exact y},O,λb g=>(hf b g).1}}
 done:=by
  intro X j l m n i q s σ H E I hf st r;subst j l m;obtain⟨xs,t,y⟩:=r;obtain⟨its,A,p,B⟩:=I.tuple t;obtain⟨F,G,J,L,M,N⟩:=hf f (by simp);have T:=A.length;exact wpAny_pyNext_tuple_end (I.ok.hd n) st (show s.heap.IsTuple a its.toArray from p) (by simp;omega) λh' U=>{rfl,I.turned (t':=s.toks) (λb o g e=>U b o g e) F G L M N}
 self:=λ_ _ _ _ _ st h=>wpAny_pyIter_tupleiter st h
section
variable{tg:ua}
inductive uJ(K:xa)(R:It->Hp->Prop)(x:V)(H1:Hp):Prop|mk:∀a,x= .ref a->(∃xs,Ia K H1 a xs)->R (bD K a) H1->uJ K R x H1
def tE(K:xa)(tl:TE):TI:=λσ H R=>tl σ H (uJ K R)
inductive GJ(K:xa)(R:It->Hp->Prop)(x:V)(H1:Hp):Prop|mk:∀a,x= .ref a->(∃xs,Ba K H1 a xs)->R (XF K a) H1->GJ K R x H1
def eQ(K:xa)(tl:TE):TI:=λσ H R=>tl σ H (GJ K R)
theorem Ug{l:ua}{tl:TE}(c:PE X l tl):PI X tg l (tE X.K tl):=by
 intro d s σ H R I h;refine Gb (c d s σ H _ I h) λv f ⟨x,H1,I1,r1,q1⟩=>?_;obtain⟨a,e,⟨xs,g⟩,q⟩:=q1;subst e;cases r1;obtain⟨its,i,p,j⟩:=I1.list g;refine aR p.isList ?_;refine{f.heap.objs.size,[f.heap.objs.size],_,_,H1,rfl,I1.kept (t':=f.toks) λb o e=>Qb _ e,HV a _,{_,Uc _ rfl,rfl,rfl},λb k=>?_,q};have e:b=f.heap.objs.size:=by simpa using k
 subst e;exact I1.Xp (rb _) (I1.vb.fresh (rb _))
theorem Yw{l:ua}{tl:TE}(c:PE X l tl):PI X tg l (eQ X.K tl):=by
 intro d s σ H R I h;refine Gb (c d s σ H _ I h) λv f ⟨x,H1,I1,r1,q1⟩=>?_;obtain⟨a,e,⟨xs,g⟩,q⟩:=q1;subst e;cases r1;obtain⟨its,i,p,j⟩:=I1.tuple g;refine uB (show f.heap.IsTuple a its.toArray from p) ?_;refine{f.heap.objs.size,[f.heap.objs.size],_,_,H1,rfl,I1.kept (t':=f.toks) λb o e=>Qb _ e,n6 a _,{_,Uc _ rfl,rfl,rfl},λb k=>?_,q};have e:b=f.heap.objs.size:=by simpa using k
 subst e;exact I1.Xp (rb _) (I1.vb.fresh (rb _))
def C6(a:TI)(g:TG)(tb:TS):TS:=λD σ H=>a σ H λJ H1=>∃W:Nat->Nat->St->Hp->Prop,(∃m,W 0 m σ H1)/\∀i m σ H,W i m σ H->
 (J.stop i H/\D.nx σ H)\/(J.go i H/\∃N:St->Hp->Prop,(∀b H',N b H'->∃c,c< m/\W (i+1) c b H')/\∀x H',J.Gj i H x H'->g x σ H' λd H2=>tb {D with nx:=N,ct:=N,bk:=D.nx} d H2)
noncomputable def nv(fp:List Addr)(h:Heap):List (Addr×Obj):=fp.filterMap λb=>(h.get? b).map λo=>(b,o)
theorem sC{a:List Addr}{o:Obj}(c:b∈a)(e:h.get? b=ba o):(b,o)∈nv a h:=Hx.mpr {b,c,by rw[e];rfl}
theorem rY{a:List Addr}{p:Addr×Obj}(c:p∈nv a h):p.1∈a/\h.get? p.1=ba p.2:=by
 obtain⟨b,d,e⟩:=Hx.mp c;cases q:h.get? b with
 |none=>rw[q] at e;cases e
 |some o=>
  rw[q] at e;have f:(b,o)=p:=Dd e;subst f;exact⟨d,q⟩
theorem Inv.pinned{a:List Addr}(I:Inv X pins σ H s)(hf:∀b∈a,Dj X pins H b)(c:∀b∈a,∃o,s.heap.get? b=ba o/\∀v,o.data≠ .cell v):Inv X (pins++nv a s.heap) σ H s:=
 I.UO λp f=>(Pe.mp f).elim (λz=>I.pin p (Nq _ z)) λz=>by
  obtain⟨g,e⟩:=rY z;obtain⟨h,i,j,_⟩:=hf p.1 g;obtain⟨o,k,d⟩:=c p.1 g;rw[e] at k;cases k;exact⟨e,h,i,j,d⟩
theorem Inv.Ly{pl:List (Addr×Obj)}(I:Inv X (pins++pl) σ H s):Inv X pins σ H s:=I.UO λp a=>I.pin p (Nq _ (CG _ a))
theorem Ji{a:ua}{c:List za}{j:TI}{g:TG}{tb:TS}{pos:La}(k:XQ (Ea X.prog X.w) X.A X.env X.xe)(l:X.calm=da)(hi:PI X tg a j)(hg:PG X tg g)(p:yh X c tb)
  (hs:autoParam (∀x,EG a X.env x=pd x) ZQ3._auto_1):PS X (.For tg a c [] pos) (C6 j g tb):=by
 intro q s σ H D I h;refine wpAny_For (Gb (hi q s σ H _ I h) λv s1 h1=>Gb h1 λitv s2 h2=>?_) hs;obtain⟨it,t,w,J,H2,e,I2,T,y,z,W,⟨m0,w0⟩,A⟩:=h2;subst e;have B:∀{H':Hp},(∀b∈t,H' b=ia)->∀b∈t,Dj X q H' b:=λhn b p=>{hn b p,(z b p).2};refine codeAny_forLoop_any (λn s'=>∃i C H',Inv X q C H' s'/\w i s'.heap/\(∀b∈t,H' b=ia)/\W i n C H') ?_ m0 {0,σ,H2,I2,y,λb p=>(z b p).1,w0};rintro n E ⟨i,F,G,K,L,M,w3⟩;rcases A i n F G w3 with⟨O,qn⟩ |⟨go,N,hN,P⟩
 .refine Yt k (Gb (T.done X rfl rfl rfl l i q E F G X.xe K (B M) L O) λr s4 ⟨hr,I4⟩=>?_);subst hr;exact oB ⟨F,G,I4,qn⟩
 .refine Yt k (Gb (T.item X rfl rfl rfl l i q E F G X.xe K (B M) L go) λr s4 ⟨u,hr,h4⟩=>?_);subst hr;refine Yt k (Gb h4 λ_ s5 ⟨x,H5,I5,r5,y5,st5,fr5⟩=>?_);have Q:=I5.pinned (B fr5) (T.obj _ _ st5);refine Yt k (Gb (hg _ s5 F H5 x u _ Q r5 (P x H5 y5)) λ_ s6 ⟨σ6,H6,I6,q6⟩=>?_);refine Yt k (Gb (p _ s6 σ6 H6 _ I6 q6) λf R S=>?_);have again:∀{U:St}{V:Hp},Inv X (q++nv t s5.heap) U V R->N U V->∃m,m< n/\∃i C H',Inv X q C H' R/\w i R.heap/\(∀b∈t,H' b=ia)/\W i m C H':=λ{U V} Y Z=>by
   obtain⟨m',hm,w7⟩:=hN U V Z;refine{m',hm,i+1,U,V,Y.Ly,T.keep _ _ _ st5 λb p o e=>(Y.pin (b,o) (Nq _ (Nq _ (sC p e)))).1,λb p=>?_,w7};obtain⟨o,e,d⟩:=T.obj _ _ st5 b p;exact(Y.pin (b,o) (Nq _ (Nq _ (sC p e)))).2.1
  cases f with
  |next=>obtain⟨U,V,Y,Z⟩:=S;exact again Y Z
  |cont=>obtain⟨U,V,Y,Z⟩:=S;exact again Y Z
  |brk=>obtain⟨U,V,Y,S⟩:=S;exact⟨U,V,Y.Ly,S⟩
  |ret v=>obtain⟨x7,U,V,Y,r7,S⟩:=S;exact⟨x7,U,V,Y.Ly,r7,S⟩
end
abbrev R2:=V->V->Hp->VK->Prop
def zd(X:Cx)(f:Value->Value->Ma Value)(r:R2):Prop:=
 ∀(pins:List (Addr×Obj))(s:ja)(σ:St)(H:Hp)(x y:V)(v u:Value)(Q:VK),Inv X pins σ H s->RelV x v->RelV y u->r x y H Q->
  ra (Ea X.prog X.w) X.A (f v u) (EP X pins σ Q) X.xe s
def OE(X:Cx)(f:Value->Ma Value)(r:V->Hp->VK->Prop):Prop:=
 ∀(pins:List (Addr×Obj))(s:ja)(σ:St)(H:Hp)(x:V)(v:Value)(Q:VK),Inv X pins σ H s->RelV x v->r x H Q->
  ra (Ea X.prog X.w) X.A (f v) (EP X pins σ Q) X.xe s
def cg(X:Cx)(f:Value)(r:List V->Hp->VK->Prop):Prop:=
 ∀(pins:List (Addr×Obj))(s:ja)(σ:St)(H:Hp)(xs:List V)(us:List Value)(Q:VK),Inv X pins σ H s->yb xs us->r xs H Q->
  ra (Ea X.prog X.w) X.A (call f us) (EP X pins σ Q) X.xe s
def Vc(r:R2)(ta tb:TE):TE:=λσ H Q=>ta σ H λx H1=>tb σ H1 λy H2=>r x y H2 Q
def W5(r:V->Hp->VK->Prop)(ta:TE):TE:=λσ H Q=>ta σ H λx H1=>r x H1 Q
inductive rI(C:Int->Int->Prop)(g:Int->Int->V)(x:V)(y:V)(H:Hp)(Q:VK):Prop|mk:∀i j,x= .int i->y= .int j->C i j->Q (g i j) H->rI C g x y H Q
inductive pf(g:Int->Int->V)(x:V)(y:V)(H:Hp)(Q:VK):Prop|mk:∀i j,x= .int i->y= .int j->Q (g i j) H->pf g x y H Q
inductive rU(g:Int->V)(x:V)(H:Hp)(Q:VK):Prop|mk:∀i,x= .int i->Q (g i) H->rU g x H Q
section
variable{a b c:ua}{ta tb tc:TE}{pos:La}
theorem oD(c:PE X a ta)(d:PE X b tb){R:V->V->Hp->Prop}(I:Inv X pins σ H s)
  (h:ta σ H λx H1=>tb σ H1 λy H2=>R x y H2)  {f:Value->Value->Ma Value}
  (hf:∀v u e x y H2,Inv X pins σ H2 e->RelV x v->RelV y u->R x y H2->ra (Ea X.prog X.w) X.A (f v u) Q X.xe e):
  ra (Ea X.prog X.w) X.A (Ic a X.env) (λv g=>ra (Ea X.prog X.w) X.A (Ic b X.env) (λu i=>ra (Ea X.prog X.w) X.A (f v u) Q X.xe i) X.xe g) X.xe s:=by
 refine Gb (c pins s σ H _ I h) λv j ⟨x,H1,I1,r1,q1⟩=>?_;refine Gb (d pins j σ H1 _ I1 q1) λu e ⟨y,H2,I2,r2,q2⟩=>?_;exact hf v u e x y H2 I2 r1 r2 q2
theorem Fc{op:Operator}{r:R2}(c:zd X (rj op) r)(d:PE X a ta)(e:PE X b tb):PE X (.BinOp a op b pos) (Vc r ta tb):=by
 intro f s σ H Q I h;exact wpAny_BinOp (oD d e I h λv u g x y H2 i j k q=>c f g σ H2 x y v u Q i j k q)
theorem u1{op:UnaryOp}{r:V->Hp->VK->Prop}(b:OE X (unaryOp op) r)(c:PE X a ta):PE X (.UnaryOp op a pos) (W5 r ta):=by
 intro d s σ H Q I h;exact UnaryOp_ (Gb (c d s σ H _ I h) λv e ⟨x,H1,I1,r1,q1⟩=>b d e σ H1 x v Q I1 r1 q1)
theorem z8{f:Value->Value->Ma Value}{C:Int->Int->Prop}{g:Int->Int->Int}
  (rule:∀(i j:Int)(t u:pj)(s:ja)(Q:Value->ja->Prop)(E:Value->ja->Prop),C i j->Q (.int (g i j) s.toks) {s with toks:=s.toks+1}->ra (Ea X.prog X.w) X.A (f (.int i t) (.int j u)) Q E s):
  zd X f (rI C λi j=> .int (g i j)):=by
 intro a s σ H x y v u Q I b c h;obtain⟨i,j,rfl,rfl,d,q⟩:=h;obtain⟨t,rfl⟩:=b;obtain⟨e,rfl⟩:=c;exact rule i j t e s _ _ d {.int (g i j),H,I.tok _,{_,rfl},q}
theorem pL{f:Value->Value->Ma Value}{g:Int->Int->Int}
  (rule:∀(i j:Int)(t u:pj)(s:ja)(Q:Value->ja->Prop)(E:Value->ja->Prop),Q (.int (g i j) s.toks) {s with toks:=s.toks+1}->ra (Ea X.prog X.w) X.A (f (.int i t) (.int j u)) Q E s):
  zd X f (pf λi j=> .int (g i j)):=by
 intro a s σ H x y v u Q I b c h;obtain⟨i,j,rfl,rfl,q⟩:=h;obtain⟨t,rfl⟩:=b;obtain⟨d,rfl⟩:=c;exact rule i j t d s _ _ {.int (g i j),H,I.tok _,{_,rfl},q}
theorem vz{f:Value->Value->Ma Value}{g:Int->Int->Bool}
  (rule:∀(i j:Int)(t u:pj)(s:ja)(Q:Value->ja->Prop)(E:Value->ja->Prop),Q (.bool (g i j)) s->ra (Ea X.prog X.w) X.A (f (.int i t) (.int j u)) Q E s):
  zd X f (pf λi j=> .bl (g i j)):=by
 intro a s σ H x y v u Q I b c h;obtain⟨i,j,rfl,rfl,q⟩:=h;obtain⟨t,rfl⟩:=b;obtain⟨d,rfl⟩:=c;exact rule i j t d s _ _ {.bl (g i j),H,I,rfl,q}
def QC(i j:Int):Prop:=(-(2^64)< i/\i< 2^64)\/(-(2^64)< j/\j< 2^64)
theorem QC.ok{i j:Int}(h:QC i j):IntMulOk i j:=by
 rcases h with⟨h1,h2⟩ |⟨h1,h2⟩
 .exact .of_left (J9 h1 h2)
 .exact .of_right (J9 h1 h2)
theorem We:zd X (rj .Add) (pf λi j=> .int (i+j)):=pL λ_ _ _ _ _ _ _ q=>add_int q
theorem vE:zd X (rj .Sub) (pf λi j=> .int (i - j)):=pL λ_ _ _ _ _ _ _ q=>sub_int q
theorem DU:zd X (rj .Mult) (rI QC λi j=> .int (i*j)):=z8 λ_ _ _ _ _ _ _ a q=>mul_int q a.ok
theorem BZ{f:Value->Ma Value}{g:Int->Int}
  (rule:∀(i:Int)(t:pj)(s:ja)(Q:Value->ja->Prop)(E:Value->ja->Prop),Q (.int (g i) s.toks) {s with toks:=s.toks+1}->ra (Ea X.prog X.w) X.A (f (.int i t)) Q E s):
  OE X f (rU λi=> .int (g i)):=by
 intro a s σ H x v Q I b h;obtain⟨i,rfl,q⟩:=h;obtain⟨t,rfl⟩:=b;exact rule i t s _ _ {.int (g i),H,I.tok _,{_,rfl},q}
theorem TZ:OE X (unaryOp .USub) (rU λi=> .int (-i)):=BZ λ_ _ _ _ _ q=>neg_int q
end
noncomputable def HM:V->V->Bool
 | .Tb,.Tb=>da| .Tb,.int _=>da| .int _,.Tb=>da| .Tb,.bl _=>da| .bl _,.Tb=>da| .Tb,.str _=>da| .str _,.Tb=>da
 | .int _,.int _=>da| .bl _,.bl _=>da| .str _,.str _=>da| .Yg _,.Yg _=>da
 | .int _,.str _=>da| .str _,.int _=>da| .bl _,.str _=>da| .str _,.bl _=>da
 |_,_=>ma
def kB:R2:=λx y H Q=>HM x y=da/\Q (.bl (decide (x=y))) H
def MC:R2:=λx y H Q=>HM x y=da/\Q (.bl (!decide (x=y))) H
theorem yM{i j:Int}:decide (V.int i=V.int j)=(i==j):=by
 rw[tf];simp
theorem gL{i j:Bool}:decide (V.bl i=V.bl j)=(i==j):=by
 rw[tf];simp
theorem LO{i j:Str}:decide (V.str i=V.str j)=(i==j):=by
 rw[tf];simp
theorem kL{i j:Array UInt8}:decide (V.Yg i=V.Yg j)=(i.toList==j.toList):=by
 rw[tf];cases i;cases j;simp
section
variable{a b c:ua}{ta tb tc:TE}{pos:La}
theorem we{Q:VK}{k a:Bool}(I:Inv X pins σ H s)(q:Q (.bl k) H)(e:k=a):EP X pins σ Q (.bool a) s:=by
 subst e;exact{.bl k,H,I,rfl,q}
theorem Zf:zd X (ee .Eq) kB:=by
 intro a s σ H x y v u Q I b c h;obtain⟨d,q⟩:=h;cases x with
 |Tb=>
  cases b;cases y with
  |Tb=>cases c;exact PySem.EqNone.eq_none_none (we I q (by simp))
  |bl j=>cases c;exact PySem.EqNone.eq_none_bool (we I q (by simp))
  |int j=>obtain⟨e,rfl⟩:=c;exact PySem.EqNone.eq_none_int (we I q (by simp))
  |str j=>obtain⟨e,rfl⟩:=c;exact PySem.EqNone.eq_none_str (we I q (by simp))
  |_=>exact absurd (show ma=da from d) se
 |bl i=>
  cases b;cases y with
  |Tb=>cases c;exact PySem.EqNone.eq_bool_none (we I q (by simp))
  |bl j=>cases c;exact eq_bool (we I q gL)
  |str j=>obtain⟨e,rfl⟩:=c;exact PySem.EqMixed.eq_bool_str (we I q (by simp))
  |_=>exact absurd (show ma=da from d) se
 |int i=>
  obtain⟨t,rfl⟩:=b;cases y with
  |Tb=>cases c;exact PySem.EqNone.eq_int_none (we I q (by simp))
  |int j=>obtain⟨e,rfl⟩:=c;exact eq_int (we I q yM)
  |str j=>obtain⟨e,rfl⟩:=c;exact PySem.EqMixed.eq_int_str (we I q (by simp))
  |_=>exact absurd (show ma=da from d) se
 |str i=>
  obtain⟨t,rfl⟩:=b;cases y with
  |Tb=>cases c;exact PySem.EqNone.eq_str_none (we I q (by simp))
  |bl j=>cases c;exact PySem.EqMixed.eq_str_bool (we I q (by simp))
  |int j=>obtain⟨e,rfl⟩:=c;exact PySem.EqMixed.eq_str_int (we I q (by simp))
  |str j=>obtain⟨e,rfl⟩:=c;exact eq_str (we I q LO)
  |_=>exact absurd (show ma=da from d) se
 |Yg i=>
  obtain⟨t,rfl⟩:=b;cases y with
  |Yg j=>obtain⟨e,rfl⟩:=c;exact PySem.W.eq_bytes (we I q kL)
  |_=>exact absurd (show ma=da from d) se
 |_=>cases y<;>exact absurd (show ma=da from d) se
theorem qC:zd X (ee .NotEq) MC:=by
 intro a s σ H x y v u Q I b c h;obtain⟨d,q⟩:=h;cases x with
 |Tb=>
  cases b;cases y with
  |Tb=>cases c;exact PySem.EqNone.ne_none_none (we I q (by simp))
  |bl j=>cases c;exact PySem.EqNone.ne_none_bool (we I q (by simp))
  |int j=>obtain⟨e,rfl⟩:=c;exact PySem.EqNone.ne_none_int (we I q (by simp))
  |str j=>obtain⟨e,rfl⟩:=c;exact PySem.EqNone.ne_none_str (we I q (by simp))
  |_=>exact absurd (show ma=da from d) se
 |bl i=>
  cases b;cases y with
  |Tb=>cases c;exact PySem.EqNone.ne_bool_none (we I q (by simp))
  |bl j=>cases c;exact ne_bool (we I q (wc not gL))
  |str j=>obtain⟨e,rfl⟩:=c;exact PySem.EqMixed.ne_bool_str (we I q (by simp))
  |_=>exact absurd (show ma=da from d) se
 |int i=>
  obtain⟨t,rfl⟩:=b;cases y with
  |Tb=>cases c;exact PySem.EqNone.ne_int_none (we I q (by simp))
  |int j=>obtain⟨e,rfl⟩:=c;exact ne_int (we I q (wc not yM))
  |str j=>obtain⟨e,rfl⟩:=c;exact PySem.EqMixed.ne_int_str (we I q (by simp))
  |_=>exact absurd (show ma=da from d) se
 |str i=>
  obtain⟨t,rfl⟩:=b;cases y with
  |Tb=>cases c;exact PySem.EqNone.ne_str_none (we I q (by simp))
  |bl j=>cases c;exact PySem.EqMixed.ne_str_bool (we I q (by simp))
  |int j=>obtain⟨e,rfl⟩:=c;exact PySem.EqMixed.ne_str_int (we I q (by simp))
  |str j=>obtain⟨e,rfl⟩:=c;exact ne_str (we I q (wc not LO))
  |_=>exact absurd (show ma=da from d) se
 |Yg i=>
  obtain⟨t,rfl⟩:=b;cases y with
  |Yg j=>obtain⟨e,rfl⟩:=c;exact PySem.W.ne_bytes (we I q (wc not kL))
  |_=>exact absurd (show ma=da from d) se
 |_=>cases y<;>exact absurd (show ma=da from d) se
theorem Hr:zd X (ee .Lt) (pf λi j=> .bl (decide (i< j))):=vz λ_ _ _ _ _ _ _ q=>lt_int q
theorem Sh:zd X (ee .LtE) (pf λi j=> .bl (decide (i<=j))):=vz λ_ _ _ _ _ _ _ q=>le_int q
theorem Rl:zd X (ee .Gt) (pf λi j=> .bl (decide (j< i))):=vz λ_ _ _ _ _ _ _ q=>gt_int q
theorem P0:zd X (ee .GtE) (pf λi j=> .bl (decide (j<=i))):=vz λ_ _ _ _ _ _ _ q=>ge_int q
theorem Yb(b:ua){op:wb}(h:autoParam (op≠ .In) ZQ1._auto_1)(h2:autoParam (op≠ .NotIn) ZQ1._auto_1):Lq op b=ma:=by
 have a:(op==CmpOp.In)=ma:=by cases op<;>first|rfl|exact absurd rfl h
 have c:(op==CmpOp.NotIn)=ma:=by cases op<;>first|rfl|exact absurd rfl h2
 cases b<;>simp[Lq,a,c]
theorem oh{op:wb}{r:R2}(c:zd X (ee op) r)(d:PE X a ta)(e:PE X b tb)(f:Lq op b=ma):PE X (.Compare a [op] [b] pos) (Vc r ta tb):=by
 intro g s σ H Q I h;exact B9 (oD d e I h λv u i x y H2 j k l q=>c g i σ H2 x y v u Q j k l q) f
inductive vL(Q:Bool->Hp->Prop)(x:V)(H1:Hp):Prop|mk:∀k,x= .bl k->Q k H1->vL Q x H1
def Ed(t:TE):TT:=λσ H Q=>t σ H (vL Q)
theorem fc{op:wb}{r:R2}(d:zd X (ee op) r)(f:PE X a ta)(g:PE X b tb)(i:Lq op b=ma):PT X (.Compare a [op] [b] pos) (Ed (Vc r ta tb)):=by
 intro j s σ H Q I h;refine C9 (Gb (f j s σ H _ I h) λv l ⟨x,H1,I1,r1,q1⟩=>Gb (g j l σ H1 _ I1 q1) λu m ⟨y,H2,I2,r2,q2⟩=>
  Gb (d j m σ H2 x y v u _ I2 r1 r2 q2) λc n ⟨z,H3,I3,r3,k,e,q3⟩=>?_) i
 subst e;cases r3;exact il ⟨H3,I3,q3⟩
def aA(r a:R2)(ta tb tc:TE):TE:=λσ H Q=>ta σ H λx H1=>tb σ H1 λy H2=>r x y H2 λz b=>∃k,z= .bl k/\
 (if k=da then tc σ b λc d=>a y c d Q else Q (.bl ma) b)
theorem LU{op f:wb}{r g:R2}(i:zd X (ee op) r)(j:zd X (ee f) g)(l:PE X a ta)(m:PE X b tb)(n:PE X c tc)
  (o:autoParam (lastMarks [op,f] [b,c]=ma) ZQ5._auto_1):PE X (.Compare a [op,f] [b,c] pos) (aA r g ta tb tc):=by
 intro p s σ H Q I h;refine Compare_chain (Gb (l p s σ H _ I h) λv q ⟨x,H1,I1,r1,q1⟩=>chain_link (Gb (m p q σ H1 _ I1 q1) λu t ⟨y,H2,I2,r2,q2⟩=>
  Gb (i p t σ H2 x y v u _ I2 r1 r2 q2) λd w ⟨z,H3,I3,r3,k,e,q3⟩=>?_)) o
 subst e;cases r3;refine il ?_;cases k with
 |false=>exact ite_ff {.bl ma,H3,I3,rfl,q3}
 |true=>exact ite_tt (chain_last (Gb (n p w σ H3 _ I3 q3) λA B ⟨z',H4,I4,r4,q4⟩=>j p B σ H4 y z' u A Q I4 r2 r4 q4))
theorem Ws{op f:wb}{r g:R2}(i:zd X (ee op) r)(j:zd X (ee f) g)(l:PE X a ta)(m:PE X b tb)(n:PE X c tc)
  (o:autoParam (lastMarks [op,f] [b,c]=ma) ZQ5._auto_1):PT X (.Compare a [op,f] [b,c] pos) (Ed (aA r g ta tb tc)):=by
 intro p s σ H Q I h;refine isTrue_chain (Gb (l p s σ H _ I h) λv q ⟨x,H1,I1,r1,q1⟩=>test_link (Gb (m p q σ H1 _ I1 q1) λu t ⟨y,H2,I2,r2,q2⟩=>
  Gb (i p t σ H2 x y v u _ I2 r1 r2 q2) λd w ⟨z,H3,I3,r3,k,e,q3⟩=>?_)) o
 subst e;cases r3;refine il ?_;cases k with
 |false=>
  obtain⟨A,B,C⟩:=q3;cases B;exact ite_ff ⟨H3,I3,C⟩
 |true=>
  refine ite_tt (test_last (Gb (n p w σ H3 _ I3 q3) λD E ⟨z',H4,I4,r4,q4⟩=>Gb (j p E σ H4 y z' u D _ I4 r2 r4 q4) λF G ⟨z2,H5,I5,r5,k2,e2,q5⟩=>?_));subst e2;cases r5;exact il ⟨H5,I5,q5⟩
theorem tG:(sizeLine:Nat)< 2^63:=by rw[FG];decide
theorem vals1{x:V}{us:List Value}(r:yb [x] us):∃u,us=[u]/\RelV x u:=by
 cases r with
 |cons a b=>cases b;exact{_,rfl,a}
theorem vals2{x y:V}{us:List Value}(r:yb [x,y] us):∃u a,us=[u,a]/\RelV x u/\RelV y a:=by
 cases r with
 |cons b c=>
  cases c with
  |cons d e=>cases e;exact{_,_,rfl,b,d}
theorem oZ(a:X.calm=da):cg X (.builtin "max") (λxs H Q=>∃i j,xs=[.int i,.int j]/\Q (.int (if j>i then j else i)) H):=by
 intro b s σ H xs c Q I r h;obtain⟨i,j,rfl,q⟩:=h;obtain⟨u,d,rfl,⟨t,rfl⟩,⟨e,rfl⟩⟩:=vals2 r;refine max_two_ints (I.ok.hd a) λh' tk k=>{_,H,I.kept k,?_,q};by_cases f:j>i
 .rw[qa f,qa f];exact{_,rfl}
 .rw[oa f,oa f];exact{_,rfl}
theorem LY:cg X (.type "str") (λxs H Q=>∃i,xs=[.int i]/\i.natAbs.log2< 1920/\Q (.str (Uo i)) H):=by
 intro a s σ H xs b Q I r h;obtain⟨i,rfl,c,q⟩:=h;obtain⟨u,rfl,t,rfl⟩:=vals1 r;exact PySem.P.str_of_int c {.str _,H,I.tok _,{_,rfl},q}
theorem X2:cg X (.builtin "ord") (λxs H Q=>∃x,xs=[.str x]/\x.length=1/\Q (.int (x.cps.getD 0 0:Nat)) H):=by
 intro a s σ H xs b Q I r h;obtain⟨x,rfl,c,q⟩:=h;obtain⟨u,rfl,t,rfl⟩:=vals1 r;exact ord_of_one c {.int _,H,I.tok _,{_,rfl},q}
end
structure Yp(h:Heap)(x dx C:Addr)(mA:Str->Option Value):Prop where
 obj:h.get? x=ba (Kq C dx)
 ns:h.Ns1 dx mA
 ne:dx≠x
theorem M8{dx:Addr}{mA:Str->Option Value}(n:h.Ns1 dx mA):∃od,h.get? dx=ba od/\∀name,GG name od=ba (mA name):=by
 obtain⟨o,es,ep,b,hd,c,_,d⟩:=n;refine{o,b,λname=>?_};have e:=d name;unfold nsFind findBy at e;rw[<-Array.find?_toList] at e;unfold GG;rw[hd];dsimp only;split
 .rename_i y q
  rw[q] at e;exact wc ba e
 .rename_i q
  rw[q] at e;have a:es.toList.any (·.refKey)=ma:=by
   rw[vB];intro y f;obtain⟨z,t,g⟩:=c y (wB.mp f);simp[fb.refKey,g]
  have i:¬es.toList.any (·.refKey)=da:=by rw[a];exact se
  rw[oa i];exact wc ba e
theorem Yp.look{x dx:Addr}{mA:Str->Option Value}(I:Yp h x dx C mA):∃od,PySem.W.InstAt h x (Kq C dx) C (ba od)/\∀name,GG name od=ba (mA name):=
 let⟨od,ho,hl⟩:=M8 I.ns
 {od,⟨I.obj,rfl,rfl,ho⟩,hl}
section
variable{x dx f:Addr}{mA:Str->Option Value}{name:Str}{v:Value}
theorem get_map{a:Bool}(X:K.In s.heap)(I:Yp s.heap x dx C mA)(b:xB K C name=da)(c:HG K C=da)
  (d:jl K (.ref C) name=ba ia) (e:mA name=ba v) (f:K9 v=da) (h:Q v {s with toks:=s.toks+1}):
  ra (Ea prog w) A (bR (.ref x) name a) Q E s:=by
 obtain⟨g,J,i⟩:=I.look;exact PySem.W.get_value X J (cR b).1 (PySem.W.findObj_own c d rfl (by rw[i,e])) f h
theorem D5{pl:Ma Bool}{Q:Value×List Value->ja->Prop}(X:K.In s.heap)(I:Yp s.heap x dx C mA)(a:xB K C name=da)
  (hf:jl K (.ref C) name=ba (ba (.ref f))) (b:yB K (.ref f)=da) (c:mA name=ia) (h:Q (.ref f,[.ref x]) s):
  ra (Ea prog w) A (zB (.ref x) name pl) Q E s:=by
 obtain⟨d,J,e⟩:=I.look;exact PySem.W.method_fn X J (cR a).1 (cR a).2 hf (Oh.mp b) (by show(GG name d).map (·.isSome)=ba ma;rw[e,c];rfl) h
theorem lU{ns:List Str}{Q:Unit->ja->Prop}(X:K.In s.heap)(I:Yp s.heap x dx C mA)
  (c:jl K (.ref C) "__setattr__"=ba (ba (.builtin "object.__setattr__"))) (d:dR K C=da) (e:eR K C name=ba ia) (f:HG K C=da)
  (hw:zG mA ns) (hsz:ns.length<=sizeLine)
  (h:∀h',Yp h' x dx C (λy=>if y=name then ba v else mA y)->Nh dx s.heap h'->Q () {s with heap:=h',toks:=s.toks+2}):
  ra (Ea prog w) A (setAttr (.ref x) name v) Q E s:=by
 obtain⟨g,J,i⟩:=I.look;refine PySem.W.set_plain X J c (PySem.W.osa_open (s:={s with toks:=s.toks+1}) (r:=ia) X J d e λb=>?_);obtain⟨j,k,l⟩:=PySem.W.any_some f;have m:s.heap.get? x=ba {.ref C,ba dx,.plain,#[]}:=I.obj;refine wpAny_bind (wpAny_pure (wpAny_bind (wpAny_bind (wpAny_loadPart m (wpAny_bind (PySem.W.Looks.here (s:={s with toks:=s.toks+1}) (PySem.W.looks_clsIn X k) ?_))))));rw[l];refine wpAny_pure (a:=ba dx) (wpAny_bind (wpAny_pure (wpAny_bind ?_)));refine wpAny_nsSet1 (s:={s with toks:=s.toks+1}) I.ns λh' n o=>?_;obtain⟨p,q,t,u,z,B⟩:=n.count (zG.cons name v hw);refine wpAny_bind (wpAny_lookBehind u (by rw[z];exact pastItsLine_dict (Bc B (by rw[Oc];omega))) ?_);exact wpAny_pure (h _ {(o.2 _ (Gc I.ne)).trans I.obj,n,I.ne} o)
theorem TX{R:xb->ja->Prop}{vs:List Value}{a:List (Str×Value)}(X:K.In s.heap)(b:fR K C=da)
  (hi:jl K (.ref C) "__init__"=ba (ba (.ref f))) (hf:PySem.W.typeIn K (.ref f)=ba (.type "function"))
  (h:jm (Ea prog w) (A.under (.builtin "type.__call__" ⟨.ref C::vs,a⟩)) (.call (.ref f) ⟨.ref (s.heap.objs.size+1)::vs,a⟩) (PySem.W.InitBack (s.heap.objs.size+1) R)
   {s with heap:=(s.heap.push Vo).push (Kq C s.heap.objs.size)}):
  jm (Ea prog w) A (.call (.ref C) ⟨vs,a⟩) R s:=by
 obtain⟨c,g,d,t,e⟩:=s;exact PySem.W.make_core (PySem.W.makes_of X b) (PySem.W.looks_findIn X hi) (λi=>PySem.W.bind_fn X i hf) (.inl rfl) h
end
noncomputable def Bd(f:Str)(v:V):List (Str×V)->List (Str×V)
 |[]=>[(f,v)]
 |(g,x)::r=>if g=f then(g,v)::r else(g,x)::Bd f v r
theorem Ah(f g:Str)(v:V):∀fs:List (Str×V),(Bd f v fs).lookup g=if g=f then ba v else fs.lookup g
 |[]=>by
  show Oq g [(f,v)]=_;by_cases h:g=f
  .have a:(g==f)=da:=Oh.mpr h;simp only[Oq,a,qa h]
  .have a:(g==f)=ma:=Bx.mpr h;simp only[Oq,a,oa h]
 |(k,x)::r=>by
  have b:=Ah f g v r;rw[show Bd f v ((k,x)::r)=(if k=f then(k,v)::r else(k,x)::Bd f v r) from rfl];by_cases c:k=f
  .rw[qa c];by_cases h:g=k
   .have a:(g==k)=da:=Oh.mpr h;simp only[Oq,a,qa (h.trans c)]
   .have a:(g==k)=ma:=Bx.mpr h;simp only[Oq,a,oa (λe:g=f=>h (e.trans c.symm))]
  .rw[oa c];by_cases h:g=k
   .have a:(g==k)=da:=Oh.mpr h;simp only[Oq,a,oa (λe:g=f=>c (h.symm.trans e))]
   .have a:(g==k)=ma:=Bx.mpr h;simp only[Oq,a];exact b
theorem mE(f:Str)(v:V):∀fs:List (Str×V),f∈(Bd f v fs).map (·.1)/\∀g,g∈fs.map (·.1)->g∈(Bd f v fs).map (·.1)
 |[]=>{by simp[Bd],λg h=>by simp at h}
 |(k,x)::r=>by
  obtain⟨a,b⟩:=mE f v r;rw[show Bd f v ((k,x)::r)=(if k=f then(k,v)::r else(k,x)::Bd f v r) from rfl];by_cases c:k=f
  .rw[qa c];subst c;exact{by simp,λg h=>by simpa using h}
  .rw[oa c];refine{?_,λg h=>?_}
   .rw[Nb];exact sf _ a
   .rw[Nb] at h⊢;rcases jc.mp h with e|e
    .exact jc.mpr (.inl e)
    .exact sf _ (b g e)
theorem BI(f:Str)(v:V):∀fs:List (Str×V),(Bd f v fs).length<=fs.length+1
 |[]=>by simp[Bd]
 |(k,x)::r=>by
  have a:=BI f v r;rw[show Bd f v ((k,x)::r)=(if k=f then(k,v)::r else(k,x)::Bd f v r) from rfl];by_cases b:k=f
  .rw[qa b,Oc,Oc];omega
  .rw[oa b,Oc,Oc];omega
theorem Dh.some_of{v:V}{o:Option Value}(r:Dh (ba v) o):∃u,o=ba u/\RelV v u:=by
 cases o with
 |none=>exact(show False from r).elim
 |some u=>exact⟨u,rfl,r⟩
theorem Dh.none_of{o:Option Value}(r:Dh ia o):o=ia:=by
 cases o with
 |none=>rfl
 |some u=>exact(show False from r).elim
theorem N7{v:V}{u:Value}(r:RelV v u):K9 u=da:=by
 cases v with
 |Tb=>cases(show u=Kh from r);rfl
 |bl b=>cases(show u=Ro b from r);rfl
 |int i=>obtain⟨t,e⟩:=(show∃t,u=Yk i t from r);cases e;rfl
 |str x=>obtain⟨t,e⟩:=(show∃t,u=yG x t from r);cases e;rfl
 |Yg b=>obtain⟨t,e⟩:=(show∃t,u=r9 b t from r);cases e;rfl
 |Av b=>obtain⟨t,e⟩:=(show∃t,u=u9 b t from r);cases e;rfl
 |ref a=>cases(show u=Bb a from r);rfl
 |ty n=>cases(show u=ck n from r);rfl
section
variable{H':Hp}{h':Heap}{dx:Addr}{fs fs':List (Str×V)}
theorem eD(b:ud P w H h)(e:H a=ba (.ins C dx fs)):∃mA,Yp h a dx C mA/\(∀f,Dh (fs.lookup f) (mA f))/\zG mA (fs.map (·.1))/\fs.length<=1000/\H dx=ba (.own a):=by
 obtain⟨d,z,c,g,mA,n,r,q⟩:=(show Cd P w H h a (.ins C dx fs) from b a _ e);exact{mA,⟨g,n,c⟩,r,q,z,d}
end
structure dh(K:xa)(C:Addr):Prop where
 pg:xB K C L9=da
 hd:HG K C=da
 po:dR K C=da
 sa:jl K (.ref C) "__setattr__"=ba (ba (.builtin "object.__setattr__"))
theorem dh.get(c:dh K C)(f:Str):xB K C f=da:=c.pg
def Gh(K:xa)(C:Addr)(f:Str):Prop:=jl K (.ref C) f=ba ia
theorem Gh.nY{f:Str}(n:Gh K C f):eR K C f=ba ia:=by
 unfold eR;rw[show jl K (.ref C) f=ba ia from n];rfl
structure Vw(K:xa)(C:Addr)(m:Str)(f:Addr):Prop where
 at_:jl K (.ref C) m=ba (ba (.ref f))
 fn:yB K (.ref f)=da
 kp:km K (.ref f)=da
section
variable{dx:Addr}{fs:List (Str×V)}{f:Str}{v:V}
theorem W2{b:Bool}(I:Inv X pins σ H s)(e:H a=ba (.ins C dx fs))(c:dh X.K C)(n:Gh X.K C f)(l:fs.lookup f=ba v)
  (h:∀u s',Inv X pins σ H s'->RelV v u->Q u s'):ra (Ea X.prog X.w) A (bR (.ref a) f b) Q E s:=by
 obtain⟨mA,O,r,_,_,_⟩:=eD I.vb e;obtain⟨u,d,g⟩:=Dh.some_of (v:=v) (o:=mA f) (by rw[<-l];exact r f);exact get_map I.yi O (c.get f) c.hd n d (N7 g) (h u _ (I.tok _) g)
theorem ZV{m:Str}{g:Addr}{pl:Ma Bool}{Q:Value×List Value->ja->Prop}(I:Inv X pins σ H s)(e:H a=ba (.ins C dx fs))(c:dh X.K C)(k:Vw X.K C m g)(l:fs.lookup m=ia)
  (h:Q (.ref g,[.ref a]) s):ra (Ea X.prog X.w) A (zB (.ref a) m pl) Q E s:=by
 obtain⟨mA,O,r,_,_,_⟩:=eD I.vb e;have b:mA m=ia:=Dh.none_of (by rw[<-l];exact r m);exact D5 I.yi O (c.get m) k.at_ k.fn b h
theorem eW{y:V}{u:Value}{Q:Unit->ja->Prop}(I:Inv X pins σ H s)(e:H a=ba (.ins C dx fs))(c:dh X.K C)(n:Gh X.K C f)(d:fs.length< 1000)(i:RelV y u)
  (h:∀s',Inv X pins σ (upd H a (.ins C dx (Bd f y fs))) s'->Q () s'):ra (Ea X.prog X.w) A (setAttr (.ref a) f u) Q E s:=by
 obtain⟨mA,O,r,j,_,k⟩:=eD I.vb e;have l:(fs.map (·.1)).length<=sizeLine:=by rw[Na,FG];omega
 refine lU I.yi O c.sa c.po n.nY c.hd j l λh' m p=>h _ ?_;have hd:∃o,h'.get? dx=ba o:=let⟨o,_,_,e',_⟩:=m.ns;⟨o,e'⟩
 refine I.write (x:=a) (e:=dx) (by rw[e];exact Jx) (.inr k) (λb q t z=>(p.2 b t).trans z) hd ?_;refine{by rw[Ja O.ne];exact k,?_,O.ne,m.obj,_,m.ns,λg=>?_,λg v=>?_}
 .have:=BI f y fs;omega
 .show Dh ((Bd f y fs).lookup g) (if g=f then ba u else mA g);rw[Ah];by_cases q:g=f
  .rw[qa q,qa q];exact i
  .rw[oa q,oa q];exact r g
 .by_cases q:g=f
  .rw[q];exact(mE f y fs).1
  .refine(mE f y fs).2 g (j g λz=>v ?_);show(if g=f then ba u else mA g)=ia;rw[oa q];exact z
theorem Inv.made(I:Inv X pins σ H s):Inv X pins σ (upd (upd H s.heap.objs.size (.own (s.heap.objs.size+1))) (s.heap.objs.size+1) (.ins C s.heap.objs.size []))
  {s with heap:=(s.heap.push Vo).push (Kq C s.heap.objs.size)}:=by
 have c:(s.heap.push Vo).get? s.heap.objs.size=ba Vo:=Uc s.heap rfl;have d:((s.heap.push Vo).push (Kq C s.heap.objs.size)).get? (s.heap.objs.size+1)=ba (Kq C s.heap.objs.size):=by
  have:=Uc (s.heap.push Vo) (o:=Kq C s.heap.objs.size) rfl;rwa[lh] at this
 have f:(s.heap.push Vo).Ns s.heap.objs.size (λ_=>ia):={Vo,#[],_,c,rfl,(λe g=>absurd g (by simp)),λ_=>rfl};have h:=I.laid (a:=s.heap.objs.size) (o:= .own (s.heap.objs.size+1)) (h':=s.heap.push Vo) (t':=s.toks) (λb u q=>Qb _ q) (rb _) {_,c};refine h.laid (a:=s.heap.objs.size+1) (o:= .ins C s.heap.objs.size []) (t':=s.toks) (λb u q=>Qb _ q) (AB (lh _ _)) ?_;have i:s.heap.objs.size≠s.heap.objs.size+1:=Kd (IG _);refine{by rw[Ja i,wa],Pd _,i,d,λ_=>ia,(Heap.Ns1.of_empty f).at λo q=>Qb _ q,λ_=>Jx,λy j=>absurd rfl j}
theorem OV{a:va}{f:Str}{pos:La}(b:BB e f a (Ic e a)=Ic e a)
  (h:ra (Ea prog w) A (Ic e a) (λo c=>ra (Ea prog w) A (bR o f da) Q E c) E s):ra (Ea prog w) A (Ic (.Attribute e f pos) a) Q E s:=
 Attribute_any_ h (by rw[arm_eval_Attribute,b])
end
inductive jF(K:xa)(f:Str)(Q:VK)(x:V)(H1:Hp):Prop|mk:∀a C dx fs v,x= .ref a->H1 a=ba (.ins C dx fs)->dh K C->Gh K C f->fs.lookup f=ba v->Q v H1->jF K f Q x H1
def zt(K:xa)(ta:TE)(f:Str):TE:=λσ H Q=>ta σ H (jF K f Q)
inductive qE(K:xa)(f:Str)(D:Ends)(σ:St)(y:V)(x:V)(H2:Hp):Prop|mk:∀a C dx fs,x= .ref a->H2 a=ba (.ins C dx fs)->dh K C->Gh K C f->fs.length< 1000->D.nx σ (upd H2 a (.ins C dx (Bd f y fs)))->qE K f D σ y x H2
def qK(K:xa)(ta tv:TE)(f:Str):TS:=λD σ H=>tv σ H λy H1=>ta σ H1 (qE K f D σ y)
section
variable{o value:ua}{f:Str}{pos pos' tpos:La}{ta tv:TE}
theorem vc(b:PE X e ta)(d:BB e f X.env (Ic e X.env)=Ic e X.env):PE X (.Attribute e f pos) (zt X.K ta f):=by
 intro g s σ H Q I h;refine OV d (Gb (b g s σ H _ I h) λu i ⟨x,H1,I1,rx,a,C,dx,fs,v,ex,ea,c,n,l,q⟩=>?_);subst ex;obtain rfl:u=Bb a:=rx;exact W2 I1 ea c n l λj k m o=>⟨v,H1,m,o,q⟩
theorem Rh(b:PE X o ta)(d:PE X value tv)(e:Mq value (ba (.Attribute o f pos')) pos.line X.env=pd ma):PS X (.Assign [.Attribute o f pos'] value pos) (qK X.K ta tv f):=by
 intro g s σ H D I h;refine plainObj_wpAny_Assign_Attribute (Gb (d g s σ H _ I h) λu i ⟨y,H1,I1,ry,q⟩=>Gb (b g i σ H1 _ I1 q) λj k ⟨x,H2,I2,rx,a,C,dx,fs,ex,ea,c,n,l,q2⟩=>?_) e;subst ex;obtain rfl:j=Bb a:=rx;exact eW I2 ea c n l ry λm p=>{σ,_,p,q2}
end
structure Ad(k:Nat)(A:bb):Prop where
 hd:A.handled=ia
 dp:A.depth+3*k+5< M9
 un:A.units+16*k+200< Wc
theorem Ad.mono{j:Nat}(r:Ad k A)(h:j<=k):Ad j A:={r.hd,by have:=r.dp;omega,by have:=r.un;omega}
theorem Ad.deeper(r:Ad (k+1) A)(a:va):Ad k (A.deeper a):=
 {r.hd,by have:=r.dp;show A.depth+1+3*k+5< _;omega,by have:=r.un;show A.units+3+16*k+200< _;omega}
theorem B6{us:List Value}{a:List (Str×Value)}:(A.under (.builtin "type.__call__" ⟨.ref C::us,a⟩)).depth=A.depth+1:=by
 first|rfl|simp[gR,Zt.weight,Zt.isCreation,Zt.isGuard,Zt.isCaller,N9,iR,guardIds]
theorem nU{us:List Value}{a:List (Str×Value)}:(A.under (.builtin "type.__call__" ⟨.ref C::us,a⟩)).units=A.units+1:=by
 first|rfl|simp[gR,Zt.cUnits,N9,iR]
theorem Ad.make(r:Ad (k+1) A)(C:Addr)(us:List Value)(a:List (Str×Value)):Ad k (A.under (.builtin "type.__call__" ⟨.ref C::us,a⟩)):=
 {r.hd,by have:=r.dp;rw[B6];omega,by have:=r.un;rw[nU];omega}
theorem Ad.depth(r:Ad k A):A.depth< M9:=by have:=r.dp;omega
theorem Ad.units(r:Ad k A):A.units+64< Wc:=by have:=r.un;omega
def Xb:TA:=λ_ H Q=>Q [] H
def Kb(ta:TE)(a:TA):TA:=λσ H Q=>ta σ H λx H1=>a σ H1 λxs H2=>Q (x::xs) H2
section
variable{es:List ua}{te:TE}{t:TA}{pos:La}
theorem pa:PA X [] Xb:=λ_ _ _ _ H Q I h=>Calls.spliced_nil {[],H,I,.nil,h}
theorem la(a:PE X e te)(b:PA X es t)(c:autoParam (Jc (e::es) X.env=(ma,Ic e X.env)::Jc es X.env) ZQ0._auto_1):PA X (e::es) (Kb te t):=by
 intro pos d s σ H Q I h;rw[c];show ra _ _ (UQ ((ma,Ic e X.env)::Ye pos (Jc es X.env))) _ _ s;refine Calls.spliced_cons (Gb (a d s σ H _ I h) λu f ⟨x,H1,I1,r1,q1⟩=>?_);exact Gb (b pos d f σ H1 _ I1 q1) λg i ⟨xs,H2,I2,r2,q2⟩=>{x::xs,H2,I2,.cons r1 r2,q2}
def Kp(t:TA):TE:=λσ H Q=>t σ H λxs H1=>xs.length<=sizeLine/\∀p,H1 p=ia->Q (.ref p) (upd H1 p (.tup xs))
def jo(t:TA):TE:=λσ H Q=>t σ H λxs H1=>xs.length<=sizeLine/\∀p,H1 p=ia->Q (.ref p) (upd H1 p (.lst xs))
theorem Mf{x1}(h:PA X es t):PE X (.Tuple es x1 pos) (Kp t):=by
 intro a s σ H Q I c;refine wpAny_Tuple_spliced (Gb (h pos a s σ H _ I c) λd f ⟨xs,H1,I1,r,z,q⟩=>{by rw[<-r.length];exact z,?_});have hf:H1 f.heap.objs.size=ia:=I1.vb.fresh (rb _);refine{.ref f.heap.objs.size,upd H1 f.heap.objs.size (.tup xs),I1.laid (t':=f.toks) (λb u e=>Qb _ e) (rb _) ?_,rfl,q _ hf};exact{z,d,r,{_,Uc _ rfl,rfl,_,rfl},_,Uc _ rfl,rfl}
theorem ic(h:PA X es t):PE X (.List es pos) (jo t):=by
 intro a s σ H Q I c;refine wpAny_List_spliced (Gb (h pos a s σ H _ I c) λd f ⟨xs,H1,I1,r,z,q⟩=>{by rw[<-r.length];exact z,?_});have hf:H1 f.heap.objs.size=ia:=I1.vb.fresh (rb _);refine{.ref f.heap.objs.size,upd H1 f.heap.objs.size (.lst xs),I1.laid (t':=f.toks) (λb u e=>Qb _ e) (rb _) ?_,rfl,q _ hf};exact{z,d,0,r,Uc _ rfl}
end
abbrev Sp:=List V->Hp->VK->XK->Prop
abbrev ib:=List va->Hp->ja->XK->Value->ja->Prop
structure Pp(P:Va)(w:Pa)(K:xa)(mg:Str->Option Value)(base:Heap)(A:bb)(outer:List va)(s:ja)(H:Hp):Prop where
 frames:A.frames=ba outer
 mod:Mod K mg base
 bs:∀b o,base.get? b=ba o->s.heap.get? b=ba o/\H b=ia
 Vj:base.objs.size<=s.heap.objs.size
 Vh:s.heap.FunFrames base outer
 Sl:∀b∈Zd outer,H b=ia
 vb:ud P w H s.heap
 bare:AllBare s.gens
inductive CE(outer:List va)(P:Va)(w:Pa)(H:Hp)(s:ja)(Q:VK)(u:Value)(s':ja):Prop|mk:∀v H',s'.os=s.os->AllBare s'.gens->Un (Zd outer) [] H H' s.heap s'.heap->ud P w H' s'.heap->RelV v u->Q v H'->CE outer P w H s Q u s'
def CR(CX:ib)(outer:List va)(P:Va)(w:Pa)(H:Hp)(s:ja)(Q:VK)(E:XK)(r:xb)(s':ja):Prop:=
 match r with
 | .ok (.ret u)=>CE outer P w H s Q u s'
 | .ok _=>False
 | .error e=>CX outer H s E e s'
structure Te(P:Va)(w:Pa)(K:xa)(mg:Str->Option Value)(base:Heap)(CX:ib)(k:Nat)(f:Addr)(fd:qb)(ps:List Str)(sp:Sp):Prop where
 len:∀vs H Q E,sp vs H Q E->vs.length=ps.length
 run:∀(A:bb)(outer:List va)(s:ja)(H:Hp)(args:Args)(us:List Value)(vs:List V)(Q:VK)(E:XK),Ad k A->Pp P w K mg base A outer s H->Kx s fd args (ps.zip us)->yb vs us->sp vs H Q E->
  jm (Ea P w) A (.call (.ref f) args) (CR CX outer P w H s Q E) s
theorem Te.imp{CX:ib}{f:Addr}{fd:qb}{sp a:Sp}(F:Te P w K mg base CX k f fd ps sp)
  (h:∀vs H Q E,a vs H Q E->sp vs H Q E):Te P w K mg base CX k f fd ps a:=
 {λvs H Q E q=>F.len vs H Q E (h _ _ _ _ q),λA b s H args c vs Q E d e g i j=>F.run A b s H args c vs Q E d e g i (h _ _ _ _ j)}
theorem Pp.make{a:List va}(e:Pp P w K mg base A a s H)(C:Addr)(us:List Value)(b:List (Str×Value)):
  Pp P w K mg base (A.under (.builtin "type.__call__" ⟨.ref C::us,b⟩)) a s H:={by first|exact e.frames|(simpa[gR,Zt.envs,iR,pushEnvs] using e.frames),e.mod,e.bs,e.Vj,e.Vh,e.Sl,e.vb,e.bare}
section
variable{s':ja}
theorem Inv.aM(I:Inv X pins σ H s):Pp X.prog X.w X.K X.mg X.base X.A X.stack s H:=
 {I.ok.frames,I.ok.mod,I.bs,Bc I.ok.Vj I.sz,I.stack,I.dA,I.vb,I.bare}
theorem Inv.after{Q:VK}{u:Value}(I:Inv X pins σ H s)(h:CE X.stack X.prog X.w H s Q u s'):EP X pins σ Q u s':=by
 obtain⟨v,H',a,c,e,f,r,q⟩:=h;obtain⟨i,g,d,t,j⟩:=s';obtain rfl:j=s.os:=a;exact{v,H',I.call (h':=i) (g':=g) (d':=d) (t':=t) (ch:=[]) e f c (λb z=>absurd z (by simp)),r,q}
end
def me(sp:Sp)(dvs:List V)(E:XK)(t:TA):TE:=λσ H Q=>t σ H λvs H1=>sp (vs++dvs) H1 Q E
def Il(C:Addr)(m:Str)(sp:Sp)(dvs:List V)(E:XK)(ta:TE)(t:TA):TE:=λσ H Q=>ta σ H λx H1=>∃a dx fs,x= .ref a/\H1 a=ba (.ins C dx fs)/\fs.lookup m=ia/\
 t σ H1 λvs H2=>sp (x::(vs++dvs)) H2 Q E
def Tn(C:Addr)(sp:Sp)(dvs:List V)(E:XK)(t:TA):TE:=λσ H Q=>t σ H λvs H1=>∀x dx,H1 x=ia->H1 dx=ia->dx≠x->
 sp (.ref x::(vs++dvs)) (upd (upd H1 dx (.own x)) x (.ins C dx [])) (λv H2=>v= .Tb/\Q (.ref x) H2) E
def Binds(K:xa)(fd:qb)(ps:List Str)(ds:List Value):Prop:=
 ∀(s:ja)(us:List Value),K.In s.heap->(us++ds).length=ps.length->Kx s fd ⟨us,[]⟩ (ps.zip (us++ds))
theorem Binds.all{fd:qb}(h:∀us:List Value,us.length=ps.length->jR fd ⟨us,[]⟩=pd (ps.zip us)):Binds K fd ps []:=λs us _ a=>by
 rw[sj] at a⊢;exact .of_eq (h us a)
def vk(CX:ib)(X:Cx)(E:XK):Prop:=∀(pins:List (Addr×Obj))(σ:St)(H:Hp)(s:ja)(e:Value)(s':ja),Inv X pins σ H s->CX X.stack H s E e s'->X.xe e s'
section
variable{CX:ib}{f:Addr}{fd:qb}{sp:Sp}{dvs:List V}{ds:List Value}{E:XK}{x m:Str}{p pos apos:La}{o:ua}{es:List ua}{ta:TE}{t:TA}
theorem yI{Q:VK}{us:List Value}{vs:List V}(F:Te X.prog X.w X.K X.mg X.base CX k f fd ps sp)(a:Ad k X.A)(b:Binds X.K fd ps ds)(hd:yb dvs ds)(c:vk CX X E)
  (I:Inv X pins σ H s) (r:yb vs us) (h:sp (vs++dvs) H Q E):ra (Ea X.prog X.w) X.A (call (.ref f) us) (EP X pins σ Q) X.xe s:=by
 have d:yb (vs++dvs) (us++ds):=r.append hd;have g:(us++ds).length=ps.length:=by rw[<-d.length];exact F.len _ _ _ _ h
 refine JG (Pq (F.run X.A X.stack s H {us,[]} (us++ds) (vs++dvs) Q E a I.aM (b s us I.yi g) d h) λr s' i=>?_);cases r with
 |error e=>exact c pins σ H s e s' I i
 |ok j=>
  cases j with
  |ret u=>exact I.after i
  |next=>exact Og i
  |brk=>exact Og i
  |cont=>exact Og i
theorem AQ(F:Te X.prog X.w X.K X.mg X.base CX k f fd ps sp)(a:Ad k X.A)(b:Gl X x)(c:X.mg x=ba (.ref f))(d:km X.K (.ref f)=da)(g:Binds X.K fd ps ds)(hd:yb dvs ds)(i:vk CX X E)
  (j:PA X (e::es) t) (l:autoParam ((x==("__debug__":Str))=ma) ZQ1._auto_1) (m:autoParam (Jc (e::es) X.env=(ma,Ic e X.env)::Jc es X.env) ZQ0._auto_1) (n:autoParam ((Ye pos (Jc es X.env)).any (·.1)=ma) ZQ0._auto_1):
  PE X (.Call (.Name x p) (e::es) [] pos) (me sp dvs E t):=by
 intro o s σ H Q I h;refine Lx (Wr I b c ?_ l);refine O9 (h₀:=X.base) I.ok.mod.Dr d (Gb (j pos o s σ H _ I h) λu v ⟨vs,H1,I1,r,q⟩=>{I1.yi,?_}) m n;exact yI F a g hd i I1 r q
theorem cM{pl:Ma Bool}(b:PE X o ta)(c:dh X.K C)(d:Vw X.K C m f)(F:Te X.prog X.w X.K X.mg X.base CX k f fd ps sp)(e:Ad k X.A)(g:Binds X.K fd ps ds)(hd:yb dvs ds)(i:vk CX X E)
  (j:autoParam (Ic (.Call (.Attribute o m apos) [] [] pos) X.env=(do
   let n<-Ic o X.env
   Fx apos.atName
   let(f,first)<-To [n] (zB n m pl)
   kR pos f first (Ye pos (Jc [] X.env)) (Mx pos (Ox [] X.env)))) ZQ0._auto_1):
  PE X (.Call (.Attribute o m apos) [] [] pos) (Il C m sp dvs E ta Xb):=by
 intro p s σ H Q I h;refine PySem.W.methodCall_KW (pl:=pl) (Gb (b p s σ H _ I h) λu r ⟨x,H1,I1,rx,a,dx,fs,ex,ea,l,q⟩=>?_) j;subst ex;obtain rfl:u=Bb a:=rx;refine ZV I1 ea c d l ?_;exact P9 (first:=[.ref a]) I1.yi d.kp (yI (us:=[.ref a]) (vs:=[.ref a]) F e g hd i I1 (.cons rfl .nil) q)
structure Mk(K:xa)(C f:Addr):Prop where
 makes:fR K C=da
 init:jl K (.ref C) "__init__"=ba (ba (.ref f))
 fn:yB K (.ref f)=da
 kp:km K (.ref C)=da
theorem gP{Q:VK}{us:List Value}{vs:List V}(M:Mk X.K C f)(F:Te X.prog X.w X.K X.mg X.base CX k f fd ps sp)(a:Ad (k+1) X.A)(b:Binds X.K fd ps ds)(hd:yb dvs ds)
  (c:vk CX X E) (I:Inv X pins σ H s) (r:yb vs us)
  (h:∀x dx,H x=ia->H dx=ia->dx≠x->sp (.ref x::(vs++dvs)) (upd (upd H dx (.own x)) x (.ins C dx [])) (λv H2=>v= .Tb/\Q (.ref x) H2) E):
  ra (Ea X.prog X.w) X.A (call (.ref C) us) (EP X pins σ Q) X.xe s:=by
 have d:=h (s.heap.objs.size+1) s.heap.objs.size (I.vb.fresh (KG _)) (I.vb.fresh (rb _)) (Kd (IG _));have g:=Inv.made (C:=C) I;have i:yb (V.ref (s.heap.objs.size+1)::(vs++dvs)) (Bb (s.heap.objs.size+1)::(us++ds)):= .cons rfl (r.append hd);have j:(Bb (s.heap.objs.size+1)::us++ds).length=ps.length:=by
  have e:=i.length;rw[F.len _ _ _ _ d] at e;exact e.symm
 refine JG (TX (f:=f) I.yi M.makes M.init (Oh.mp M.fn) (Pq (F.run _ X.stack _ _ {Bb (s.heap.objs.size+1)::us,[]} (Bb (s.heap.objs.size+1)::(us++ds)) _ _ E (a.make C us [])
  (g.aM.make C us []) (b _ (Bb (s.heap.objs.size+1)::us) g.yi j) i d) λr s' l=>?_))
 cases r with
 |error e=>exact c pins σ _ _ e s' g l
 |ok m=>
  cases m with
  |ret u=>
   obtain⟨v,H',n,o,p,q⟩:=g.after l;subst p;exact{o,{V.ref (s.heap.objs.size+1),H',n,rfl,q}}
  |next=>exact Og l
  |brk=>exact Og l
  |cont=>exact Og l
theorem V5(M:Mk X.K C f)(F:Te X.prog X.w X.K X.mg X.base CX k f fd ps sp)(a:Ad (k+1) X.A)(b:Gl X x)(c:X.mg x=ba (.ref C))(d:Binds X.K fd ps ds)(hd:yb dvs ds)(g:vk CX X E)
  (i:PA X (e::es) t) (j:autoParam ((x==("__debug__":Str))=ma) ZQ1._auto_1) (l:autoParam (Jc (e::es) X.env=(ma,Ic e X.env)::Jc es X.env) ZQ0._auto_1) (m:autoParam ((Ye pos (Jc es X.env)).any (·.1)=ma) ZQ0._auto_1):
  PE X (.Call (.Name x p) (e::es) [] pos) (Tn C sp dvs E t):=by
 intro n s σ H Q I h;refine Lx (Wr I b c ?_ j);refine O9 (h₀:=X.base) I.ok.mod.Dr M.kp (Gb (i pos n s σ H _ I h) λo u ⟨vs,H1,I1,r,q⟩=>{I1.yi,?_}) l m;exact gP M F a d hd g I1 r q
theorem b4(M:Mk X.K C f)(F:Te X.prog X.w X.K X.mg X.base CX k f fd ps sp)(a:Ad (k+1) X.A)(b:Gl X x)(c:X.mg x=ba (.ref C))(d:Binds X.K fd ps ds)(hd:yb dvs ds)(e:vk CX X E)
  (g:autoParam ((x==("__debug__":Str))=ma) ZQ1._auto_1):PE X (.Call (.Name x p) [] [] pos) (Tn C sp dvs E Xb):=by
 intro i s σ H Q I h;refine Lx (Wr I b c ?_ g);exact P9 I.yi M.kp (gP (us:=[]) M F a d hd e I .nil h)
end
section
variable{CX:ib}{f:Addr}{fd:qb}{ks:List Str}{sp:Sp}{E:XK}{x m:Str}{p pos apos kpos:La}{o:ua}{es:List ua}{kws:List CB}{te ta:TE}{t tk:TA}{nm:Option Str}
variable{g:List Value->List Value->List Value}{gV:List V->List V->List V}
end
structure Vk(N P:List Str)(sc:jb):Prop where
 kind:sc.kind= .function
 co:sc.isCoroutine=ma
 gen:sc.isGenerator=ma
 nd:N.Nodup
 pre:N.take P.length=P
 par:∀x∈P,sc.names.lookup x=ba .local\/sc.names.lookup x=ba .cell
 G5:∀y∈sc.names,y.2≠ .free
theorem aQ{kindOf:Str->Option fi}{x:Str}:∀{a:List (Str×Value)}{m:Str->Option Value},(∀v,(x,v)∉a)->Qq kindOf a m x=m x
 |[],_,_=>rfl
 |(n,v)::r,m,h=>by
  unfold Qq;rw[aQ λw b=>h w (sf _ b)];split
  .have:x≠n:=by rintro rfl;exact h v Mh
   simp[this]
  .rfl
theorem CP{kindOf:Str->Option fi}{x:Str}:∀{a:List (Str×Value)}{m:Str->Option Value},(∀v,(x,v)∉a)->Rq kindOf a m x=m x
 |[],_,_=>rfl
 |(n,v)::r,m,h=>by
  unfold Rq;rw[CP λw b=>h w (sf _ b)];split
  .rfl
  .have:x≠n:=by rintro rfl;exact h v Mh
   simp[this]
theorem pM{kindOf:Str->Option fi}{x:Str}{v:Value}:∀{P:List Str}{vs:List Value}{i:Nat}{m:Str->Option Value},P.Nodup->P[i]?=ba x->vs[i]?=ba v->kindOf x=ba .local->
  Qq kindOf (P.zip vs) m x=ba v
 |[],_,_,_,_,h,_,_=>by simp at h
 |_::_,[],_,_,_,_,h,_=>by simp at h
 |p::P,w::vs,0,m,a,h1,h2,b=>by
  simp at h1 h2;subst h1;subst h2;show Qq kindOf ((p,w)::P.zip vs) m p=_;unfold Qq;rw[aQ λv c=>(tj.mp a).1 (DB c).1,qa b];simp
 |p::P,w::vs,i+1,m,a,h1,h2,b=>by
  show Qq kindOf ((p,w)::P.zip vs) m x=_;unfold Qq;exact pM (i:=i) (tj.mp a).2 (by simpa using h1) (by simpa using h2) b
theorem EL{kindOf:Str->Option fi}{x:Str}{v:Value}:∀{P:List Str}{vs:List Value}{i:Nat}{m:Str->Option Value},P.Nodup->P[i]?=ba x->vs[i]?=ba v->kindOf x≠ba .local->
  Rq kindOf (P.zip vs) m x=ba v
 |[],_,_,_,_,h,_,_=>by simp at h
 |_::_,[],_,_,_,_,h,_=>by simp at h
 |p::P,w::vs,0,m,a,h1,h2,b=>by
  simp at h1 h2;subst h1;subst h2;show Rq kindOf ((p,w)::P.zip vs) m p=_;unfold Rq;rw[CP λv c=>(tj.mp a).1 (DB c).1,oa b];simp
 |p::P,w::vs,i+1,m,a,h1,h2,b=>by
  show Rq kindOf ((p,w)::P.zip vs) m x=_;unfold Rq;exact EL (i:=i) (tj.mp a).2 (by simpa using h1) (by simpa using h2) b
noncomputable def start(N:List Str)(vs:List V):St:=vs.map ba++List.replicate (N.length - vs.length) ia
noncomputable def ai(CX:ib)(P:Va)(w:Pa)(K:xa)(mg:Str->Option Value)(base:Heap)(N:List Str)(qual:Str)(scope:jb)(f:Addr)(cd:Value)(A:bb)(outer:List va)(s:ja)(H:Hp)(E:XK):Cx where
 prog:=P
 w:=w
 K:=K
 mg:=mg
 base:=base
 A:=A.deeper (Sf qual scope s.heap.objs.size f cd)
 N:=N
 fg:=s
 iq:=H
 env:=Sf qual scope s.heap.objs.size f cd
 outer:=outer
 stack:=Sf qual scope s.heap.objs.size f cd::outer
 ex:=[]
 calm:=da
 fn:=λ_=>da
 pn:=[]
 xe:=λe s'=>ra (Ea P w) (A.deeper (Sf qual scope s.heap.objs.size f cd)) (EB (Sf qual scope s.heap.objs.size f cd) e) (λ_ a=>CX outer H s E e a) (λb a=>CX outer H s E b a) s'
theorem fN{sc:jb}{n:Nat}{x:Str}(h:sc.names.lookup x=ba .cell):∃c,(lg n sc.names []).lookup x=ba c:=by
 have q:=Q9 sc.names n [] (.inl h);exact GB.mp q
theorem xV{CX:ib}{N:List Str}{d:Str}{g:jb}{f:Addr}{j:Value}{l:List va}{m:ja}{E:XK}{us:List Value}{vs:List V}
  (S:Vk N ps g) (hd:A.handled=ia) (o:Pp P w K mg base A l s H) (t:vs.length=ps.length) (r:yb vs us)
  (x:InCallC s s.heap.objs.size (Qq (Sf d g s.heap.objs.size f j).kindOf (ps.zip us) λ_=>ia) (lg (s.heap.objs.size+1) g.names []) (Rq (Sf d g s.heap.objs.size f j).kindOf (ps.zip us) λ_=>ia) m):
  Inv (ai CX P w K mg base N d g f j A l s H E) [] (start N vs) H m:=by
 have B:ps.length<=N.length:=by have:=wc He S.pre;rw[rd] at this;omega
 obtain⟨h1,tk,rfl,C⟩:=x.done;have D:∀b:Addr,b∉(ai CX P w K mg base N d g f j A l s H E).ex:=λb z=>absurd (show b∈([]:List Addr) from z) (by simp);refine{{o.mod,S.kind,rfl,rfl,rb _,λy z c h1 h2=>?_,λy F=>?_,λy c _ h=>?_,λ_=>hd,bb.frames_deeper o.frames,.inr ⟨rfl,rfl⟩,λb z=>absurd z (D b),o.bs,o.Vj,λb _ _=>D b,λb z=>absurd z (D b),o.Vh,o.Sl},
  rfl,o.bare,Un.kept C,{_,x.toInCall.ns,λi y v h1 h2 G=>?_},λy c h=>{_,x.cell y c h},o.vb.fresh (rb _),λy c h=>?_,λp I=>absurd (show p∈([]:List (Addr×Obj)) from I) (by simp),o.vb.kept C,?_}
 .exact name_of_addr x.apart (Mi h1) (Mi h2)
 .have F:g.names.lookup y=ba .cell\/g.names.lookup y=ba .free:=F;rcases F with F|F
  .exact fN F
  .exact absurd rfl (S.G5 _ (Mi F))
 .exact Ag (x.above y c (Mi h))
 .have hi:i< vs.length:=by
   unfold start at h2;by_cases hi:i< vs.length
   .exact hi
   .rw[Px (by simpa using hi)] at h2;rw[List.getElem?_replicate] at h2;split at h2<;>cases h2
  have J:vs[i]?=ba v:=by
   unfold start at h2;rw[HB (by simpa using hi),Ac] at h2;cases e:vs[i]? with
   |none=>rw[e] at h2;cases h2
   |some a=>rw[e] at h2;cases h2;rfl
  obtain⟨u,L,M⟩:=r.get J;have I:ps[i]?=ba y:=by
   rw[<-S.pre,List.getElem?_take_of_lt (by omega)];exact h1
  have O:ps.Nodup:=by rw[<-S.pre];exact S.nd.sublist (R9 _ _)
  refine{u,M,?_};rcases S.par y (vd I) with k|k
  .exact .inl {k,pM O I L k}
  .obtain⟨c,e⟩:=fN (n:=s.heap.objs.size+1) k;refine .inr {.inl k,c,e,?_};have q:=x.cell y c e;rw[EL O I L (by show g.names.lookup y≠_;rw[k];decide)] at q;exact q
 .exact o.vb.fresh (Ag (x.above y c (Mi h)))
 .unfold start;show _=N.length;rw[wd,Na,List.length_replicate];omega
theorem NL{CX:ib}{f:Addr}{name a:Str}{c:Arguments}{d:List za}{g:jb}{h kV i j l m p:Value}{z od:Option Addr}
  {B:Array (Option Value)} {N:List Str} {sp:Sp} (lk:K.lookup f=ba ⟨p,od,.func (An name a c d g h kV i j z l m),B⟩) (C:Qx K l a=da) (S:Vk N ps g)
  (D:∀vs H Q E,sp vs H Q E->vs.length=ps.length)
  (F:∀(A:bb)(outer:List va)(s:ja)(H:Hp)(vs:List V)(Q:VK)(E:XK),Ad k (A.deeper (Sf a g s.heap.objs.size f l))->sp vs H Q E->
   ∃t,yh (ai CX P w K mg base N a g f l A outer s H E) d t/\t {nx:=λ_ H'=>Q .Tb H',rt:=Q} (start N vs) H):
  Te P w K mg base CX (k+1) f (An name a c d g h kV i j z l m) ps sp:=by
 refine{D,λA outer s H args us vs Q E G L hb r M=>?_};have hl:=D _ _ _ _ M;have O:K.In s.heap:=L.mod.Dr.keeps λb o e=>(L.bs b o e).1;have R:s.heap.NoLimit:=L.mod.nolimit.keeps λb o e=>(L.bs b o e).1;have T:∀y∈ps.zip us,g.names.lookup y.1=ba .local\/(g.names.lookup y.1=ba .cell/\((lg (s.heap.objs.size+1) g.names []).lookup y.1).isSome=da):=λ⟨n,v⟩ hy=>by
  rcases S.par n (DB hy).1 with q|q
  .exact .inl q
  .exact .inr {q,Q9 _ _ _ (.inl q)}
 refine codeAny_call_function G.depth (O _ _ lk) rfl S.co S.gen rfl (PySem.W.codeRec_of O C) (hb _ _ _ _ ?_);refine wpAny_newFunctionEnv_cells S.kind T λenv he U x=>?_;subst he;refine{R.keeps x.toInCall.keep,codeAny_func ?_};obtain⟨t,ht,hq⟩:=F A outer s H vs Q E (G.deeper _) M;have I:Inv (ai CX P w K mg base N a g f l A outer s H E) [] (start N vs) H U:=xV S G.hd L hl r x;refine jh (ht [] U (start N vs) H _ I hq) (λfl s' W=>?_) λe s' W=>W;have X:∀{Y:St}{H':Hp}{v:V}{u:Value},Inv (ai CX P w K mg base N a g f l A outer s H E) [] Y H' s'->RelV v u->Q v H'->CE outer P w H s Q u s':=
  λ{Y H' v u} J Z q=>⟨v,H',J.os,J.bare,J.base,J.vb,Z,q⟩
 cases fl with
 |ret u=>
  obtain⟨v,Y,H',J,Z,q⟩:=W;exact X J Z q
 |next=>
  obtain⟨Y,H',J,q⟩:=W;exact X (v:=V.Tb) (u:=Kh) J rfl q
 |brk=>
  obtain⟨_,_,_,q⟩:=W;exact Og q
 |cont=>
  obtain⟨_,_,_,q⟩:=W;exact Og q
section
variable{x:Str}{p pos:La}{es:List ua}{t:TA}{id T:String}{r:List V->Hp->VK->Prop}
def qh(r:List V->Hp->VK->Prop)(t:TA):TE:=λσ H Q=>t σ H λvs H1=>r vs H1 Q
theorem Cc(a:cg X (.builtin id) r)(b:Gl X x)(c:X.mg x=ia)(d:Ex x=ba (.builtin id))(f:PA X (e::es) t)(g:autoParam (x≠"__name__") ZQ1._auto_1)(i:autoParam ((x==("__debug__":Str))=ma) ZQ1._auto_1)
  (j:autoParam (Jc (e::es) X.env=(ma,Ic e X.env)::Jc es X.env) ZQ0._auto_1) (k:autoParam ((Ye pos (Jc es X.env)).any (·.1)=ma) ZQ0._auto_1):PE X (.Call (.Name x p) (e::es) [] pos) (qh r t):=by
 intro l s σ H Q I h;refine Lx (xq I b c d ?_ g i);exact PyProof.Rows.callWith_builtin1 (Gb (f pos l s σ H _ I h) λm n ⟨vs,H1,I1,r1,q1⟩=>a l n σ H1 vs m Q I1 r1 q1) j k
theorem Ij(a:cg X (.type T) r)(b:Gl X x)(c:X.mg x=ia)(d:Ex x=ba (.type T))(f:PA X (e::es) t)(g:autoParam (x≠"__name__") ZQ1._auto_1)(i:autoParam ((x==("__debug__":Str))=ma) ZQ1._auto_1)
  (j:autoParam (Jc (e::es) X.env=(ma,Ic e X.env)::Jc es X.env) ZQ0._auto_1) (k:autoParam ((Ye pos (Jc es X.env)).any (·.1)=ma) ZQ0._auto_1):PE X (.Call (.Name x p) (e::es) [] pos) (qh r t):=by
 intro l s σ H Q I h;refine Lx (xq I b c d ?_ g i);exact LG (Gb (f pos l s σ H _ I h) λm n ⟨vs,H1,I1,r1,q1⟩=>a l n σ H1 vs m Q I1 r1 q1) j k
end
end L2
namespace HT
noncomputable def lexLt:List Int->List Int->Bool
 |[],[]=>ma
 |[],_::_=>da
 |_::_,[]=>ma
 |x::xs,y::ys=>if x=y then lexLt xs ys else decide (x< y)
theorem JM(x y:Int)(xs ys:List Int):lexLt (x::xs) (y::ys)=if x=y then lexLt xs ys else decide (x< y):=rfl
theorem xZ:lexLt [] []=ma:=rfl
theorem X1(y:Int)(ys:List Int):lexLt [] (y::ys)=da:=rfl
theorem PX(x:Int)(xs:List Int):lexLt (x::xs) []=ma:=rfl
theorem T5(A:bb)(s:ja)(a:Int)(t:pj)(c:Int)(u:pj):∃e,gi A s (.int a t) (.int c u) e/\(e=da↔a=c):=
 {(a==c),S9 a t c u,by simp}
theorem v5(A:bb)(s:ja)(a:Int)(t:pj)(c:Int)(u:pj)(prog:Va)(w:Pa)(E:Value->ja->Prop)(Q:Value->ja->Prop)(h:Q (.bool (decide (a< c))) s):
  ra (Ea prog w) A (T9 .Lt (.int a t) (.int c u)) Q E s:=
 (PyProof.Rows.lt_int h:ra (Ea prog w) A (ee .Lt (.int a t) (.int c u)) Q E s)
section
open PySem.SeqAt
open PySem.AutoSeq1 (wpAny_loadPart')
open PySem.MeetsSeq PySem.MeetsSeq2 PySem.MeetsSeq3
theorem gO(l b:Addr)(f i:Array Value)(n j:Nat)(dd k:Option Addr)(m o:Array (Option Value))(ns p:List Int)(hi:mm f.toList ns)(r:mm i.toList p):
  IB (Builtin.«tuple.__lt__» ⟨[.ref l,.ref b],[]⟩)
   (λ_ R s=>s.heap.get? l=ba {cls:= .type "tuple",dict:=dd,data:= .seq f n,slots:=m}/\s.heap.get? b=ba {cls:= .type "tuple",dict:=k,data:= .seq i j,slots:=o}/\
    R (.ok (.ret (.bool (lexLt ns p)))) s):=
 .of_wp λv w A R s h=>by
  obtain⟨z,g,d,tk,B⟩:=s;obtain⟨C,D,h⟩:=h;have E:=AutoSeq1.sub_tuple_tuple;have F:f.size=ns.length:=by rw[<-hi.length];simp
  have G:i.size=p.length:=by rw[<-r.length];simp
  wp_walk using Sq C,Sq D,au _ (λrest b s'=>b.1=ia/\s'=⟨z,g,d,tk,B⟩/\∃(H I:List Value)(J K:List Int),rest=H.zip I/\
   mm H J/\mm I K/\J.length+i.size=K.length+f.size/\R (.ok (.ret (.bool (lexLt J K)))) ⟨z,g,d,tk,B⟩) _
  case turn=>
   rintro⟨y,x⟩ rest b s' ⟨L,rfl,H,I,J,K,M,N,O,P,Q⟩;cases N with
   |nil=>rw[List.zip_nil_left] at M;cases M
   |cons a t S=>
    cases O with
    |nil=>rw[List.zip_nil_right] at M;cases M
    |cons c u T=>
     rw[lR] at M;injection M with hyx hrest;injection hyx with hy hx;subst hy hx;rw[JM] at Q;simp only[Oc] at P;obtain⟨e,U,V⟩:=T5 A.in1 ⟨z,g,d,tk,B⟩ a t c u;refine wpAny_bind (U v w _ _ ?_);cases e with
     |true=>
      rw[qa (V.mp rfl)] at Q
      wp_walk
      exact{rfl,rfl,_,_,_,_,hrest,S,T,by omega,Q}
     |false=>
      rw[oa (λq=>absurd (V.mpr q) se)] at Q;have W:=v5 A.in1 ⟨z,g,d,tk,B⟩ a t c u v w
      wp_walk using W
      exact{_,rfl,by simpa using Q}
  case fin=>
   rintro⟨X,b2⟩ s' ⟨L,rfl,H,I,J,K,M,N,O,P,Q⟩;simp only at L;subst L;have Y:lexLt J K=decide (f.size< i.size):=by
    cases N with
    |nil=>
     cases O with
     |nil=>
      simp only[uj] at P;rw[xZ];exact(Rf (by omega)).symm
     |cons c u Z=>
      simp only[uj,Oc] at P;rw[X1];exact(Xc (by omega)).symm
    |cons a t Y=>
     cases O with
     |nil=>
      simp only[uj,Oc] at P;rw[PX];exact(Rf (by omega)).symm
     |cons c u Z=>
      rw[lR] at M;cases M
   rw[Y] at Q
   wp_walk
   exact{_,rfl,by simpa[vj.Tuple.tupleCompareSizes] using Q}
  case h=>
   exact{rfl,rfl,f.toList,i.toList,ns,p,rfl,hi,r,by omega,h}
end
theorem L8{l:Addr}{a c:Array Value}{ns d:List Int}(e:qj s.heap l a)(f:qj s.heap b c)(hi:mm a.toList ns)(g:mm c.toList d)
  (i:A.units< Wc) (h:Q (.bool (lexLt ns d)) s):ra (Ea prog w) A (ee .Lt (.ref l) (.ref b)) Q E s:=by
 obtain⟨⟨j,k,m,o⟩,p,q,n,hd⟩:=id e;obtain⟨⟨r,t,data2,u⟩,v,y,z,B⟩:=id f;simp only at q hd y B;subst q hd y B;exact richCompare_meets_room (op:= .Lt) {_,p,rfl} {_,v,rfl} mR V9 (W9 _ _) (gO l b a c n z k t o u ns d hi g)
  {p,v,show Ro (lexLt ns d)≠Value.notImplemented/\Q (.bool (lexLt ns d)) s from{(λx=>nomatch x),h}} i
theorem iZ{t:Addr}{vs a:List Value}(c:qj s.heap t vs.toArray)(d:qj s.heap b a.toArray)(f:vs≠[])
  (h1:a=[]->Q (.ref t) s) (h2:a≠[]->Q (.ref s.heap.objs.size) {s with heap:=s.heap.push {cls:= .type "tuple",data:= .seq (vs++a).toArray}})
  (hsz:vs.length+a.length<=sizeLine):ra (Ea prog w) A (rj .Add (.ref t) (.ref b)) Q E s:=by
 obtain⟨⟨cls,h,g,i⟩,j,k,n,hd⟩:=id c;obtain⟨⟨l,m,data2,o⟩,p,q,r,u⟩:=id d;simp only at k hd q u;subst k hd q u;have e:vs.toArray++a.toArray=(vs++a).toArray:=by simp
 by_cases v:a=[]
 .exact nR {_,j,rfl} {_,p,rfl} oR pR qR rR (sR _ _)
   (tuple_addW1 t b vs.toArray a.toArray n r h m i o (by simpa using f) (by simp[v])) {j,p,h1 v}
 .refine nR {_,j,rfl} {_,p,rfl} oR pR qR rR (sR _ _)
   (tuple_addW2 t b vs.toArray a.toArray n r h m i o (by simpa using f) (by simpa using v) (by rw[Od,Od];exact hsz)) {j,p,?_}
  rw[e];exact h2 v
noncomputable def Rb(n d:Nat):Option Int->Nat
 |none=>d
 |some v=>if v< 0 then(v+(n:Int)).toNat else min v.toNat n
theorem HC(n d:Nat):Rb n d ia=d:=rfl
theorem Fq(n d k:Nat):Rb n d (ba (k:Int))=min k n:=by
 show(if(k:Int)< 0 then((k:Int)+(n:Int)).toNat else min (k:Int).toNat n)=min k n;rw[oa (by omega),bu]
theorem nX(n d:Nat)(hd:d<=n)(o:Option Int):Rb n d o<=n:=by
 cases o with
 |none=>exact hd
 |some v=>
  show(if v< 0 then(v+(n:Int)).toNat else min v.toNat n)<=n;by_cases a:v< 0
  .rw[qa a];omega
  .rw[oa a];exact MG _ _
theorem CJ(v:Int)(n d:Nat):(if v< 0 then max (v+(n:Int)) 0 else min v (n:Int))=((Rb n d (ba v):Nat):Int):=by
 show(if v< 0 then max (v+(n:Int)) 0 else min v (n:Int))=(((if v< 0 then(v+(n:Int)).toNat else min v.toNat n):Nat):Int);by_cases a:v< 0
 .simp only[qa a];omega
 .simp only[oa a];omega
theorem O7(lo hi:Option Int)(n:Nat):tR lo hi 1 (n:Int)=(((Rb n 0 lo:Nat):Int),((Rb n n hi:Nat):Int)):=by
 have h1:¬((1:Int)< 0):=by omega
 unfold tR;simp only[h1,Ub];refine Prod.ext ?_ ?_
 .cases lo with
  |none=>rfl
  |some v=>exact CJ v n 0
 .cases hi with
  |none=>rfl
  |some v=>exact CJ v n n
theorem bW(i j:Nat):OG (i:Int) (j:Int) 1=j - i:=by
 unfold OG;have h1:(1:Int)>0:=by omega
 simp only[h1,Ld,Int.ediv_one];split<;>omega
theorem MK{v:Value}{o:Option Int}{Q:Option Int->ja->Prop}(p:Bn v o)(h:Q o s):ra (Ea prog w) A (vj.Slice.slicePartIndex v) Q E s:=by
 cases p with
 |none=>exact Y9 h
 |int i t=>exact slicePart_int h
theorem GO{a:Addr}{b c:Value}{lo hi:Option Int}{n:Nat}{Q:Int×Int×Nat->ja->Prop}(d:s.heap.IsSliceOf a b c .none)(pl:Bn b lo)(e:Bn c hi)
  (h:Q (((Rb n 0 lo:Nat):Int),1,Rb n n hi - Rb n 0 lo) s):ra (Ea prog w) A (Z9 (.ref a) (pd (n:Int))) Q E s:=by
 obtain⟨f,g,i,j⟩:=id d;unfold Z9 vj.Slice.sliceFields;refine wpAny_bind (wpAny_bind (Ni g j (x:=b) rfl (wpAny_bind (Ni g j (x:=c) rfl (wpAny_bind (Ni g j (x:= .none) rfl (wpAny_pure ?_)))))));refine wpAny_bind (Y9 ?_);show ra _ _ (if((1:Int)==0)=da then _ else _) _ _ s;rw[oa (by decide)];refine wpAny_bind (MK pl (wpAny_bind (MK e (wpAny_bind (wpAny_pure ?_)))));show ra _ _ (match tR lo hi 1 (n:Int) with|(lo,hi)=>pd (lo,(1:Int),OG lo hi 1)) _ _ s;rw[O7 lo hi n];show ra _ _ (pd (((Rb n 0 lo:Nat):Int),(1:Int),OG ((Rb n 0 lo:Nat):Int) ((Rb n n hi:Nat):Int) 1)) _ _ s;rw[bW];exact wpAny_pure h
theorem GU(xs:Array Value)(i k:Nat):((Li k).filterMap λ(m:Nat)=>xs[((i:Int)+(m:Int)*1).toNat]?).toArray=((xs.toList.drop i).take k).toArray:=by
 have e:(λ(m:Nat)=>xs[((i:Int)+(m:Int)*1).toNat]?)=λm=>xs[i+m]?:=by
  funext m
  have:((i:Int)+(m:Int)*1).toNat=i+m:=by omega
  rw[this]
 rw[e];have:=pick_run xs i k;rw[a_] at this;have a:((λx=>xs[x]?)∘λx=>i+x)=λm=>xs[i+m]?:=rfl;rw[a] at this;rw[this]
theorem wW{t a:Addr}{b:Array Value}{c d:Value}{lo hi:Option Int}(e:qj s.heap t b)(f:s.heap.IsSliceOf a c d .none)(pl:Bn c lo)(g:Bn d hi)
  (hw:¬(Rb b.size 0 lo=0/\Rb b.size b.size hi=b.size))
  (h:Q (.ref s.heap.objs.size) {s with heap:=s.heap.push {cls:= .type "tuple",data:= .seq ((b.toList.drop (Rb b.size 0 lo)).take (Rb b.size b.size hi - Rb b.size 0 lo)).toArray}})
  (hsz:b.size<=sizeLine):ra (Ea prog w) A (Cn (.ref t) (.ref a)) Q E s:=by
 have i:sizeOk (.seq ((b.toList.drop (Rb b.size 0 lo)).take (Rb b.size b.size hi - Rb b.size 0 lo)).toArray):=by
  show((b.toList.drop (Rb b.size 0 lo)).take (Rb b.size b.size hi - Rb b.size 0 lo)).toArray.size<=sizeLine;rw[Od,rd,ue,Ng];omega
 have j:Rb b.size b.size hi<=b.size:=nX _ _ (rb _) hi;obtain⟨k,l,n,o⟩:=id f;have p:s.TypeIs (.ref a) "slice":=⟨k,l,n⟩;unfold Cn
 try with_reducible refine ng ?_
 first|refine wpAny_bind (wpAny_pure ?_) |skip
 refine wpAny_bind (b_ e.typeIs (by decide) ?_);refine wpAny_bind (qm (name:=uf "__getitem__") e.typeIs Rx
  (Rg Rx e.typeIs c_ ?_ (d_ _ _)))
 show ra _ _ (e_ (.ref t)>>=_) _ _ s;refine wpAny_bind (f_ e ?_);refine wpAny_bind (Sx p ?_);rw[qa (by decide)];refine wpAny_bind (GO f pl g ?_);have r:¬((((Rb b.size 0 lo:Nat):Int)==0&&(1:Int)==1&&(Rb b.size b.size hi - Rb b.size 0 lo)==b.size)=da):=by
  intro q;rw[Kc,Kc] at q;have u:((Rb b.size 0 lo:Nat):Int)=0:=dk q.1.1;have v:Rb b.size b.size hi - Rb b.size 0 lo=b.size:=dk q.2;exact hw {by omega,by omega}
 show ra _ _ (if(((Rb b.size 0 lo:Nat):Int)==0&&(1:Int)==1&&(Rb b.size b.size hi - Rb b.size 0 lo)==b.size)=da then _ else _) _ _ s;rw[oa r,GU]
 first
  |exact wpAny_bind (m:=QG _) (wpAny_newObj_type (wpAny_pure {_,rfl,wpAny_pure h}) i)
  |exact wpAny_bind (m:=QG _) (wpAny_newObj_type (wpAny_bind (wpAny_pure (wpAny_pure {_,rfl,wpAny_pure h}))) i)
  |exact wpAny_bind (wpAny_bind (m:=QG _) (wpAny_newObj_type (wpAny_pure (wpAny_pure {_,rfl,wpAny_pure h})) i))
  |exact wpAny_bind (wpAny_bind (m:=QG _) (wpAny_newObj_type (wpAny_pure {_,rfl,wpAny_pure h}) i))
end HT
namespace L2
abbrev TO:=St->Hp->(Option Int->Hp->Prop)->Prop
def PO(X:Cx)(e:Option ua)(t:TO):Prop:=
 ∀(pins:List (Addr×Obj))(s:ja)(σ:St)(H:Hp)(Q:Option Int->Hp->Prop),Inv X pins σ H s->t σ H Q->
  ra (Ea X.prog X.w) X.A (evalPart e X.env) (λu s'=>∃o H',Inv X pins σ H' s'/\Bn u o/\Q o H') X.xe s
def Ys:TO:=λ_ H Q=>Q ia H
def Xt(t:TE):TO:=λσ H Q=>t σ H λx H1=>∃i,x= .int i/\Q (ba i) H1
section
variable{te:TE}{lo hi:Option ua}{tl th:TO}{pos p2:La}
theorem Gg:PO X ia Ys:=by
 intro a s σ H Q I h;rw[g_];exact wpAny_pure {ia,H,I,.none,h}
theorem Ud(h:PE X e te):PO X (ba e) (Xt te):=by
 intro a s σ H Q I b;rw[evalPart_some];refine Gb (h a s σ H _ I b) λu c ⟨x,H1,I1,r1,q1⟩=>?_;obtain⟨i,rfl,q⟩:=q1;obtain⟨t,rfl⟩:=r1;exact{ba i,H1,I1,.int i t,q}
def Ir(X:Cx)(r:V->Option Int->Option Int->Hp->VK->Prop):Prop:=
 ∀(pins:List (Addr×Obj))(s:ja)(σ:St)(H:Hp)(x:V)(v vl vu:Value)(lo hi:Option Int)(sl:Addr)(Q:VK),Inv X pins σ H s->RelV x v->s.heap.IsSliceOf sl vl vu .none->Bn vl lo->Bn vu hi->r x lo hi H Q->
  ∃T id,h_ (.type T) "__getitem__"=pd (ba (.builtin id))/\s.TypeIs v T/\ra (Ea X.prog X.w) X.A (Cn v (.ref sl)) (EP X pins σ Q) X.xe s
def Ft(r:V->Option Int->Option Int->Hp->VK->Prop)(te:TE)(tl th:TO):TE:=λσ H Q=>te σ H λx H1=>tl σ H1 λl H2=>th σ H2 λu a=>r x l u a Q
theorem Oe{r:V->Option Int->Option Int->Hp->VK->Prop}(a:Ir X r)(c:PE X e te)(d:PO X lo tl)(f:PO X hi th):PE X (.Subscript e (.Slice lo hi ia p2) pos) (Ft r te tl th):=by
 intro g s σ H Q I h;refine uR (Gb (c g s σ H _ I h) λv i ⟨x,H1,I1,r1,q1⟩=>?_);refine wpAny_Slice (Gb (d g i σ H1 _ I1 q1) λj k ⟨l,H2,I2,pl,q2⟩=>Gb (f g k σ H2 _ I2 q2) λm n ⟨u,H3,I3,pu,q3⟩=>?_);rw[g_];refine wpAny_pure ?_;have o:Inv X g σ H3 {n with heap:=n.heap.push {cls:= .type "slice",data:= .fields #[j,m,.none]}}:=I3.kept (t':=n.toks) λb p q=>Qb _ q;obtain⟨T,id,t,w,y⟩:=a g {n with heap:=n.heap.push {cls:= .type "slice",data:= .fields #[j,m,.none]}} σ H3 x v j m l u n.heap.objs.size Q o r1 (Heap.IsSliceOf.new ..) pl pu q3;show ra (Ea X.prog X.w) X.A (vR e (.Slice lo hi ia p2) v (.ref n.heap.objs.size)) (EP X g σ Q) X.xe {n with heap:=n.heap.push {cls:= .type "slice",data:= .fields #[j,m,.none]}};exact tail_any (ops:=[.ref n.heap.objs.size,v]) w t y (by with_unfolding_all rfl)
noncomputable def Qj(xs:List V)(lo hi:Option Int):List V:=(xs.drop (HT.Rb xs.length 0 lo)).take (HT.Rb xs.length xs.length hi - HT.Rb xs.length 0 lo)
theorem JO(xs:List V)(lo hi:Option Int):(Qj xs lo hi).length<=xs.length:=by
 unfold Qj;rw[rd,ue];omega
inductive MM(K:xa)(x:V)(lo:Option Int)(hi:Option Int)(H:Hp)(Q:VK):Prop|mk:∀a xs,x= .ref a->Ba K H a xs->(¬(HT.Rb xs.length 0 lo=0/\HT.Rb xs.length xs.length hi=xs.length))->(∀p,H p=ia->Q (.ref p) (upd H p (.tup (Qj xs lo hi))))->MM K x lo hi H Q
theorem d3:Ir X (MM X.K):=by
 intro c s σ H x v d e lo hi f Q I g i j k h;obtain⟨a,xs,rfl,l,m,q⟩:=h;cases g;obtain⟨its,r,n,p⟩:=I.tuple l;have t:its.toArray.size=xs.length:=by rw[Od];exact r.length.symm
 refine{"tuple",_,Rx.lookup,n.typeIs,?_};refine HT.wW n i j k (by rw[t];exact m) ?_ (by rw[t];exact p);rw[t];refine{.ref s.heap.objs.size,_,I.laid (t':=s.toks) (o:= .tup (Qj xs lo hi)) (λb u q=>Qb _ q) (rb _) ?_,rfl,q _ (I.vb.fresh (rb _))};exact{Bc (JO xs lo hi) p,_,(r.drop (HT.Rb xs.length 0 lo)).take (HT.Rb xs.length xs.length hi - HT.Rb xs.length 0 lo),IsTup.new _ _,_,Uc _ rfl,rfl}
theorem yb.BA{xs:List V}{us:List Value}(r:yb xs us):us=[]↔xs=[]:=by
 cases r with
 |nil=>simp
 |cons _ _=>simp
end
noncomputable def Xn(n:Nat)(i:Int):Option Nat:=if 0<=i then(if i< n then ba i.toNat else ia) else if -(n:Int)<=i then ba (i+n).toNat else ia
noncomputable def fo(xs:List α)(i:Int):Option α:=(Xn xs.length i).bind λj=>xs[j]?
theorem B2{n:Nat}{i:Int}{j:Nat}(h:Xn n i=ba j):seqIndex? i n=ba j/\j< n/\ -(n:Int)<=i/\i< n:=by
 unfold Xn at h;by_cases a:0<=i
 .rw[qa a] at h;by_cases h1:i< n
  .rw[qa h1] at h;have e:i.toNat=j:=Dd h;exact{by rw[i_ a h1,e],by omega,by omega,h1}
  .rw[oa h1] at h;cases h
 .rw[oa a] at h;by_cases h1: -(n:Int)<=i
  .rw[qa h1] at h;have e:(i+n).toNat=j:=Dd h;exact{by rw[j_ (by omega) h1,e],by omega,h1,by omega}
  .rw[oa h1] at h;cases h
theorem wN{xs:List α}{i:Int}{v:α}(h:fo xs i=ba v):∃j,seqIndex? i xs.length=ba j/\xs[j]?=ba v/\j< xs.length/\ -(xs.length:Int)<=i/\i< xs.length:=by
 unfold fo at h;cases e:Xn xs.length i with
 |none=>rw[e] at h;cases h
 |some j=>
  rw[e] at h;obtain⟨h1,h2,a,b⟩:=B2 e;exact⟨j,h1,h,h2,a,b⟩
theorem Tp{xs:List α}{j:Nat}{v:α}(h:xs[j]?=ba v):fo xs (j:Int)=ba v:=by
 have a:j< xs.length:=(Cf.mp h).1;have e:Xn xs.length (j:Int)=ba j:=by
  unfold Xn;rw[qa (by omega),qa (by omega)];simp
 unfold fo;rw[e];exact h
theorem X4(xs:List α)(v:α):fo (xs++[v]) (-1)=ba v:=by
 have a:(xs++[v]).length=xs.length+1:=by simp
 have e:Xn (xs++[v]).length (-1)=ba xs.length:=by
  unfold Xn;rw[a,oa (by decide),qa (by omega)]
  congr 1
  omega
 unfold fo;rw[e];show(xs++[v])[xs.length]?=ba v;simp
def tY(b:ua):Prop:=∀o i,RG b ma o i=xR [o,i] (Cn o i)
def Tu(X:Cx)(r:R2):Prop:=
 ∀(value a:ua)(pins:List (Addr×Obj))(s:ja)(σ:St)(H:Hp)(x y:V)(v u:Value)(Q:VK),Inv X pins σ H s->RelV x v->RelV y u->r x y H Q->
  RG a ma v u=xR [v,u] (Cn v u)->ra (Ea X.prog X.w) X.A (vR value a v u) (EP X pins σ Q) X.xe s
def mx(X:Cx)(id:String)(r:V->List V->Hp->VK->Prop):Prop:=
 ∀(pins:List (Addr×Obj))(s:ja)(σ:St)(H:Hp)(x:V)(xs:List V)(v:Value)(us:List Value)(Q:VK),Inv X pins σ H s->RelV x v->yb xs us->r x xs H Q->
  ra (Ea X.prog X.w) X.A (call (.builtin id) (v::us)) (EP X pins σ Q) X.xe s
section
variable{a b:ua}{ta tb:TE}{pos:La}
theorem Yl{r:R2}(c:Tu X r)(d:PE X a ta)(e:PE X b tb)(f:tY b):PE X (.Subscript a b pos) (Vc r ta tb):=by
 intro g s σ H Q I h;exact uR (oD d e I h λv u i x y H2 j k l q=>c a b g i σ H2 x y v u Q j k l q (f _ _))
inductive qv(K:xa)(x:V)(y:V)(H:Hp)(Q:VK):Prop|mk:∀p xs i v,x= .ref p->y= .int i->Ia K H p xs->fo xs i=ba v->Q v H->qv K x y H Q
inductive vA(K:xa)(x:V)(y:V)(H:Hp)(Q:VK):Prop|mk:∀p xs i v,x= .ref p->y= .int i->Ba K H p xs->fo xs i=ba v->Q v H->vA K x y H Q
theorem lq:Tu X (qv X.K):=by
 intro value a b s σ H x y v u Q I c d h e;obtain⟨p,xs,i,z,rfl,rfl,f,g,q⟩:=h;cases c;obtain⟨t,rfl⟩:=d;obtain⟨its,r,k,l⟩:=I.list f;obtain⟨j,h1,h2,m,n,o⟩:=wN g;obtain⟨w,A,B⟩:=r.get h2;have C:=r.length;have D:=tG;have E:EP X b σ Q w s:=⟨z,H,I,B,q⟩;by_cases F:0<=i
 .have G:i.toNat=j:=by
   rw[i_ F o] at h1;exact Dd h1
  exact item_listR k.isList F (by omega) (by rw[G];simpa using A) E e
 .have G:(i+(its.toArray.size:Int)).toNat=j:=by
   rw[j_ (by omega) n] at h1;rw[Od,<-C];exact Dd h1
  exact k_ (x:=w) k.isList.typeIs l_.lookup
   (wpAny_getItem_list_neg (Q:=λr s'=>r=w/\EP X b σ Q r s') k.isList (by omega) (by rw[Od]<;>omega) (by omega) (by rw[G];simpa using A) ⟨rfl,E⟩) e
theorem AE:Tu X (vA X.K):=by
 intro value a b s σ H x y v u Q I c d h e;obtain⟨p,xs,i,z,rfl,rfl,f,g,q⟩:=h;cases c;obtain⟨t,rfl⟩:=d;obtain⟨its,r,k,l⟩:=I.tuple f;obtain⟨j,h1,h2,m,n,o⟩:=wN g;obtain⟨w,A,B⟩:=r.get h2;have C:=r.length;have D:=tG;have E:EP X b σ Q w s:=⟨z,H,I,B,q⟩;exact k_ (x:=w) k.typeIs slot_tuple_getitem.lookup
  (getItem_tuple (j:=j) (Q:=λr s'=>r=w/\EP X b σ Q r s') k (by omega) (by omega) (by rw[Od,<-C];exact h1) (by simpa using A) ⟨rfl,E⟩) e
theorem i7(lo hi:Option Int)(n:Nat):(cu lo hi ia n).1=((HT.Rb n 0 lo:Nat):Int)/\(cu lo hi ia n).2.1=((HT.Rb n n hi:Nat):Int)/\(cu lo hi ia n).2.2=1:=by
 refine{?_,?_,rfl}
 .cases lo with
  |none=>simp[cu,HT.Rb]
  |some i=>
   simp only[cu,HT.Rb,m_,show(1:Int)>0 by decide,Ld];by_cases h:i< 0
   .simp only[h,Ld]<;>omega
   .simp only[h,Ub]<;>omega
 .cases hi with
  |none=>simp[cu,HT.Rb]
  |some i=>
   simp only[cu,HT.Rb,m_,show(1:Int)>0 by decide,Ld];by_cases h:i< 0
   .simp only[h,Ld]<;>omega
   .simp only[h,Ub]<;>omega
theorem cX(its:List Value)(lo hi:Option Int):slicePick its.toArray lo hi ia=((its.drop (HT.Rb its.length 0 lo)).take (HT.Rb its.length its.length hi - HT.Rb its.length 0 lo)).toArray:=by
 obtain⟨h1,h2,a⟩:=i7 lo hi its.toArray.size;unfold slicePick;rw[h1,h2,a];simp only[sliceRange_one,pick_run,Od]<;>rfl
inductive VL(K:xa)(x:V)(lo:Option Int)(hi:Option Int)(H:Hp)(Q:VK):Prop|mk:∀a xs,x= .ref a->Ia K H a xs->(∀p,H p=ia->Q (.ref p) (upd H p (.lst (Qj xs lo hi))))->VL K x lo hi H Q
theorem tV:Ir X (VL X.K):=by
 intro c s σ H x v d e lo hi f Q I g i j k h;obtain⟨a,xs,rfl,l,q⟩:=h;cases g;obtain⟨its,r,m,n⟩:=I.list l;have p:=r.length;refine{"list",_,l_.lookup,m.isList.typeIs,?_};refine wpAny_getItem_list_slice m.isList i j k .none (by simp) ?_ (by rw[Od]<;>omega);rw[cX,<-p];refine{.ref s.heap.objs.size,_,I.laid (t':=s.toks) (o:= .lst (Qj xs lo hi)) (λb t q=>Qb _ q) (rb _) ?_,rfl,q _ (I.vb.fresh (rb _))};exact{Bc (JO xs lo hi) n,_,0,(r.drop (HT.Rb xs.length 0 lo)).take (HT.Rb xs.length xs.length hi - HT.Rb xs.length 0 lo),Uc _ rfl}
noncomputable def ph:V->Bool
 | .Tb=>da
 | .bl _=>da
 | .int _=>da
 | .str _=>da
 |_=>ma
noncomputable def Kl:V->V->Bool
 | .Tb,.Tb=>da
 | .bl a,.bl b=>a==b
 | .bl a,.int b=>(if a then 1 else 0)==b
 | .int a,.bl b=>a==(if b then 1 else 0)
 | .int a,.int b=>a==b
 | .str a,.str b=>a==b
 |_,_=>ma
theorem Y2{y x:V}{u v:Value}(c:RelV y u)(d:RelV x v)(e:ph y=da)(f:ph x=da):gi A s u v (Kl y x):=by
 cases y with
 |Tb=>
  cases c;cases x with
  |Tb=>cases d;exact gi.same _
  |bl b=>cases d;exact gi.none_bool b
  |int b=>obtain⟨t,rfl⟩:=d;exact gi.none_int b t
  |str b=>obtain⟨t,rfl⟩:=d;exact gi.none_str b t
  |_=>exact absurd (show ma=da from f) se
 |bl a=>
  cases c;cases x with
  |Tb=>cases d;exact gi.bool_none a
  |bl b=>cases d;exact gi.bool_bool a b
  |int b=>obtain⟨t,rfl⟩:=d;exact gi.bool_int a b t
  |str b=>obtain⟨t,rfl⟩:=d;exact gi.bool_str a b t
  |_=>exact absurd (show ma=da from f) se
 |int a=>
  obtain⟨g,rfl⟩:=c;cases x with
  |Tb=>cases d;exact gi.int_none a g
  |bl b=>cases d;exact gi.int_bool a g b
  |int b=>obtain⟨t,rfl⟩:=d;exact S9 a g b t
  |str b=>obtain⟨t,rfl⟩:=d;exact n9 a g b t
  |_=>exact absurd (show ma=da from f) se
 |str a=>
  obtain⟨g,rfl⟩:=c;cases x with
  |Tb=>cases d;exact gi.str_none a g
  |bl b=>cases d;exact gi.str_bool a g b
  |int b=>obtain⟨t,rfl⟩:=d;exact o9 a g b t
  |str b=>obtain⟨t,rfl⟩:=d;exact gi.str_str a g b t
  |_=>exact absurd (show ma=da from f) se
 |_=>exact absurd (show ma=da from e) se
noncomputable def Hg(x:V)(u:Value):Bool:=match u with
 | .none=>Kl .Tb x
 | .bool b=>Kl (.bl b) x
 | .int i _=>Kl (.int i) x
 | .str z _=>Kl (.str z) x
 |_=>ma
theorem Bv{x y:V}{u:Value}(r:RelV y u)(f:ph y=da):Hg x u=Kl y x:=by
 cases y with
 |Tb=>cases r;rfl
 |bl b=>cases r;rfl
 |int i=>obtain⟨t,rfl⟩:=r;rfl
 |str z=>obtain⟨t,rfl⟩:=r;rfl
 |_=>exact absurd (show ma=da from f) se
theorem vv{x:V}:∀{xs:List V}{us:List Value},yb xs us->xs.all ph=da->us.any (Hg x)=xs.any λy=>Kl y x
 |_,_,.nil,_=>rfl
 |y::xs,u::us,.cons r t,f=>by
  rw[du,Kc] at f;rw[ji,ji,Bv r f.1,vv t f.2]
theorem yq{x:V}{v:Value}(a:RelV x v)(b:ph x=da):∀{xs:List V}{us:List Value},yb xs us->xs.all ph=da->∀u∈us,gi A s u v (Hg x u)
 |_,_,.nil,_=>λu c=>by cases c
 |y::xs,u::us,.cons r t,f=>λd c=>by
  rw[du,Kc] at f;rcases jc.mp c with rfl|c
  .rw[Bv r f.1];exact Y2 r a f.1 b
  .exact yq a b t f.2 d c
noncomputable def gh(x:V)(xs:List V):Bool:=xs.any λy=>Kl y x
inductive Ut(K:xa)(neg:Bool)(x:V)(y:V)(H:Hp)(Q:VK):Prop|mk:∀p xs,y= .ref p->(Ia K H p xs\/Ba K H p xs)->ph x=da->xs.all ph=da->Q (.bl (if neg then !gh x xs else gh x xs)) H->Ut K neg x y H Q
theorem Zl:zd X (ee .In) (Ut X.K ma):=by
 intro a s σ H x y v u Q I b c h;obtain⟨p,xs,rfl,d,e,fs,q⟩:=h;cases c;rcases d with d|d
 .obtain⟨its,r,f,g⟩:=I.list d;refine SeqAt.in_listAt (Hg x) f.isList (λw i=>yq b e r fs w (by simpa using i)) {.bl _,H,I,rfl,?_};rw[show its.toArray.any (Hg x)=its.any (Hg x) by simp,vv r fs];exact q
 .obtain⟨its,r,f,g⟩:=I.tuple d;refine SeqAt.in_tupleAt (Hg x) f (λw i=>yq b e r fs w (by simpa using i)) {.bl _,H,I,rfl,?_};rw[show its.toArray.any (Hg x)=its.any (Hg x) by simp,vv r fs];exact q
theorem oO:zd X (ee .NotIn) (Ut X.K da):=by
 intro a s σ H x y v u Q I b c h;obtain⟨p,xs,rfl,d,e,fs,q⟩:=h;cases c;rcases d with d|d
 .obtain⟨its,r,f,g⟩:=I.list d;refine SeqAt.notIn_listAt (Hg x) f.isList (λw i=>yq b e r fs w (by simpa using i)) {.bl _,H,I,rfl,?_};rw[show its.toArray.any (Hg x)=its.any (Hg x) by simp,vv r fs];exact q
 .obtain⟨its,r,f,g⟩:=I.tuple d;refine SeqAt.notIn_tupleAt (Hg x) f (λw i=>yq b e r fs w (by simpa using i)) {.bl _,H,I,rfl,?_};rw[show its.toArray.any (Hg x)=its.any (Hg x) by simp,vv r fs];exact q
theorem je:cg X (.builtin "len") (λxs H Q=>∃p ys,xs=[.ref p]/\(Ia X.K H p ys\/Ba X.K H p ys)/\Q (.int ys.length) H):=by
 intro a s σ H xs b Q I r h;obtain⟨p,ys,rfl,c,q⟩:=h;obtain⟨u,rfl,d⟩:=vals1 r;cases d;have e:=tG;rcases c with c|c
 .obtain⟨its,f,g,i⟩:=I.list c;have j:=f.length;exact Calls.call_len_list g.isList (by simp only[Od]<;>omega) {.int ys.length,H,I.tok _,{s.toks+1,by rw[Od,j]},q}
 .obtain⟨its,f,g,i⟩:=I.tuple c;have j:=f.length;exact len_tuple g (by simp only[Od]<;>omega) {.int ys.length,H,I.tok _,{s.toks+1,by rw[Od,j]},q}
theorem As:cg X (.type "list") (λxs H Q=>∃p ys,xs=[.ref p]/\(Ia X.K H p ys\/Ba X.K H p ys)/\∀l,H l=ia->Q (.ref l) (upd H l (.lst ys))):=by
 intro a s σ H xs c Q I r h;obtain⟨p,ys,rfl,d,q⟩:=h;obtain⟨u,rfl,f⟩:=vals1 r;cases f;have g:∀(its:List Value),yb ys its->ys.length<=sizeLine->∀(h':Heap)(i:Nat),(∀b o',s.heap.get? b=ba o'->h'.get? b=ba o')->
   h'.get? s.heap.objs.size=ba {cls:= .type "list",dict:=ia,data:= .seq its.toArray i,slots:=#[]}->EP X a σ Q (.ref s.heap.objs.size) {s with heap:=h'}:=λits j k h' i m e=>
  {.ref s.heap.objs.size,_,I.laid (t':=s.toks) m (rb _) (show Cd X.prog X.w _ h' _ (.lst ys) from⟨k,its,i,j,e⟩),rfl,q _ (I.vb.fresh (rb _))}
 rcases d with d|d
 .obtain⟨its,j,t,k⟩:=I.list d;have v:=j.length;obtain⟨o,w,x,n,hd⟩:=t.isList;exact n_ p (.inl rfl) w x hd (λh' i m e=>g its j k h' i m e) (by simp only[Od]<;>omega)
 .obtain⟨its,j,t,k⟩:=I.tuple d;have v:=j.length;obtain⟨o,w,x,n,hd⟩:=t;exact n_ p (.inr rfl) w x hd (λh' i m e=>g its j k h' i m e) (by simp only[Od]<;>omega)
theorem S1:cg X (.type "tuple") (λxs H Q=>∃p ys,xs=[.ref p]/\((Ia X.K H p ys/\∀l,H l=ia->Q (.ref l) (upd H l (.tup ys)))\/(Ba X.K H p ys/\Q (.ref p) H))):=by
 intro a s σ H xs c Q I r h;obtain⟨p,ys,rfl,h⟩:=h;obtain⟨u,rfl,d⟩:=vals1 r;cases d;rcases h with⟨f,q⟩ |⟨f,q⟩
 .obtain⟨its,g,i,j⟩:=I.list f;have k:=g.length;refine call_tuple_list i.isList (λh' m=>?_) (by simp only[Od]<;>omega);have n:Inv X a σ H {s with heap:=h'}:=I.kept (t':=s.toks) m;have t:Inv X a σ (upd H h'.objs.size (.tup ys)) {s with heap:=h'.push {cls:= .type "tuple",data:= .seq its.toArray}}:=
   n.laid (t':=s.toks) (λb o e=>Qb _ e) (rb _) (show Cd X.prog X.w _ _ _ (.tup ys) from{j,its,g,IsTup.new _ _,_,Uc _ rfl,rfl})
  exact{.ref h'.objs.size,_,t,rfl,q _ (n.vb.fresh (rb _))}
 .obtain⟨its,g,i,j⟩:=I.tuple f;exact call_tuple_same i {.ref p,H,I,rfl,q}
def hJ(K:xa)(T:String)(x:V)(H:Hp):Prop:=match x with
 | .str _=>T="str"
 | .int _=>T="int"
 | .ref p=>(T="list"/\∃xs,Ia K H p xs)\/(T="tuple"/\∃o,K.lookup p=ba o/\o.cls= .type "tuple"/\o.dict=ia)\/
   (T="dict"/\((∃kvs,H p=ba (.dK kvs))\/∃kvs,H p=ba (.dT kvs)))\/(T="set"/\∃S n,H p=ba (.set S n))
 |_=>False
theorem KY{T:String}{x:V}{v:Value}(I:Inv X pins σ H s)(r:RelV x v)(ty:hJ X.K T x H):
  s.TypeIs v T/\∀a,v= .ref a->∃ob,s.heap.get? a=ba ob/\ob.dict=ia:=by
 cases x with
 |str z=>
  obtain⟨t,rfl⟩:=r;cases(show T="str" from ty);exact{typeIs_str s z t,λ_ e=>nomatch e}
 |int i=>
  obtain⟨t,rfl⟩:=r;cases(show T="int" from ty);exact{typeIs_int s i t,λ_ e=>nomatch e}
 |ref p=>
  cases r;rcases ty with⟨rfl,xs,b⟩ |⟨rfl,o,d,f,hd⟩ |⟨rfl,d⟩ |⟨rfl,S,n,d⟩
  .obtain⟨its,_,g,_⟩:=I.list b;refine{g.isList.typeIs,λa e=>?_};cases e;obtain⟨o,n,e,c,hd,_⟩:=g;exact⟨o,e,hd⟩
  .refine{{o,I.yi p o d,f},λa e=>?_};cases e;exact{o,I.yi _ o d,hd}
  .have z:∃o,s.heap.get? p=ba o/\o.ExactDict:=by
    rcases d with⟨h,d⟩ |⟨h,d⟩
    .obtain⟨_,_,_,_,o,_,_,e,ex,_⟩:=I.vb p _ d;exact⟨o,e,ex⟩
    .obtain⟨_,_,_,_,o,_,_,e,ex,_⟩:=I.vb p _ d;exact⟨o,e,ex⟩
   obtain⟨o,e,ex⟩:=z;refine{⟨o,e,ex.1⟩,λa j=>?_};cases j;exact⟨o,e,ex.2.1⟩
  .obtain⟨o,_,_,_,e,ex,_⟩:=I.vb p _ d;refine{⟨o,e,ex.1⟩,λa j=>?_};cases j;exact⟨o,e,ex.2.1⟩
 |_=>exact Og ty
def AF(K:xa)(T:String)(r:V->List V->Hp->VK->Prop)(to:TE)(t:TA):TE:=λσ H Q=>to σ H λx H1=>hJ K T x H1/\t σ H1 λxs H2=>r x xs H2 Q
variable{o:ua}{es:List ua}{to:TE}{t:TA}{name:Str}{apos cpos:La}{T id:String}{r:V->List V->Hp->VK->Prop}
theorem di(a:o_ T)(b:Slot T name id)(c:yR (.builtin id)=pd (.type "method_descriptor"))(d:mx X id r)(f:PE X o to)(g:PA X (e::es) t)
  (i:autoParam (BB o name X.env (Ic o X.env)=Ic o X.env) ZQ0._auto_1)
  (j:autoParam (((Ye cpos (Jc (e::es) X.env)).all (λx=> !x.1)&&(Mx cpos (Ox [] X.env)).all (λx=>x.1.isSome)
   &&decide ((e::es).length+([]:List CB).length+(if([]:List CB).isEmpty then 0 else 1)< 30))=da) ZQ0._auto_1)
  (k:autoParam ((apos.endLine==cpos.line)=da) ZQ0._auto_1) (l:autoParam (Jc (e::es) X.env=(ma,Ic e X.env)::Jc es X.env) ZQ0._auto_1) (m:autoParam ((Ye cpos (Jc es X.env)).any (·.1)=ma) ZQ0._auto_1):
  PE X (.Call (.Attribute o name apos) (e::es) [] cpos) (AF X.K T r to t):=by
 intro n s σ H Q I h;refine p_ i j k rfl (Gb (f n s σ H _ I h) λv p ⟨x,H1,I1,r1,ty,q1⟩=>?_);obtain⟨h1,h2⟩:=KY I1 r1 ty;refine{T,id,a,b,c,h1,h2,?_};have q:=g cpos n p σ H1 _ I1 q1;rw[l] at q⊢;refine q_ (by show(ma||(Ye cpos (Jc es X.env)).any (·.1))=ma;rw[m]<;>rfl) (zR ?_);exact Gb q λu w ⟨vs,H2,I2,r2,q2⟩=>d n w σ H2 x vs v u Q I2 r1 r2 q2
end
def MA(X:Cx)(id:String)(r:V->List V->Hp->VK->Prop):Prop:=
 ∀(pins:List (Addr×Obj))(s:ja)(σ:St)(H:Hp)(x:V)(xs:List V)(v:Value)(us:List Value)(Q:VK),Inv X pins σ H s->RelV x v->yb xs us->r x xs H Q->
  ra (Ea X.prog X.w) X.A (call (.builtin id) (v::us)) (EP X pins σ Q) X.xe s
theorem yb.one:∀{x:V}{us:List Value},yb [x] us->∃u,us=[u]/\RelV x u
 |_,_,.cons r .nil=>{_,rfl,r}
section
variable{l:Addr}{xs ys zs:List V}
theorem Inv.oF{its its':List Value}{n:Nat}{f:Array Value->Array Value}{t':Nat}(I:Inv X pins σ H s)(a:H l=ba (.lst xs))
  (e:s.heap.get? l=ba {cls:= .type "list",data:= .seq its.toArray n}) (hf:f its.toArray=its'.toArray) (b:yb ys its') (hz:ys.length<=sizeLine):
  Inv X pins σ (upd H l (.lst ys)) {s with heap:=s.heap.update l (Wo f),toks:=t'}:=by
 have q:=PySem.IsL.update e f;rw[hf] at q;refine I.write (x:=l) (e:=l) (by rw[a];exact trivial) (.inl rfl) (λc u d g=>(SG s.heap (Wo f) (Gc d)).trans g) {_,q} ?_;exact{hz,its',_,b,q}
theorem Inv.IZ{its:List Value}{t':Nat}(I:Inv X pins σ H s)(a:yb ys its)(hz:ys.length<=sizeLine):
  Inv X pins σ (upd H s.heap.objs.size (.lst ys)) {s with heap:=s.heap.push {cls:= .type "list",data:= .seq its.toArray},toks:=t'}:=
 I.laid (λ_ _ q=>Qb _ q) (rb _) {hz,its,0,a,Uc _ rfl}
theorem Inv.fresh(I:Inv X pins σ H s):H s.heap.objs.size=ia:=I.vb.fresh (rb _)
theorem Inv.Ks(I:Inv X pins σ H s)(a:H l=ba (.lst xs)):xs.length<=sizeLine/\∃(its:List Value)(n:Nat),yb xs its/\xs.length=its.length/\s.heap.get? l=ba {cls:= .type "list",data:= .seq its.toArray n}:=by
 obtain⟨z,its,n,r,e⟩:=I.vb l _ a;exact⟨z,its,n,r,r.length,e⟩
theorem NJ{n:Nat}(h:n<=sizeLine):JB n=ma:=by
 unfold JB;exact Rf (by omega)
end
inductive DD(x:V)(vs:List V)(H:Hp)(Q:VK):Prop|mk:∀l xs y,x= .ref l->vs=[y]->H l=ba (.lst xs)->xs.length< sizeLine->Q .Tb (upd H l (.lst (xs++[y])))->DD x vs H Q
theorem Nk:MA X "list.append" DD:=by
 intro a s σ H x b v c Q I d f h;obtain⟨l,xs,y,rfl,rfl,g,i,q⟩:=h;cases d;obtain⟨u,rfl,j⟩:=f.one;obtain⟨z,its,n,r,k,e⟩:=I.Ks g;refine eu F.slot_list_append {_,e,rfl} F.entry_list_append (F.args_list_append_2 _ _) (PySem.list_append l its.toArray n u (by rw[Od];omega)) {e,?_};refine{.Tb,_,I.oF (its':=its++[u]) g e (by simp) (r.append (.cons j .nil)) ?_,rfl,q};rw[wd,UG];omega
inductive zK(x:V)(vs:List V)(H:Hp)(Q:VK):Prop|mk:∀l b xs zs,x= .ref l->vs=[.ref b]->H l=ba (.lst xs)->H b=ba (.lst zs)->xs.length+zs.length<=sizeLine->Q .Tb (upd H l (.lst (xs++zs)))->zK x vs H Q
theorem rJ:MA X "list.extend" zK:=by
 intro a s σ H x c v d Q I f g h;obtain⟨l,b,xs,zs,rfl,rfl,i,j,k,q⟩:=h;cases f;obtain⟨u,rfl,m⟩:=g.one;cases m;obtain⟨z,its,n,r,o,e⟩:=I.Ks i;obtain⟨p,t,w,y,A,B⟩:=I.Ks j;have C:its.toArray.size+t.toArray.size<=sizeLine:=by rw[Od,Od];omega
 have D:¬(!its.toArray.isEmpty&&JB (its.toArray.size+t.toArray.size))=da:=by
  rw[NJ C,LB];exact se
 refine eu MB {_,e,rfl} r_ (s_ _ _)
  (AutoSeq1.list_extend_list_list_0 l its.toArray n b t.toArray w D (by rw[Od];omega) (by omega)) {e,B,?_}
 refine{.Tb,_,I.oF (its':=its++t) i e (by simp) (r.append y) ?_,rfl,q};rw[wd];omega
inductive PL(x:V)(y:V)(H:Hp)(Q:VK):Prop|mk:∀l b xs zs,x= .ref l->y= .ref b->H l=ba (.lst xs)->H b=ba (.lst zs)->xs.length+zs.length<=sizeLine->(∀p,H p=ia->Q (.ref p) (upd H p (.lst (xs++zs))))->PL x y H Q
theorem dj:zd X (rj .Add) PL:=by
 intro a s σ H x y v u Q I c d h;obtain⟨l,b,xs,zs,rfl,rfl,f,g,i,q⟩:=h;cases c;cases d;obtain⟨z,its,n,r,j,e⟩:=I.Ks f;obtain⟨k,m,o,p,t,w⟩:=I.Ks g;refine PySem.P.add_list e w ?_ (by rw[Od,Od];omega);have A:its.toArray++m.toArray=(its++m).toArray:=by simp
 rw[A];exact{.ref _,_,I.IZ (t':=s.toks) (r.append p) (by rw[wd];omega),rfl,q _ I.fresh}
theorem yb.ints:∀{ns:List Int}{us:List Value},yb (ns.map V.int) us->mm us ns
 |[],us,h=>by
  rw[Tq] at h;cases h;exact mm.nil
 |n::ns,us,h=>by
  rw[Nb] at h;cases h with
  |cons r t=>
   obtain⟨k,rfl⟩:=r;exact mm.cons n k (yb.ints t)
theorem yb.pE:∀{bs:List Bool}{us:List Value},yb (bs.map V.bl) us->us=bs.map Ro
 |[],us,h=>by
  rw[Tq] at h;cases h;rfl
 |b::bs,us,h=>by
  rw[Nb] at h;cases h with
  |cons r t=>
   cases r;rw[yb.pE t,Nb]
theorem yb.Ml{us:List Value}(r:yb [V.ref a] us):us=[Bb a]:=by
 cases r with
 |cons r t=>
  cases t;cases r;rfl
section
variable{l:Addr}{its:List Value}{ns:List Int}
theorem K0(a:A.handled=ia)(c:s.heap.IsList l its.toArray)(hi:mm its ns)
  (h:∀h' tk t',(∀b o,s.heap.get? b=ba o->h'.get? b=ba o)->Q (.int ns.sum t') {s with heap:=h',toks:=tk}):ra (Ea prog w) A (call (.builtin "sum") [.ref l]) Q E s:=by
 obtain⟨xs,e⟩:=hi.allInts.items;have d:numsOf (intItems xs).toList=ns:=by rw[<-e];exact hi.numsOf
 rw[nums_intItems] at d;rw[e] at c;refine PySem.sum_intListG a c λh' tk t' f=>?_;have:=h h' tk t' f;rw[preSum_eq,rm (by simp),d];exact this
end
inductive cO(K:xa)(vs:List V)(H:Hp)(Q:VK):Prop|mk:∀(a:Addr)(ns:List Int),vs=[V.ref a]->Ia K H a (ns.map V.int)->Q (.int ns.sum) H->cO K vs H Q
theorem A1(b:X.calm=da):cg X (.builtin "sum") (cO X.K):=by
 intro c s σ H d e Q I r h;obtain⟨a,ns,rfl,f,q⟩:=h;obtain⟨its,g,i,_⟩:=I.list f;rw[yb.Ml r];exact K0 (I.ok.hd b) i.isList g.ints λh' tk j k=>{.int _,H,I.kept k,{_,rfl},q}
theorem qL{ys:List V}(f:ys.all ph=da){j:Nat}{z:V}(h:ys[j]?=ba z):ph z=da:=Df.mp f z (vd h)
theorem rL{l:Addr}{a:Array Value}(b:s.heap.IsList l a)
  (h:∀c:ja,c={s with heap:=s.heap.push {cls:= .type "list_iterator",data:= .fields #[.ref l,.int 0 0]}}->
   (c.heap.IsListIter s.heap.objs.size l 0/\c.heap.IsList l a)->l≠s.heap.objs.size->Q (.ref s.heap.objs.size) c):ra (Ea prog w) A (Gx (.ref l)) Q E s:=by
 have d:l< s.heap.objs.size:=by obtain⟨_,e,_⟩:=b;exact cc e
 exact aR b (h _ rfl {{_,Uc _ rfl,rfl,rfl},b.push _} (Kd d))
theorem wJ{bs:List Bool}{its:List Value}(e:its=bs.map Ro):
  TruthOf prog w A (λi v=>its.toArray[i]?=ba v) (λi=>bs.getD i ma):=λi v s Q E a c=>by
 have d:its[i]?=ba v:=by simpa using a
 rw[e,Ac] at d;obtain⟨b,f,rfl⟩:=Ie.mp d;have g:bs.getD i ma=b:=by rw[List.getD_eq_getElem?_getD,f]<;>rfl
 have h:Q (bs.getD i ma) s:=c;rw[g] at h;exact il h
theorem any_range:∀bs:List Bool,(Li bs.length).any (λi=>bs.getD i ma)=bs.any id
 |[]=>rfl
 |b::bs=>by
  rw[Oc,AR,ji,Tx,ji,<-any_range bs]
  all_goals rfl
theorem all_range:∀bs:List Bool,(Li bs.length).all (λi=>bs.getD i ma)=bs.all id
 |[]=>rfl
 |b::bs=>by
  rw[Oc,AR,du,tm,du,<-all_range bs]
  all_goals rfl
inductive gx(K:xa)(vs:List V)(H:Hp)(Q:VK):Prop|mk:∀(a:Addr)(bs:List Bool),vs=[V.ref a]->Ia K H a (bs.map V.bl)->Q (.bl (bs.any id)) H->gx K vs H Q
inductive KA(K:xa)(vs:List V)(H:Hp)(Q:VK):Prop|mk:∀(a:Addr)(bs:List Bool),vs=[V.ref a]->Ia K H a (bs.map V.bl)->Q (.bl (bs.all id)) H->KA K vs H Q
theorem uA(c:X.calm=da):cg X (.builtin "any") (gx X.K):=by
 intro d s σ H e f Q I r h;obtain⟨a,g,rfl,i,q⟩:=h;obtain⟨its,j,k,_⟩:=I.list i;rw[yb.Ml r];have l:=j.pE;refine call_any_walk (rL k.isList λm n st p=>?_);subst n;refine{_,_,_,_,_,_,_,rfl,Walks.list (A:=X.A.in1) (I.ok.hd c) _ a p its.toArray,st,wJ l,λh' tk t=>?_};refine{.bl _,H,I.kept λb o u=>t b o (λv=>?_) (Qb _ u),?_,q}
 .rcases jc.mp v with w|v
  .exact absurd (w▸cc u) (Zk _)
  .cases v
 .show Ro _=Ro _;rw[<-any_range,l,Od,Na]
theorem Lr(c:X.calm=da):cg X (.builtin "all") (KA X.K):=by
 intro d s σ H e f Q I r h;obtain⟨a,g,rfl,i,q⟩:=h;obtain⟨its,j,k,_⟩:=I.list i;rw[yb.Ml r];have l:=j.pE;refine call_all_walk (rL k.isList λm n st p=>?_);subst n;refine{_,_,_,_,_,_,_,rfl,Walks.list (A:=X.A.in1) (I.ok.hd c) _ a p its.toArray,st,wJ l,λh' tk t=>?_};refine{.bl _,H,I.kept λb o u=>t b o (λv=>?_) (Qb _ u),?_,q}
 .rcases jc.mp v with w|v
  .exact absurd (w▸cc u) (Zk _)
  .cases v
 .show Ro _=Ro _;rw[<-all_range,l,Od,Na]
mutual
inductive Dp(K:xa)(H:Hp):V->PyData->Prop
 |Tb:Dp K H .Tb .none
 |bl (b:Bool):Dp K H (.bl b) (.bool b)
 |int (i:Int):Dp K H (.int i) (.int i)
 |str (x:Str):Dp K H (.str x) (.str x)
 |lst {a:Addr} {xs:List V} {ds:List PyData}:Ia K H a xs->Ll K H xs ds->Dp K H (.ref a) (.list ds)
 |tup {a:Addr} {xs:List V} {ds:List PyData}:Ba K H a xs->Ll K H xs ds->Dp K H (.ref a) (.tuple ds)
inductive Ll(K:xa)(H:Hp):List V->List PyData->Prop
 |nil:Ll K H [] []
 |cons {v:V} {vs:List V} {d:PyData} {ds:List PyData}:Dp K H v d->Ll K H vs ds->Ll K H (v::vs) (d::ds)
end
mutual
theorem Dp.reads(I:Inv X pins σ H s):∀(d:PyData)(v:V)(u:Value),Dp X.K H v d->RelV v u->∃a,fu s.heap u d a
 | .none,_,_,h,r=>by
  cases h;cases r;exact{_,fu.none}
 | .bool b,_,_,h,r=>by
  cases h;cases r;exact{_,fu.bool b}
 | .int i,_,_,h,r=>by
  cases h;obtain⟨t,rfl⟩:=r;exact{_,fu.int i t}
 | .str x,_,_,h,r=>by
  cases h;obtain⟨t,rfl⟩:=r;exact{_,fu.str x t}
 | .list ds,_,_,h,r=>by
  cases h with
  |lst c e=>
   cases r;obtain⟨its,f,⟨o,n,g,j,_,hd⟩,_⟩:=I.list c;obtain⟨a,k⟩:=Dp.readsAll I ds _ its e f;exact{_,fu.list g j hd k}
 | .tuple ds,_,_,h,r=>by
  cases h with
  |tup c e=>
   cases r;obtain⟨its,f,⟨o,g,j,n,hd⟩,_⟩:=I.tuple c;obtain⟨a,k⟩:=Dp.readsAll I ds _ its e f;exact{_,fu.tuple g j hd k}
 | .dict _,_,_,h,_=>by cases h
theorem Dp.readsAll(I:Inv X pins σ H s):∀(ds:List PyData)(vs:List V)(us:List Value),Ll X.K H vs ds->yb vs us->∃a,BR s.heap us ds a
 |[],_,_,h,r=>by
  cases h;cases r;exact{_,BR.nil}
 |d::ds,_,_,h,r=>by
  cases h with
  |cons h1 h2=>
   cases r with
   |cons b c=>
    obtain⟨a,e⟩:=Dp.reads I d _ _ h1 b;obtain⟨f,g⟩:=Dp.readsAll I ds _ _ h2 c;exact{_,BR.cons e g}
end
inductive tQ(K:xa)(x:V)(y:V)(H:Hp)(Q:VK):Prop|mk:∀d e,Dp K H x d->Dp K H y e->Oi d=da->Oi e=da->Q (.bl (og d e)) H->tQ K x y H Q
inductive GQ(K:xa)(x:V)(y:V)(H:Hp)(Q:VK):Prop|mk:∀d e,Dp K H x d->Dp K H y e->Oi d=da->Oi e=da->Q (.bl (!og d e)) H->GQ K x y H Q
theorem Wv(a:X.A.units+64< Wc):zd X (ee .Eq) (tQ X.K):=by
 intro b s σ H x y v u Q I c f h;obtain⟨d,e,hd,g,i,j,q⟩:=h;obtain⟨k,l⟩:=Dp.reads I d x v hd c;obtain⟨m,n⟩:=Dp.reads I e y u g f;exact SeqAt.compareEq_shaped l n i j a {.bl _,H,I,rfl,q}
theorem kG(a:X.A.units+64< Wc):zd X (ee .NotEq) (GQ X.K):=by
 intro b s σ H x y v u Q I c f h;obtain⟨d,e,hd,g,i,j,q⟩:=h;obtain⟨k,l⟩:=Dp.reads I d x v hd c;obtain⟨m,n⟩:=Dp.reads I e y u g f;exact SeqAt.compareNe_shaped l n i j a {.bl _,H,I,rfl,q}
abbrev bP(h:Heap)(c:Addr)(v:Option Value):Prop:=h.IsCell c v
def O2(scope sc:jb):jb:=
 {scope with names:=scope.names.map λ(n,k)=>if(k== .free&&sc.kind== .function&&sc.names.lookup n==ba .cell) then(n,.cell) else(n,k)}
def Kf(cells:List (Str×Addr)):List (Str×fi)->List (Str×Addr)->List (Str×Addr)
 |[],a=>a
 |(n,k)::r,a=>if k== .free then Kf cells r ((n,(cells.lookup n).getD 0)::a) else Kf cells r a
theorem TK(b:va)(f:Str×fi->List (Str×Addr)->Ma (ForInStep (List (Str×Addr))))
  (hf:∀n k c,f (n,k) c=if k== .free then(do let a<-DR b n;pd (.yield ((n,a)::c))) else pd (.yield c)):
  ∀(names:List (Str×fi))(acc:List (Str×Addr)),(∀y∈names,y.2= .free->∃c,b.cells.lookup y.1=ba c)->um names acc f=pd (Kf b.cells names acc)
 |[],acc,_=>by rw[Uq];rfl
 |(n,k)::r,acc,h=>by
  rw[gu,hf];have d:=λacc=>TK b f hf r acc λy g=>h y (sf _ g);unfold Kf;by_cases i:(k==Ux)=da
  .rw[qa i,qa i];obtain⟨c,j⟩:=h (n,k) Mh (by simpa using i);have e:DR b n=pd c:=by unfold DR;rw[j]
   rw[e];have l:(b.cells.lookup n).getD 0=c:=by rw[j];rfl
   rw[l];exact d _
  .rw[oa i,oa i];exact d _
theorem Z8{a:jb}{b:va}(h:∀y∈a.names,y.2= .free->∃c,b.cells.lookup y.1=ba c):u_ a b=pd (Kf b.cells a.names []):=by
 simp only[u_];rw[TK b _ (λn k c=>rfl) a.names [] h];rfl
theorem mem_lookup:∀{l:List (Str×α)}{n:Str}{c:α},(n,c)∈l->∃a,l.lookup n=ba a
 |(k,v)::r,n,c,h=>by
  rw[iu];cases b:n==k with
  |true=>exact{_,rfl}
  |false=>
   rcases jc.mp h with e|h
   .cases e;simp at b
   .exact mem_lookup h
theorem hB{cells:List (Str×Addr)}:∀{names:List (Str×fi)}{acc:List (Str×Addr)}{n:Str}{c:Addr},(n,c)∈Kf cells names acc->(n,c)∈acc\/((n,.free)∈names/\c=(cells.lookup n).getD 0)
 |[],_,_,_,h=> .inl h
 |(m,k)::r,acc,n,c,h=>by
  unfold Kf at h;split at h
  .rename_i a
   have a:k= .free:=by simpa using a
   rcases hB h with h|⟨h1,h2⟩
   .rcases jc.mp h with e|h
    .cases e;exact .inr {a▸Mh,rfl}
    .exact .inl h
   .exact .inr {sf _ h1,h2}
  .rcases hB h with h|⟨h1,h2⟩
   .exact .inl h
   .exact .inr {sf _ h1,h2}
theorem OF{cells:List (Str×Addr)}:∀{names:List (Str×fi)}{acc:List (Str×Addr)}{p:Str×Addr},p∈acc->p∈Kf cells names acc
 |[],_,_,h=>h
 |(m,k)::r,acc,p,h=>by
  unfold Kf;split
  .exact OF (sf _ h)
  .exact OF h
theorem xD{cells:List (Str×Addr)}:∀{names:List (Str×fi)}{acc:List (Str×Addr)}{n:Str},(n,.free)∈names->(n,(cells.lookup n).getD 0)∈Kf cells names acc
 |(m,k)::r,acc,n,h=>by
  unfold Kf;rcases jc.mp h with e|h
  .cases e;exact OF Mh
  .split
   .exact xD h
   .exact xD h
theorem vw:∀{names:List (Str×fi)}{h:Heap}{acc:List (Str×Addr)}{x:Str}{c:Addr},(x,c)∈lg h.objs.size names acc->
  (x,c)∈acc\/((x,.cell)∈names/\h.objs.size<=c/\bP (Vq h names) c ia)
 |[],_,_,_,_,h=> .inl h
 |(n,k)::r,h,acc,x,c,a=>by
  unfold lg at a;unfold Vq;split at a
  .rename_i b
   rw[qa b];have b:k= .cell:=by simpa using b
   rw[<-lh h {cls:= .type "cell",data:= .cell ia}] at a;rcases vw a with a|⟨h1,h2,d⟩
   .rcases jc.mp a with e|a
    .cases e;exact .inr {b▸Mh,rb _,_,VG r _ _ _ (Uc _ rfl),rfl}
    .exact .inl a
   .rw[lh] at h2;exact .inr {sf _ h1,WG h2,d}
  .rename_i b
   rw[oa b];rcases vw a with a|⟨h1,h2,d⟩
   .exact .inl a
   .exact .inr {sf _ h1,h2,d}
theorem Vz:∀{names:List (Str×fi)}{n:Nat}{acc:List (Str×Addr)}{p:Str×Addr},p∈acc->p∈lg n names acc
 |[],_,_,_,h=>h
 |(m,k)::r,n,acc,p,h=>by
  unfold lg;split
  .exact Vz (sf _ h)
  .exact Vz h
theorem VD:∀{names:List (Str×fi)}{n:Nat}{acc:List (Str×Addr)}{x:Str},(x,.cell)∈names->∃c,(x,c)∈lg n names acc
 |(m,k)::r,n,acc,x,h=>by
  unfold lg;rcases jc.mp h with e|h
  .cases e;exact{n,Vz Mh}
  .split
   .exact VD h
   .exact VD h
theorem hF:∀{names:List (Str×fi)}{h:Heap}{acc:List (Str×Addr)}{x y:Str}{c:Addr},(∀p∈acc,p.2< h.objs.size)->(∀x y c,(x,c)∈acc->(y,c)∈acc->x=y)->
  (x,c)∈lg h.objs.size names acc->(y,c)∈lg h.objs.size names acc->x=y
 |[],_,_,_,_,_,_,hi,h1,h2=>hi _ _ _ h1 h2
 |(n,k)::r,h,acc,x,y,c,d,hi,h1,h2=>by
  unfold lg at h1 h2;split at h1
  .rename_i f
   rw[qa f] at h2;rw[<-lh h {cls:= .type "cell",data:= .cell ia}] at h1 h2;refine hF (h:=h.push _) (λp g=>?_) (λx y c a b=>?_) h1 h2
   .rw[lh];rcases jc.mp g with rfl|g
    .exact IG _
    .exact Wq (d p g)
   .rcases jc.mp a with e|a<;>rcases jc.mp b with i|b
    .cases e;cases i;rfl
    .cases e;exact absurd (d _ b) (Zk _)
    .cases i;exact absurd (d _ a) (Zk _)
    .exact hi _ _ _ a b
  .rename_i f
   rw[oa f] at h2;exact hF d hi h1 h2
theorem FV{M:ub}{a:jb}{b:Addr}{d:List (Str×Addr)}{e:Str}{f:Option Addr}{g:Value}{i:va}{j:Addr}{Q:va->ja->Prop}
  (h:Q (newEnv a s.heap.objs.size b (lg (s.heap.objs.size+1) a.names d) e f g (ba i) j)
   {s with heap:=Vq (s.heap.push {cls:= .type "dict",data:= .dict #[]}) a.names}):
  ra M A (v_ a b d [] e f g (ba i) j) Q E s:=by
 simp only[v_,ER,Ld];refine wpAny_bind (FR ?_);refine wpAny_bind (wpAny_layCells _ (λn k c=>rfl) a.names d _ _ ?_);rw[show({s with heap:=s.heap.push {cls:= .type "dict",data:= .dict #[]}}:ja).heap.objs.size=s.heap.objs.size+1 from lh ..];rw[Uq];exact wpAny_bind (wpAny_pure (wpAny_pure h))
theorem HE{sc:jb}:∀{names:List (Str×fi)}{x:Str}{k:fi},
  (names.map λ(n,k)=>if(k==Ux&&sc.kind== .function&&sc.names.lookup n==ba .cell) then(n,GR) else(n,k)).lookup x=ba k->
  ∃a,names.lookup x=ba a/\(k=a\/(a= .free/\k= .cell))
 |[],_,_,h=>by simp at h
 |(n,b)::r,x,k,h=>by
  have c:= @HE sc r x k;have h':Oq x ((if(b==Ux&&sc.kind== .function&&sc.names.lookup n==ba .cell)=da then(n,GR) else(n,b))::(r.map _))=ba k:=h;cases d:x==n with
  |true=>
   simp only[iu,d];by_cases e:(b==Ux&&sc.kind== .function&&sc.names.lookup n==ba .cell)=da
   .rw[qa e] at h';simp only[iu,d] at h';cases h';simp only[Kc,Oh] at e;exact{b,rfl,.inr ⟨e.1.1,rfl⟩}
   .rw[oa e] at h';simp only[iu,d] at h';cases h';exact{_,rfl,.inl rfl}
  |false=>
   simp only[iu,d];by_cases e:(b==Ux&&sc.kind== .function&&sc.names.lookup n==ba .cell)=da
   .rw[qa e] at h';simp only[iu,d] at h';exact c h'
   .rw[oa e] at h';simp only[iu,d] at h';exact c h'
structure Nr(N:List Str)(sc scope:jb)(own:List (Str×Nat)):Prop where
 kind:scope.kind= .function
 uniq:∀y∈scope.names,scope.names.lookup y.1=ba y.2
 ix:∀p∈own,N[p.2]?=ba p.1
 free:∀y∈scope.names,y.2= .free->sc.names.lookup y.1=ba .cell\/sc.names.lookup y.1=ba .free
 own:∀y∈scope.names,y.2= .local\/y.2= .cell->y.1∈own.map (·.1)\/y.1∉N
def wipe(σ:St):List Nat->St
 |[]=>σ
 |v::vs=>(wipe σ vs).set v ia
theorem oC(σ:St):∀vs:List Nat,(wipe σ vs).length=σ.length
 |[]=>rfl
 |v::vs=>by unfold wipe;rw[List.length_set,oC σ vs]
theorem ID{x:V}:∀{vs:List Nat},(wipe σ vs)[i]?=ba (ba x)->σ[i]?=ba (ba x)/\i∉vs
 |[],h=>{h,by simp}
 |v::vs,h=>by
  unfold wipe at h;by_cases hi:v=i
  .subst hi;by_cases a:v< (wipe σ vs).length
   .rw[RQ a] at h;cases h
   .rw[Xq (by simpa using a)] at h;cases h
  .rw[SQ hi] at h;obtain⟨h1,h2⟩:=ID h;exact{h1,by simp only[jc,not_or];exact{λe=>hi e.symm,h2}}
abbrev Cx.qg(X:Cx)(s:ja)(H:Hp)(scope:jb)(a:va)(fp:List Addr):Cx:={X with fg:=s,iq:=H,env:=a,outer:=X.stack,ex:=fp,fn:=λx=>scope.names.lookup x==ba .cell,pn:=[],xe:=λ_ _=>False}
theorem G0{d:jb}{own:List (Str×Nat)}{f:List Addr}(I:Inv X pins σ H s)(g:Nr X.N X.env.scope d own)(hN:X.N.Nodup)(h:∀b∈f,Dj X pins H b/\b< s.heap.objs.size):
  Inv (X.qg s H d (gk d (lg (s.heap.objs.size+1) d.names (Kf X.env.cells d.names [])) s.heap.objs.size X.env) f) [] (wipe σ (own.map (·.2))) H {s with heap:=Vq (s.heap.push {cls:= .type "dict",data:= .dict #[]}) d.names}:=by
 have j:∀y∈d.names,y.2= .free->∃c,X.env.cells.lookup y.1=ba c:=λy l e=>by
  rcases g.free y l e with k|k
  .exact I.ok.has _ (.inl k)
  .exact I.ok.has _ (.inr k)
 generalize t:gk d (lg (s.heap.objs.size+1) d.names (Kf X.env.cells d.names [])) s.heap.objs.size X.env=cenv
 have u:∀b o,s.heap.get? b=ba o->(Vq (s.heap.push {cls:= .type "dict",data:= .dict #[]}) d.names).get? b=ba o:=λb o e=>VG _ _ _ _ (Qb _ e);have v:cenv.locals=s.heap.objs.size:=by rw[<-t];rfl
 have x:cenv.cells=lg (s.heap.objs.size+1) d.names (Kf X.env.cells d.names []):=by rw[<-t];rfl
 have A:cenv.scope=O2 d X.env.scope:=by rw[<-t];rfl
 rw[<-lh s.heap {cls:= .type "dict",data:= .dict #[]}] at x;have B:∀{y c},(y,c)∈Kf X.env.cells d.names []->X.env.cells.lookup y=ba c/\c< s.heap.objs.size:=λ{y c} C=>by
  rcases hB C with C|⟨h1,rfl⟩
  .cases C
  .obtain⟨c,D⟩:=j _ h1 rfl;rw[D];obtain⟨w,z⟩:=I.cell _ _ D;exact⟨rfl,z.lt⟩
 have E:∀{y c},cenv.cells.lookup y=ba c->(X.env.cells.lookup y=ba c/\c< s.heap.objs.size)\/(s.heap.objs.size+1<=c/\bP (Vq (s.heap.push {cls:= .type "dict",data:= .dict #[]}) d.names) c ia):=λ{y c} e=>by
  rw[x] at e;rcases vw (Mi e) with C|⟨_,h2,h3⟩
  .exact .inl (B C)
  .rw[lh] at h2;exact .inr ⟨h2,h3⟩
 have look:∀{y},d.names.lookup y=ba .free->∃c,cenv.cells.lookup y=ba c/\X.env.cells.lookup y=ba c:=λ{y} F=>by
  have l:(y,Ux)∈d.names:=Mi F;obtain⟨G,J⟩:=mem_lookup (Vz (names:=d.names) (n:=(s.heap.push {cls:= .type "dict",data:= .dict #[]}).objs.size) (xD (cells:=X.env.cells) (acc:=[]) l));rw[<-x] at J;refine{G,J,?_};rw[x] at J;rcases vw (Mi J) with C|⟨h1,_,_⟩
  .exact(B C).1
  .have:=g.uniq _ h1;rw[F] at this;cases this
 have K:(X.qg s H d cenv f).Ok:=by
  refine{I.ok.mod,by show cenv.scope.kind=_;rw[A];exact g.kind,by show cenv.globals=_;rw[<-t];exact I.ok.glob,by show cenv.builtins=_;rw[<-t];exact I.ok.blt,by show s.heap.objs.size<=cenv.locals;rw[v];exact rb _,
   λy z c L M=>?_,λy l=>?_,λy c z e=>?_,I.ok.hd,I.ok.frames,.inl rfl,λb N=>{?_,λy c e z=>?_},I.bs,Bc I.ok.Vj I.sz,λb o e N=>?_,λb N z=>?_,I.stack,I.dA}
  .have L:cenv.cells.lookup y=ba c:=L;have M:cenv.cells.lookup z=ba c:=M;rw[x] at L M;refine hF (λp O=>?_) (λy z c a b=>I.ok.inj y z c (B a).1 (B b).1) (Mi L) (Mi M);rw[lh];exact Wq (B (y:=p.1) (c:=p.2) O).2
  .show∃c,cenv.cells.lookup y=ba c;have key:∀k,cenv.kindOf y=ba k->(k= .cell\/k= .free)->∃c,cenv.cells.lookup y=ba c:=λk P Q=>by
    unfold va.kindOf at P;rw[A] at P;obtain⟨R,e,r⟩:=HE P;have:R= .cell\/R= .free:=by
     rcases r with rfl|⟨rfl,_⟩
     .exact Q
     .exact .inr rfl
    rcases this with rfl|rfl
    .obtain⟨c,C⟩:=VD (n:=(s.heap.push {cls:= .type "dict",data:= .dict #[]}).objs.size) (acc:=Kf X.env.cells d.names []) (Mi e);obtain⟨G,J⟩:=mem_lookup C;exact{G,by rw[x];exact J}
    .obtain⟨c,h1,_⟩:=look e;exact⟨c,h1⟩
   rcases l with l|l
   .exact key _ l (.inl rfl)
   .exact key _ l (.inr rfl)
  .have z:(d.names.lookup y==ba GR)=da:=z;have z:d.names.lookup y=ba .cell:=by simpa using z
   have e:cenv.cells.lookup y=ba c:=e;rw[x] at e;rcases vw (Mi e) with C|⟨_,h2,_⟩
   .rcases hB C with C|⟨h1,_⟩
    .cases C
    .have q:=g.uniq _ h1;rw[z] at q;cases q
   .rw[lh] at h2;exact WG h2
  .show b≠cenv.locals;rw[v];exact Kd (h b N).2
  .have e:cenv.cells.lookup y=ba c:=e;rcases E e with⟨h1,_⟩ |⟨h1,_⟩
   .exact(h b N).1.2.2.2.2.1 y c h1 z
   .have h2:s.heap.objs.size+1<=b:=by rw[<-z];exact h1
    exact absurd (kg (h b N).2 (WG h2)) (Zk _)
  .rcases(h b N).1.2.2.2.1 with z|z
   .exact I.ok.Eo b o e z
   .exact absurd (kg (cc e) (Bc I.ok.Vj z)) (Zk _)
  .rcases jc.mp (I.VE b z) with z|z
   .exact(h b N).1.2.1 z
   .exact(h b N).1.2.2.1 z
 refine{K,rfl,I.bare,Un.kept u,{λ_=>ia,?_,λi y av L M S=>?_},λy c e=>?_,?_,λy c e=>?_,λp O=>?_,I.vb.kept u,by rw[oC];exact I.len}
 .show HR _ cenv.locals _;rw[v];exact HR.keeps (HR.new ..) λb o e=>VG _ _ _ _ e
 .obtain⟨M,T⟩:=ID M;have U:d.names.lookup y=ba .free/\(cenv.kindOf y=ba .cell\/cenv.kindOf y=ba .free):=by
   have key:∀k,cenv.scope.names.lookup y=ba k->k= .local\/k= .cell\/k= .free->d.names.lookup y=ba .free/\(cenv.kindOf y=ba .cell\/cenv.kindOf y=ba .free):=λk P Q=>by
    have V:=P;rw[A] at P;obtain⟨R,e,r⟩:=HE P;have W:¬(R= .local\/R= .cell):=λhh=>by
     rcases g.own _ (Mi e) hh with J|J
     .obtain⟨p,O,Y⟩:=Mb.mp J;have S:=g.ix p O;have:p.1=y:=Y;rw[this] at S;exact T (Mb.mpr {p,O,gG hN S L})
     .exact J (vd L)
    rcases r with rfl|⟨rfl,rfl⟩
    .rcases Q with rfl|rfl|rfl
     .exact absurd (.inl rfl) W
     .exact absurd (.inr rfl) W
     .exact{e,.inr V}
    .exact{e,.inl V}
   have S:px cenv.scope y:=S;rcases S with S|S|S
   .exact key _ S (.inl rfl)
   .exact key _ S (.inr (.inl rfl))
   .exact key _ S (.inr (.inr rfl))
  obtain⟨m,hn,F⟩:=I.loc;have Z:px X.env.scope y:=(g.free _ (Mi U.1) rfl).elim (λk=> .inr (.inl k)) (λk=> .inr (.inr k));obtain⟨w,r,q⟩:=F i y av L M Z;refine{w,r,.inr {U.2,?_}};obtain⟨c,h1,h2⟩:=look U.1;rcases q with⟨k,_⟩ |⟨_,G,J,z⟩
  .have k:X.env.scope.names.lookup y=ba .local:=k;rcases g.free _ (Mi U.1) rfl with R|R<;>rw[show X.env.scope.names.lookup y=_ from R] at k<;>cases k
  .rw[h2] at J;cases J;exact{c,h1,z.keeps u}
 .have e:cenv.cells.lookup y=ba c:=e;rcases E e with⟨h1,_⟩ |⟨_,z⟩
  .obtain⟨w,z⟩:=I.cell y c h1;exact{w,z.keeps u}
  .exact{_,z}
 .show H cenv.locals=ia;rw[v];exact I.vb.fresh (rb _)
 .have e:cenv.cells.lookup y=ba c:=e;rcases E e with⟨h1,_⟩ |⟨h1,_⟩
  .exact I.eh y c h1
  .exact I.vb.fresh (WG h1)
 .exact absurd (show p∈([]:List (Addr×Obj))++[] from O) (by simp)
theorem S0{D:Addr}{xs:List V}{y:V}{v:Value}(I:Inv X pins σ H s)(a:H D=ba (.lst xs))(hz:xs.length< sizeLine)(r:RelV y v)
  (h:∀s',Inv X pins σ (upd H D (.lst (xs++[y]))) s'->Q .none s'):ra (Ea X.prog X.w) X.A (call (.builtin "list.append") [.ref D,v]) Q E s:=by
 obtain⟨c,its,n,d,e⟩:=I.vb D _ a;have f:=d.length;refine append_at (hsz:=by rw[Od];omega) e λh' g i=>?_;refine h {s with heap:=h'} (I.write (t':=s.toks) (by rw[a];trivial) (.inl rfl) (λb u j q=>(g.2 b j).trans q) ⟨_,i⟩ ⟨by rw[wd];exact hz,its++[v],n+1,d.append (.cons r .nil),?_⟩);rw[i];simp
def cx(X:Cx)(ifs:List ua)(t:TT):Prop:=
 ∀(pins:List (Addr×Obj))(s:ja)(σ:St)(H:Hp)(Q:Bool->Hp->Prop),Inv X pins σ H s->t σ H Q->
  ra (Ea X.prog X.w) X.A (um ifs da λc r=>if r=da then do let a<-isTrue c X.env (Ic c X.env);pd (XG a) else pd (XG r)) (TP X pins σ Q) X.xe s
def so:TT:=λ_ H Q=>Q da H
theorem nj:cx X [] so:=λ_ _ _ H _ I h=>wpAny_tests_nil ⟨H,I,h⟩
theorem Pm{c:ua}{t:TT}(h:PT X c t):cx X [c] t:=λa s σ H Q I b=>wpAny_tests_one (h a s σ H Q I b)
theorem Kr{t:Ma α}{Q b:α->ja->Prop}{M:ub}(h:ra M A t Q (λ_ _=>False) s)(c:∀a s,Q a s->b a s):ra M A t b E s:=jh h c λ_ _ z=>Og z
theorem OZ{R:xb->ja->Prop}{a b d:ua}{f:List ua}{g:jb}{pos:La}{i acc:Value}{j:va}(I:Nat->ja->Prop)
  (turn:∀n s,I n s->ra (Ea prog w) A (Pg i) (λr k=>match r with
   |none=>R (.ok .next) k
   |some v=>ra (Ea prog w) A (DG b i v) (λ_ l=>ra (Ea prog w) A (pB b j v) (λ_ o=>
     ra (Ea prog w) A (um f da λc r=>if r=da then do let p<-isTrue c j (Ic c j);pd (XG p) else pd (XG r)) (λp q=>
      if p=da then ra (Ea prog w) A (Ic a j) (λx t=>
       ra (Ea prog w) A (call (.builtin "list.append") [acc,x]) (λ_ u=>∃m,m< n/\I m u) (Vx (Ea prog w) A j λe s'=>R (.error e) s') t) (Vx (Ea prog w) A j λe s'=>R (.error e) s') q
      else∃m,m< n/\I m q) (Vx (Ea prog w) A j λe s'=>R (.error e) s') o) (Vx (Ea prog w) A j λe s'=>R (.error e) s') l) (Vx (Ea prog w) A j λe s'=>R (.error e) s') k) (Vx (Ea prog w) A j λe s'=>R (.error e) s') s)
  (n:Nat) (h:I n s):
  jm (Ea prog w) A (.compLoop (.ListComp a [⟨b,d,f,0⟩] g pos) 0 i acc j) R s:=by
 refine codeAny_loop rfl I (λn s y=>?_) n h;show ra _ A ((compTurn (.ListComp a [{b,d,f,0}] g pos) 0 i acc j).onRaise (λx=>do JR x j;theTreesLotGoes x)) _ _ s;refine wpAny_noted ?_;rw[compTurn_list];refine wpAny_bind (YG (wpAny_bind (jh (turn n s y) (λr k z=>?_) λ_ _ h'=>h')));cases r with
 |none=>exact wpAny_pure z
 |some v=>
  refine wpAny_bind (jh z (λ_ l B=>?_) λ_ _ h'=>h');refine wpAny_bind (jh B (λ_ o C=>wpAny_bind (jh C (λp q D=>?_) λ_ _ h'=>h')) λ_ _ h'=>h');cases p with
  |false=>exact wpAny_pure ⟨rfl,D⟩
  |true=>
   exact wpAny_bind (wpAny_bind (jh D (λx t E=>wpAny_bind (jh E (λ_ u F=>wpAny_pure (wpAny_pure ⟨rfl,F⟩)) λ_ _ h'=>h')) λ_ _ h'=>h'))
def Jk(a:TI)(g:TG)(tt:TT)(te:TE)(vs:List Nat):TE:=λσ H Q=>a σ H λJ H1=>∀D,H1 D=ia->∃W:Nat->Nat->Hp->Prop,(∃m,W 0 m (upd H1 D (.lst [])))/\∀i m H,W i m H->
 (J.stop i H/\Q (.ref D) H)\/(J.go i H/\∃c:Hp->Prop,(∀H',c H'->∃d,d< m/\W (i+1) d H')/\∀x H',J.Gj i H x H'->g x (wipe σ vs) H' λe H2=>wipe e vs=wipe σ vs/\tt e H2 λb f=>
  if b=da then te e f λy h=>∃j,h D=ba (.lst j)/\j.length< sizeLine/\c (upd h D (.lst (j++[y]))) else c f)
theorem fM{Q:VK}{a tg d:ua}{f:List ua}{l:jb}{own:List (Str×Nat)}{pos pos':La}{wi:TI}{g:TG}{tt:TT}{te:TE}{use:Option (Value->Ma Unit)}{Qf:Value->ja->Prop}
  (hc:X.calm=da) (hN:X.N.Nodup) (I:Inv X pins σ H s) (hi:PI X tg d wi) (ok:Nr X.N X.env.scope l own)
  (hg:∀(s:ja)(H:Hp)(C:Addr)(cl:List (Str×Addr))(fp:List Addr),PG (X.qg s H l (gk l cl C X.env) fp) tg g) (ht:∀(s:ja)(H:Hp)(C:Addr)(cl:List (Str×Addr))(fp:List Addr),cx (X.qg s H l (gk l cl C X.env) fp) f tt)
  (he:∀(s:ja)(H:Hp)(C:Addr)(cl:List (Str×Addr))(fp:List Addr),PE (X.qg s H l (gk l cl C X.env) fp) a te) (hs:∀x,EG d X.env x=pd x)
  (h:Jk wi g tt te (own.map (·.2)) σ H Q)
  (hRR:∀D C s' m H',Inv X pins σ H' s'->Q (.ref D) H'->s'.heap.Ns C m->Dj X pins H' C->KR (Ea X.prog X.w) X.A X.xe use Qf (.ref D) C (.ok .next) s'):
  ra (Ea X.prog X.w) X.A (w_ (.ListComp a [⟨tg,d,f,0⟩] l pos) l X.env pos' (ZG []) ma (Ic d X.env) use) Qf X.xe s:=by
 have t:∀y∈l.names,y.2= .free->∃c,X.env.cells.lookup y.1=ba c:=λy hy e=>by
  rcases ok.free y hy e with k|k
  .exact I.ok.has _ (.inl k)
  .exact I.ok.has _ (.inr k)
 refine wpAny_comprehension_free (use:=use) rfl hs (Z8 t) ok.kind (λy hy e=>by rw[ok.uniq y hy,e])
  (Gb (hi pins s σ H _ I h) λxv s1 hx=>Gb hx λitv w h2=>?_)
 obtain⟨it,fp,tn,J,H2,e,I2,T,A,f2,q⟩:=h2;subst e;refine wpAny_newObj_type (FV ?_) (Pd _)
 generalize hD:w.heap.objs.size=D
 have hDn:H2 D=ia:=I2.vb.fresh (AB hD);obtain⟨W,⟨m0,w0⟩,B⟩:=q D hDn
 generalize E:({w with heap:=w.heap.push {cls:= .type "list",data:= .seq ([]:List Value).toArray}}:ja)=s3
 have I3:Inv X pins σ (upd H2 D (.lst [])) s3:=by
  rw[<-E];refine I2.laid (t':=w.toks) (λb o e=>Qb _ e) (AB hD) {Pd _,[],0,.nil,?_};rw[<-hD];exact Uc _ rfl
 have h3:s3.heap=w.heap.push {cls:= .type "list",data:= .seq ([]:List Value).toArray}:=by rw[<-E]
 have sz:∀b∈fp,b< w.heap.objs.size:=λb F=>by
  obtain⟨o,e,_⟩:=T.obj _ _ A b F;exact cc e
 have G:∀b∈fp,Dj X pins (upd H2 D (.lst [])) b/\b< s3.heap.objs.size:=λb F=>by
  have K:=sz b F;refine{{?_,(f2 b F).2},by rw[h3,lh];exact Wq K};rw[Ja (by rw[<-hD];exact Kd K)];exact(f2 b F).1
 have st3:tn 0 s3.heap:=T.keep _ _ _ A λb _ o e=>by rw[h3];exact Qb _ e
 have I4:=G0 I3 ok hN G;have pg:=hg s3 (upd H2 D (.lst [])) s3.heap.objs.size (lg (s3.heap.objs.size+1) l.names (Kf X.env.cells l.names [])) fp;have pt:=ht s3 (upd H2 D (.lst [])) s3.heap.objs.size (lg (s3.heap.objs.size+1) l.names (Kf X.env.cells l.names [])) fp;have pe:=he s3 (upd H2 D (.lst [])) s3.heap.objs.size (lg (s3.heap.objs.size+1) l.names (Kf X.env.cells l.names [])) fp;show jm _ _ (.compStart (.ListComp a [{tg,d,f,0}] l pos) 0 (.ref it) (.ref D) (gk l (lg (s3.heap.objs.size+1) l.names (Kf X.env.cells l.names [])) s3.heap.objs.size X.env)) (KR (Ea X.prog X.w) X.A X.xe use Qf (.ref D) s3.heap.objs.size) {s3 with heap:=Vq (s3.heap.push {cls:= .type "dict",data:= .dict #[]}) l.names};have L:∀b∈fp,(upd H2 D (.lst [])) b=ia:=λb F=>(G b F).1.1
 generalize hce:gk l (lg (s3.heap.objs.size+1) l.names (Kf X.env.cells l.names [])) s3.heap.objs.size X.env=ce at I4 pg pt pe⊢
 have cL:ce.locals=s3.heap.objs.size:=by subst hce;rfl
 generalize hH3:upd H2 D (.lst [])=H3 at I3 I4 pg pt pe w0 L G
 generalize hs4:({s3 with heap:=Vq (s3.heap.push {cls:= .type "dict",data:= .dict #[]}) l.names}:ja)=s4 at I4⊢
 have M:tn 0 s4.heap:=T.keep _ _ _ st3 λb _ o e=>by rw[<-hs4];exact VG _ _ _ _ (Qb _ e)
 have N:∀{O:St}{H':Hp}{s':ja},Inv (X.qg s3 H3 l ce fp) [] O H' s'->(∀b∈fp,H' b=ia)->∀b∈fp,Dj (X.qg s3 H3 l ce fp) [] H' b:=λ{O H' s'} P R b F=>
  {R b F,(P.ok.kq b F).1,P.ok.zo b F,.inl F,λx c e=>(P.ok.kq b F).2 x c e,λp hp=>absurd (show p∈([]:List (Addr×Obj))++[] from hp) (by simp)}
 have S:jm (Ea X.prog X.w) X.A (.compLoop (.ListComp a [{tg,d,f,0}] l pos) 0 (.ref it) (.ref D) ce) (KR (Ea X.prog X.w) X.A X.xe use Qf (.ref D) s3.heap.objs.size) s4:=by
  refine OZ (λn s'=>∃i H',Inv (X.qg s3 H3 l ce fp) [] (wipe σ (own.map (·.2))) H' s'/\tn i s'.heap/\(∀b∈fp,H' b=ia)/\W i n H') ?_ m0 {0,H3,I4,M,L,w0};rintro n s5 ⟨i,U,I5,V,n5,w5⟩;rcases B i n U w5 with⟨Y,qq⟩ |⟨go,Nx,hNx,step⟩
  .have td:=T.done (X.qg s3 H3 l ce fp) rfl rfl rfl hc i [] s5 _ U (λ_ _=>False) I5 (N I5 n5) V Y;refine Kr td λr s6 ⟨hr,I6⟩=>?_;subst hr;have I7:Inv X pins σ U s6:=I3.kA (ch:=fp) I6.os I6.base I6.vb I6.bare λb F=>{(G b F).1.2.2.2.1,(G b F).1.2.1,(G b F).1.2.2.2.2.1,(G b F).1.2.2.2.2.2};have nC:U s3.heap.objs.size=ia:=by
    have z:U ce.locals=ia:=I6.free;rw[cL] at z;exact z
   obtain⟨m,R,_⟩:=I6.loc;have R:s6.heap.Ns ce.locals m:=R;rw[cL] at R;exact hRR D s3.heap.objs.size s6 m U I7 qq R (I3.Xp (rb _) nC)
  .have ti:=T.item (X.qg s3 H3 l ce fp) rfl rfl rfl hc i [] s5 _ U (λ_ _=>False) I5 (N I5 n5) V go;refine Kr ti λr s6 ⟨u,hr,h6⟩=>?_;subst hr;refine Kr h6 λ_ s7 ⟨x,H7,I7,r7,y7,st7,n7⟩=>?_;have I7':=I7.pinned (N I7 n7) (T.obj _ _ st7);refine Kr (pg _ s7 _ H7 x u _ I7' r7 (step x H7 y7)) λ_ s8 ⟨σ8,H8,I8,hw8,q8⟩=>?_;refine Kr (pt _ s8 σ8 H8 _ I8 q8) λb s9 ⟨H9,I9,q9⟩=>?_;have fin:∀{s':ja}{H':Hp},Inv (X.qg s3 H3 l ce fp) ([]++nv fp s7.heap) σ8 H' s'->Nx H'->∃m,m< n/\∃i H',Inv (X.qg s3 H3 l ce fp) [] (wipe σ (own.map (·.2))) H' s'/\tn i s'.heap/\(∀b∈fp,H' b=ia)/\W i m H':=λ{s' H'} P nx=>by
    obtain⟨m',hm,w'⟩:=hNx H' nx;have Z:∀b∈fp,∀o,s7.heap.get? b=ba o->s'.heap.get? b=ba o/\H' b=ia:=λb F o e=>
     let z:=P.pin (b,o) (Nq _ (Nq _ (sC F e)))
     ⟨z.1,z.2.1⟩
    have hl:(wipe σ (own.map (·.2))).length=σ8.length:=by rw[<-hw8,oC]
    refine{m',hm,i+1,H',(P.Ly (pins:=[])).weak hl (λj v e=>?_),T.keep _ _ _ st7 λb F o e=>(Z b F o e).1,λb F=>?_,w'}
    .rw[<-hw8] at e;exact(ID e).1
    .obtain⟨o,e,_⟩:=T.obj _ _ st7 b F;exact(Z b F o e).2
   cases b with
   |false=>
    simp only[yc,Ub] at q9⊢;exact fin I9 q9
   |true=>
    simp only[Ld] at q9⊢;refine Kr (pe _ s9 σ8 H9 _ I9 q9) λz s10 ⟨yv,H10,I10,r10,acc,hD10,hz10,nx⟩=>?_;exact S0 (X:=X.qg s3 H3 l ce fp) I10 hD10 hz10 r10 λs11 I11=>fin I11 nx
 exact codeAny_compStart_list S (T.self X.A 0 _ _ _ M S)
theorem Yh{a tg c:ua}{d:List ua}{i:jb}{own:List (Str×Nat)}{pos:La}{j:TI}{g:TG}{tt:TT}{te:TE}(k:X.calm=da)(l:X.N.Nodup)(hi:PI X tg c j)(n:Nr X.N X.env.scope i own)
  (p:∀(s:ja)(H:Hp)(C:Addr)(cl:List (Str×Addr))(fp:List Addr),PG (X.qg s H i (gk i cl C X.env) fp) tg g) (r:∀(s:ja)(H:Hp)(C:Addr)(cl:List (Str×Addr))(fp:List Addr),cx (X.qg s H i (gk i cl C X.env) fp) d tt)
  (t:∀(s:ja)(H:Hp)(C:Addr)(cl:List (Str×Addr))(fp:List Addr),PE (X.qg s H i (gk i cl C X.env) fp) a te) (u:autoParam (∀x,EG c X.env x=pd x) ZQ3._auto_1):
  PE X (.ListComp a [⟨tg,c,d,0⟩] i pos) (Jk j g tt te (own.map (·.2))):=by
 intro v s σ H Q I h;rw[eval_ListComp];refine fM k l I hi n p r t u h λD C s' m H' w q y f=>{m,y,λz A=>?_};obtain⟨B,E,F,G,J,K⟩:=f;exact{.ref D,H',w.turned (t':=s'.toks) (λb o L e=>(A.2 b L).trans e) B E G J K,rfl,q}
theorem Qp{y:Str}{c:La}{d tg j:ua}{k:List ua}{l:jb}{own:List (Str×Nat)}{pos n:La}{p:TI}{g:TG}{tt:TT}{te:TE}(r:X.calm=da)(t:X.N.Nodup)(u:X.N[i]?=ba y)(w:X.env.scope.names.lookup y=ba .local)
  (A:Mq (.ListComp d [⟨tg,j,k,0⟩] l pos) (ba (.Name y c)) n.line X.env=pd da) (hi:PI X tg j p) (B:Nr X.N X.env.scope l own)
  (E:∀(s:ja)(H:Hp)(C:Addr)(cl:List (Str×Addr))(fp:List Addr),PG (X.qg s H l (gk l cl C X.env) fp) tg g) (F:∀(s:ja)(H:Hp)(C:Addr)(cl:List (Str×Addr))(fp:List Addr),cx (X.qg s H l (gk l cl C X.env) fp) k tt)
  (G:∀(s:ja)(H:Hp)(C:Addr)(cl:List (Str×Addr))(fp:List Addr),PE (X.qg s H l (gk l cl C X.env) fp) d te) (J:autoParam (∀x,EG j X.env x=pd x) ZQ3._auto_1):
  PS X (.Assign [.Name y c] (.ListComp d [⟨tg,j,k,0⟩] l pos) n) (Co (Jk p g tt te (own.map (·.2))) (Le i)):=by
 intro K s σ H D I h;rw[exec_Assign_Name_used _ _ _ _ A];refine wpAny_bind (YG (wpAny_bind ?_));show ra _ X.A (do let _<-w_ (.ListComp d [{tg,j,k,0}] l pos) l X.env (firstIterPos [{tg,j,k,0}] pos) (ZG []) ma (Ic j X.env) (ba (pB (.Name y c) X.env))) _ _ s;have h:Jk p g tt te (own.map (·.2)) σ H (λx H1=>Le i x σ H1 D.nx):=h;refine wpAny_bind (Gb (fM (Qf:=λ_ s'=>SP X K D .next s') r t I hi B E F G J h λL C s' m H' M q N f=>?_) λ_ s' O=>wpAny_pure (wpAny_pure O));show ra _ _ (pB (.Name y c) X.env (.ref L)) _ _ _;refine G9 (fK (v:=V.ref L) M t u (.inl w) rfl (λP Q ⟨a,sb,ha⟩=>?_) (.inr w));obtain⟨R,S,f2,T,U,W⟩:=f;have Y:C≠a:=by
  rcases ha with z|z
  .rw[z];exact S
  .exact λe=>U y a z e.symm
 refine{m,N.sameBut sb Y,λh3 Z=>?_};exact{_,H',Q.turned (t':=P.toks) (λb o hb e=>(Z.2 b hb).trans e) R S T U W,q}
theorem Cq{a:ua}{b:List Comprehension}{c:jb}{pos d:La}{y:Str}{l:Nat}{e:va}(f:e.scope.kind= .function)(g:e.scope.names.lookup y=ba .local)(h:(d.line==pos.line)=da)
  (i:(c.names.any λ(n,k)=>n==y&&(k== .local||k== .cell))=ma):Mq (.ListComp a b c pos) (ba (.Name y d)) l e=pd da:=by
 have j:e.kindOf y=ba .local:=g;have m:e.blockKind= .function:=by unfold va.blockKind;rw[f];rfl
 unfold Mq;have o:(ua.ListComp a b c pos).pos=pos:=rfl;have p:(ua.Name y d).pos=d:=rfl;simp only[m,j,i,o,p,h];rfl
def PF(N:List Str)(sc scope:jb)(own:List (Str×Nat)):Bool:=
 (match scope.kind with| .function=>da|_=>ma)&&(scope.names.all λy=>decide (scope.names.lookup y.1=ba y.2))&&(own.all λp=>decide (N[p.2]?=ba p.1))&&
  (scope.names.all λy=>match y.2 with
   | .free=>(match sc.names.lookup y.1 with|some .cell=>da|some .free=>da|_=>ma)
   | .local=>decide (y.1∈own.map (·.1))||decide (y.1∉N)
   | .cell=>decide (y.1∈own.map (·.1))||decide (y.1∉N)
   |_=>da)
theorem Wf{N:List Str}{sc a:jb}{own:List (Str×Nat)}(h:PF N sc a own=da):Nr N sc a own:=by
 unfold PF at h;simp only[Kc,Df,decide_eq_true_eq] at h;obtain⟨⟨⟨h1,h2⟩,b⟩,c⟩:=h;refine{?_,h2,b,λy d e=>?_,λy d e=>?_}
 .split at h1
  .assumption
  .cases h1
 .have q:=c y d;simp only[e] at q;split at q<;>first|exact .inl (by assumption) |exact .inr (by assumption) |cases q
 .have q:=c y d;rcases e with e|e<;>(simp only[e,ki,decide_eq_true_eq] at q;exact q)
section
variable{κ:Type}[DecidableEq κ]
def jf(kvs:List (κ×V))(k:κ):Option V:=(kvs.find? λa=>decide (a.1=k)).map (·.2)
def putK(kvs:List (κ×V))(k:κ)(v:V):List (κ×V):=
 if(kvs.any λa=>decide (a.1=k))=da then kvs.map (λa=>if a.1=k then(a.1,v) else a) else kvs++[(k,v)]
theorem Ot{p:κ×V}{r:List (κ×V)}{k:κ}(e:p.1=k):jf (p::r) k=ba p.2:=by simp[jf,ju,e]
theorem Tt{p:κ×V}{r:List (κ×V)}{k:κ}(e:¬p.1=k):jf (p::r) k=jf r k:=by simp[jf,ju,e]
theorem cK(k:κ):∀kvs:List (κ×V),(kvs.any λa=>decide (a.1=k))=(jf kvs k).isSome
 |[]=>rfl
 |p::r=>by
  rw[ji];by_cases e:p.1=k
  .simp only[Ot e,Xc e,LR,ER]
  .rw[Tt e,Rf e,ll];exact cK k r
theorem XO(a:List (κ×V))(k:κ)(v:V):(putK a k v).length<=a.length+1:=by
 unfold putK;split
 .rw[Na];omega
 .rw[wd,Oc,uj];omega
theorem Dh.Lw{o:Option V}{u:Option Value}(r:Dh o u):o.isSome=u.isSome:=by
 cases o with
 |none=>cases u with
  |none=>rfl
  |some _=>exact(show False from r).elim
 |some _=>cases u with
  |none=>exact(show False from r).elim
  |some _=>rfl
theorem KV.val{a:List (κ×V)}{vs:List (κ×Value)}(r:KV a vs)(k:κ):Dh (jf a k) (lu vs k):=by
 unfold KV at r
 induction r with
 |nil=>exact Jx
 | @cons p q c d h t f=>
  obtain⟨h1,h2⟩:=h;by_cases e:p.1=k
  .have g:q.1=k:=h1.symm.trans e;have b:lu (q::d) k=ba q.2:=by simp[lu,ju,g]
   rw[Ot e,b];exact h2
  .have g:¬q.1=k:=λz=>e (h1.trans z);have b:lu (q::d) k=lu d k:=by simp[lu,ju,g]
   rw[Tt e,b];exact f
theorem KV.any{a:List (κ×V)}{vs:List (κ×Value)}(r:KV a vs)(k:κ):(a.any λb=>decide (b.1=k))=vs.any λb=>decide (b.1=k):=by
 unfold KV at r
 induction r with
 |nil=>rfl
 |cons h t c=>rw[ji,ji,c,h.1]
theorem KV.pF{a:List (κ×V)}{vs:List (κ×Value)}(r:KV a vs)(k:κ){y:V}{u:Value}(b:RelV y u):
  KV (a.map λc=>if c.1=k then(c.1,y) else c) (vs.map λc=>if c.1=k then(c.1,u) else c):=by
 unfold KV at r⊢
 induction r with
 |nil=>exact .nil
 | @cons p q d f h t g=>
  rw[Nb,Nb];refine .cons ?_ g;obtain⟨h1,h2⟩:=h;by_cases e:p.1=k
  .rw[qa e,qa (h1.symm.trans e)];exact⟨h1,b⟩
  .rw[oa e,oa (λz=>e (h1.trans z))];exact⟨h1,h2⟩
theorem KV.put{a:List (κ×V)}{vs:List (κ×Value)}(r:KV a vs)(k:κ){y:V}{u:Value}(b:RelV y u):KV (putK a k y) (stored vs k u):=by
 unfold putK stored;rw[r.any k];by_cases e:(vs.any λc=>decide (c.1=k))=da
 .rw[qa e,qa e];exact r.pF k b
 .rw[oa e,oa e];exact x_ r ⟨rfl,b⟩
theorem KV.length{a:List (κ×V)}{vs:List (κ×Value)}(r:KV a vs):a.length=vs.length:=bf r
end
theorem Xv{k:Key}{u:Value}(r:RelV (kV k) u):(ah P w).is k u=da:=by
 cases k with
 |inl i=>obtain⟨t,e⟩:=(show∃t,u=Yk i t from r);subst e;exact JX P w i t
 |inr x=>obtain⟨t,e⟩:=(show∃t,u=yG x t from r);subst e;exact Q0 P w x t
theorem kF:∀{ks:List Key}{us:List Value},yb (ks.map kV) us->ItemsAre (ah P w) ks us
 |[],_,r=>by rw[Tq] at r;cases r;exact .nil
 |k::ks,_,r=>by
  rw[Nb] at r;cases r with
  |cons h t=>exact .cons (Xv h) (kF t)
abbrev KT(H:Hp):List (List Key×V)->List (List Key×Addr×Value)->Prop:=Paired λp q=>p.1=q.1/\H q.2.1=ba (.tup (p.1.map kV))/\RelV p.2 q.2.2
theorem KT.val{xs:List (List Key×Addr×Value)}(r:KT H kvs xs)(k:List Key):Dh (jf kvs k) ((Xo xs k).map (·.2)):=by
 induction r with
 |nil=>exact Jx
 | @cons p q a c h t d=>
  obtain⟨h1,_,h2⟩:=h;by_cases e:p.1=k
  .have f:q.1=k:=h1.symm.trans e;have b:Xo (q::c) k=ba q.2:=by simp[Xo,ju,f]
   rw[Ot e,b];exact h2
  .have f:¬q.1=k:=λz=>e (h1.trans z);have b:Xo (q::c) k=Xo c k:=by simp[Xo,ju,f]
   rw[Tt e,b];exact d
theorem KT.pF{xs:List (List Key×Addr×Value)}(r:KT H kvs xs)(k:List Key){y:V}{u:Value}(a:RelV y u):
  KT H (kvs.map λb=>if b.1=k then(b.1,y) else b) (xs.map (putAt k u)):=by
 induction r with
 |nil=>exact .nil
 | @cons p q c d h t f=>
  rw[Nb,Nb];refine .cons ?_ f;obtain⟨h1,h2,g⟩:=h;unfold putAt;by_cases e:p.1=k
  .rw[qa e,qa (h1.symm.trans e)];exact⟨h1,h2,a⟩
  .rw[oa e,oa (λz=>e (h1.trans z))];exact⟨h1,h2,g⟩
theorem KT.put{xs:List (List Key×Addr×Value)}(r:KT H kvs xs)(k:List Key){y:V}{u:Value}(a:H b=ba (.tup (k.map kV)))(c:RelV y u):
  KT H (putK kvs k y) (storedH xs k b u):=by
 have e:(kvs.any λd=>decide (d.1=k))=(Xo xs k).isSome:=by
  rw[cK,(r.val k).Lw,aH]
 unfold putK storedH;rw[e];by_cases q:(Xo xs k).isSome=da
 .rw[qa q,qa q];exact r.pF k c
 .rw[oa q,oa q];exact x_ r ⟨rfl,a,c⟩
theorem KT.keeps{H':Hp}{xs:List (List Key×Addr×Value)}(r:KT H kvs xs)(a:∀b ys,H b=ba (.tup ys)->H' b=ba (.tup ys)):KT H' kvs xs:=
 Paired.wh r λ_ _ z=>{z.1,a _ _ z.2.1,z.2.2}
theorem SM{u:HO}(b:ud P w H h)(e:Rd H a u):Cd P w H h a u:=e.ok b
theorem pw{b:List (Key×V)}(c:ud P w H h)(e:Rd H a (.dK b)):b.length<=sizeLine/\(a==Lh)=ma/\∃vs,KV b vs/\h.DictOf (ah P w) a vs:=
 show Cd P w H h a (.dK b) from SM c e
theorem O4{b:List (Key×V)}(c:ud P w H h)(e:H a=ba (.dK b)):b.length<=sizeLine/\(a==Lh)=ma/\∃vs,KV b vs/\h.DictOf (ah P w) a vs:=pw c (.inl e)
theorem Mv{ks:List Key}(b:ud P w H h)(e:H a=ba (.tup (ks.map kV))):(Jq (ah P w)).is h ks a:=by
 obtain⟨_,its,r,⟨o,h1,h2,n,c⟩,_⟩:=(show Cd P w H h a (.tup (ks.map kV)) from b a _ e);exact{o,its.toArray,n,h1,h2,c,by simpa using kF r}
theorem iv(b:ud P w H h)(e:Rd H a (.dT kvs)):kvs.length<=sizeLine/\(a==Lh)=ma/\
  ∃xs,KT H kvs xs/\h.DictOfH (Jq (ah P w)) a xs:=by
 obtain⟨z,y,xs,r,o,es,ep,h1,h2,c,d,f⟩:=(show Cd P w H h a (.dT kvs) from SM b e);refine{z,y,xs,r,o,es,ep,h1,h2,c,d,λx g=>?_,f};have i:∀{l:List (List Key×V)}{m:List (List Key×Addr×Value)},KT H l m->∀x∈m,(Jq (ah P w)).is h x.1 x.2.1:=by
  intro l m q
  induction q with
  |nil=>intro x g;exact nomatch g
  | @cons p q j k n t s=>
   intro x g;rcases jc.mp g with e|g
   .subst e;exact Mv b (by rw[<-n.1];exact n.2.1)
   .exact s x g
 exact i r x g
theorem A6(b:ud P w H h)(e:H a=ba (.dT kvs)):kvs.length<=sizeLine/\(a==Lh)=ma/\
  ∃xs,KT H kvs xs/\h.DictOfH (Jq (ah P w)) a xs:=iv b (.inl e)
def yg(H:Hp)(a:Addr)(y:V)(r:Option V):Prop:=
 (∃kvs k,Rd H a (.dK kvs)/\y=kV k/\r=jf kvs k)\/∃kvs k b,Rd H a (.dT kvs)/\y= .ref b/\H b=ba (.tup (k.map kV))/\r=jf kvs k
def ej(H:Hp)(a:Addr)(y v:V)(H':Hp):Prop:=
 (∃kvs k,H a=ba (.dK kvs)/\y=kV k/\kvs.length< sizeLine/\H'=upd H a (.dK (putK kvs k v)))\/
 ∃kvs k b,H a=ba (.dT kvs)/\y= .ref b/\H b=ba (.tup (k.map kV))/\kvs.length< sizeLine/\H'=upd H a (.dT (putK kvs k v))
theorem yg.kk{b:List (Key×V)}{k:Key}(e:H a=ba (.dK b)):yg H a (kV k) (jf b k):= .inl {b,k,.inl e,rfl,rfl}
theorem yg.tt{k:List Key}(e:H a=ba (.dT kvs))(c:H b=ba (.tup (k.map kV))):yg H a (.ref b) (jf kvs k):= .inr {kvs,k,b,.inl e,rfl,c,rfl}
theorem ej.kk{b:List (Key×V)}{k:Key}{v:V}(e:H a=ba (.dK b))(c:b.length< sizeLine):ej H a (kV k) v (upd H a (.dK (putK b k v))):= .inl ⟨b,k,e,rfl,c,rfl⟩
theorem ej.tt{k:List Key}{v:V}(e:H a=ba (.dT kvs))(c:H b=ba (.tup (k.map kV)))(d:kvs.length< sizeLine):
  ej H a (.ref b) v (upd H a (.dT (putK kvs k v))):= .inr ⟨kvs,k,b,e,rfl,c,d,rfl⟩
section
variable{y v:V}{u r:Value}{o:Option V}
theorem Inv.GP(I:Inv X pins σ H s):Lh< s.heap.objs.size:=by
 have h:qf< s.heap.objs.size:=(I.mod.glob.keeps I.bk).lt;exact Nat.lt_trans (by decide) h
theorem sZ(c:A.units+1< Wc)(I:Inv X pins σ H s)(g:yg H a y (ba v))(d:RelV y u)(h:∀f s',Inv X pins σ H s'->RelV v f->Q f s'):
  ra (Ea X.prog X.w) A (Cn (.ref a) u) Q E s:=by
 rcases g with⟨i,k,e,j,l⟩ |⟨i,k,b,e,j,m,l⟩
 .subst j;obtain⟨z,hd,n,q,r⟩:=pw I.vb e;obtain⟨f,t,w⟩:=Dh.some_of (v:=v) (o:=lu n k) (by rw[l];exact q.val k);exact wpAny_getItem_of (Xv d) r.mapOf t (h f _ (I.tok _) w)
 .subst j;cases(show u=Bb b from d);obtain⟨z,hd,xs,q,r⟩:=iv I.vb e;obtain⟨f,t,w⟩:=Dh.some_of (v:=v) (o:=(Xo xs k).map (·.2)) (by rw[l];exact q.val k);obtain⟨p,x,B⟩:=Ie.mp t;refine wpAny_getItem_heap (bH c) (Mv I.vb m) r x ?_;rw[B];exact h f _ (I.tok _) w
theorem L0(c:A.units+1< Wc)(I:Inv X pins σ H s)(g:yg H a y o)(d:RelV y u)(h:∀s',Inv X pins σ H s'->Q (.bool o.isSome) s'):
  ra (Ea X.prog X.w) A (ee .In u (.ref a)) Q E s:=by
 rcases g with⟨f,k,e,i,l⟩ |⟨f,k,b,e,i,j,l⟩
 .subst i;obtain⟨z,hd,m,n,p⟩:=pw I.vb e;refine wpAny_in_of (Xv d) hd p.mapOf ?_;rw[<-(n.val k).Lw,<-l];exact h _ (I.tok _)
 .subst i;cases(show u=Bb b from d);obtain⟨z,hd,xs,n,p⟩:=iv I.vb e;refine wpAny_in_heap (bH c) (Mv I.vb j) hd p ?_;have q:=(n.val k).Lw;rw[aH] at q;rw[<-q,<-l];exact h _ (I.tok _)
theorem o5(c:A.units+1< Wc)(I:Inv X pins σ H s)(g:yg H a y o)(d:RelV y u)(h:∀s',Inv X pins σ H s'->Q (.bool (!o.isSome)) s'):
  ra (Ea X.prog X.w) A (ee .NotIn u (.ref a)) Q E s:=by
 rcases g with⟨f,k,e,i,l⟩ |⟨f,k,b,e,i,j,l⟩
 .subst i;obtain⟨z,hd,m,n,p⟩:=pw I.vb e;refine wpAny_notIn_of (Xv d) hd p.mapOf ?_;rw[<-(n.val k).Lw,<-l];exact h _ (I.tok _)
 .subst i;cases(show u=Bb b from d);obtain⟨z,hd,xs,n,p⟩:=iv I.vb e;refine wpAny_notIn_heap (bH c) (Mv I.vb j) hd p ?_;have q:=(n.val k).Lw;rw[aH] at q;rw[<-q,<-l];exact h _ (I.tok _)
theorem nO{h':Heap}{t':Nat}{c:HO}(I:Inv X pins σ H s)(d:dn (H a))(f:Nh a s.heap h')(g:∃q,h'.get? a=ba q)(h:Cd X.prog X.w (upd H a c) h' a c):
  Inv X pins σ (upd H a c) {s with heap:=h',toks:=t'}:=
 I.write (x:=a) (e:=a) d (.inl rfl) (λb q i z=>(f.2 b i).trans z) g h
theorem G7{H':Hp}{h':Heap}{b:List (Key×V)}{vs:List (Key×Value)}(z:b.length<=sizeLine)(hd:(a==Lh)=ma)(c:KV b vs)(dd:h'.DictOf (ah P w) a vs):
  Cd P w H' h' a (.dK b):=⟨z,hd,vs,c,dd⟩
theorem E5{H':Hp}{Q:Unit->ja->Prop}(d:A.units+1< Wc)(I:Inv X pins σ H s)(g:ej H a y v H')(f:RelV y u)(i:RelV v r)(h:∀s',Inv X pins σ H' s'->Q () s'):
  ra (Ea X.prog X.w) A (setItem (.ref a) u r) Q E s:=by
 rcases g with⟨j,k,e,m,l,n⟩ |⟨j,k,b,e,m,o,l,n⟩
 .subst m n;obtain⟨z,hd,p,t,w⟩:=O4 I.vb e;have x:p.length<=sizeLine:=by rw[<-t.length];exact z
  have B:(putK j k v).length<=sizeLine:=by have:=XO j k v;omega
  refine wpAny_setItem_pairs (hsz:=x) (Xv f) w λh' C D=>h _ ?_;have F:∃q,h'.get? a=ba q:=let⟨q,_,_,G,_⟩:=C;⟨q,G⟩
  exact nO I (by rw[e];exact Jx) D F (G7 B hd (t.put k i) C)
 .subst m n;cases(show u=Bb b from f);obtain⟨z,hd,xs,t,w⟩:=A6 I.vb e;have x:xs.length<=sizeLine:=by rw[<-bf t];exact z
  have B:(putK j k v).length<=sizeLine:=by have:=XO j k v;omega
  refine wpAny_setItem_heap (hsz:=x) (bH d) (Mv I.vb o) w λh' C D=>h _ ?_;obtain⟨q,es,ep,G,h2,J,K,_,L⟩:=C;refine nO I (by rw[e];exact Jx) D ⟨q,G⟩ {B,hd,_,(t.put k o i).keeps λc ys M=>?_,q,es,ep,G,h2,J,K,L};rw[Ja (Vb M e (λz=>nomatch z))];exact M
end
def EO(i:ua):Prop:=∀a b,RG i ma a b=xR [a,b] (Cn a b)
theorem V2{a:va}{value b:ua}{pos:La}{T id:String}
  (c:h_ (.type T) "__getitem__"=pd (ba (.builtin id))) (d:EO b)
  (h:ra (Ea prog w) A (Ic value a) (λo e=>ra (Ea prog w) A (Ic b a) (λi f=>f.TypeIs o T/\ra (Ea prog w) A (Cn o i) Q E f) E e) E s):
  ra (Ea prog w) A (Ic (.Subscript value b pos) a) Q E s:=by
 refine uR (jh h (λo e g=>jh g (λi f j=>?_) λ_ _ x=>x) λ_ _ x=>x);obtain⟨k,j⟩:=j;unfold vR;refine wpAny_bind ?_;rw[getitemInPython_of_ne k.not_modules];refine wpAny_bind (MR k c ?_);have l:ra (Ea prog w) A (RG b ma o i) (λr m=>ra (Ea prog w) A (letTemporaryGo value o r>>=λ_=>pd r) Q E m) E f:=by
  rw[d o i];exact wpAny_operating (jh j (λr m n=>wpAny_bind (wpAny_letTemporaryGo (wpAny_pure n))) λ_ _ x=>x)
 first
  |exact wpAny_pure (wpAny_bind l)
  |exact wpAny_bind (wpAny_pure (wpAny_bind l))
  |exact wpAny_bind l
theorem YT{y:V}{o:Option V}(I:Inv X pins σ H s)(g:yg H a y o):s.TypeIs (.ref a) "dict":=by
 rcases g with⟨c,k,e,_,_⟩ |⟨c,k,b,e,_,_,_⟩
 .obtain⟨_,_,d,_,f⟩:=pw I.vb e;exact f.typeIs
 .obtain⟨_,_,xs,_,f⟩:=iv I.vb e;exact f.typeIs
inductive jG(Q:VK)(x:V)(y:V)(H2:Hp):Prop|mk:∀a v,x= .ref a->yg H2 a y (ba v)->Q v H2->jG Q x y H2
def aX(td ty:TE):TE:=λσ H Q=>td σ H λx H1=>ty σ H1 (jG Q x)
inductive jI(Q:VK)(y:V)(x:V)(H2:Hp):Prop|mk:∀a o,x= .ref a->yg H2 a y o->Q (.bl o.isSome) H2->jI Q y x H2
def DV(ty td:TE):TE:=λσ H Q=>ty σ H λy H1=>td σ H1 (jI Q y)
inductive jN(Q:VK)(y:V)(x:V)(H2:Hp):Prop|mk:∀a o,x= .ref a->yg H2 a y o->Q (.bl (!o.isSome)) H2->jN Q y x H2
def TU(ty td:TE):TE:=λσ H Q=>ty σ H λy H1=>td σ H1 (jN Q y)
inductive jP(D:Ends)(σ:St)(v:V)(x:V)(y:V)(H3:Hp):Prop|mk:∀a H4,x= .ref a->ej H3 a y v H4->D.nx σ H4->jP D σ v x y H3
def zL(td ty tv:TE):TS:=λD σ H=>tv σ H λv H1=>td σ H1 λx H2=>ty σ H2 (jP D σ v x)
section
variable{o i value:ua}{pos pos' tpos:La}{td ty tv:TE}
theorem qk(b:X.A.units+1< Wc)(c:PE X o td)(hi:PE X i ty)(d:EO i):PE X (.Subscript o i pos) (aX td ty):=by
 intro e s σ H Q I h;refine V2 PySem.F.slot_dict_getitem.lookup d (Gb (c e s σ H _ I h) λu f ⟨x,H1,I1,rx,q1⟩=>Gb (hi e f σ H1 _ I1 q1) λj k ⟨y,H2,I2,ry,a,v,ex,g,q2⟩=>?_);subst ex;obtain rfl:u=Bb a:=rx;exact{YT I2 g,sZ b I2 g ry λl m n p=>⟨v,H2,n,p,q2⟩}
theorem BP(b:X.A.units+1< Wc)(hi:PE X i ty)(c:PE X o td):PC X .In i o (DV ty td):=by
 intro d s σ H Q I h;refine Gb (hi d s σ H _ I h) λe f ⟨y,H1,I1,ry,q1⟩=>Gb (c d f σ H1 _ I1 q1) λu j ⟨x,H2,I2,rx,a,ov,ex,g,q2⟩=>?_;subst ex;obtain rfl:u=Bb a:=rx;exact L0 b I2 g ry λk l=>{.bl ov.isSome,H2,l,rfl,q2}
theorem Rt(b:X.A.units+1< Wc)(hi:PE X i ty)(c:PE X o td):PC X .NotIn i o (TU ty td):=by
 intro d s σ H Q I h;refine Gb (hi d s σ H _ I h) λe f ⟨y,H1,I1,ry,q1⟩=>Gb (c d f σ H1 _ I1 q1) λu j ⟨x,H2,I2,rx,a,ov,ex,g,q2⟩=>?_;subst ex;obtain rfl:u=Bb a:=rx;exact o5 b I2 g ry λk l=>{.bl (!ov.isSome),H2,l,rfl,q2}
theorem Cr(b:X.A.units+1< Wc)(c:PE X o td)(hi:PE X i ty)(d:PE X value tv)(e:Mq value (ba (.Subscript o i pos')) pos.line X.env=pd ma):
  PS X (.Assign [.Subscript o i pos'] value pos) (zL td ty tv):=by
 intro f s σ H D I h;refine wpAny_Assign_Subscript (Gb (d f s σ H _ I h) λr j ⟨v,H1,I1,rv,q1⟩=>Gb (c f j σ H1 _ I1 q1) λu k ⟨x,H2,I2,rx,q2⟩=>Gb (hi f k σ H2 _ I2 q2) λl m ⟨y,H3,I3,ry,a,H4,ex,g,q3⟩=>?_) e;subst ex;obtain rfl:u=Bb a:=rx;exact E5 b I3 g ry rv λn p=>⟨σ,H4,p,q3⟩
end
theorem Q2(h:Heap)(a:Lh< h.objs.size):Cd P w H (h.push {cls:= .type "dict",data:= .dict #[]}) h.objs.size (.dK []):=
 {Pd _,Bx.mpr (Gc (Kd a)),[],.nil,Heap.DictOf.new h}
theorem XY(h:Heap)(a:Lh< h.objs.size):Cd P w H (h.push {cls:= .type "dict",data:= .dict #[]}) h.objs.size (.dT []):=
 {Pd _,Bx.mpr (Gc (Kd a)),[],.nil,_,#[],0,Uc _ rfl,⟨rfl,rfl,rfl⟩,rfl,rfl,Yq}
def AW:TE:=λ_ H Q=>∀p,H p=ia->Q (.ref p) (upd H p (.dK []))
def X5:TE:=λ_ H Q=>∀p,H p=ia->Q (.ref p) (upd H p (.dT []))
section
variable{pos:La}
theorem CU:PE X (.Dict [] [] pos) AW:=λb s σ H Q I h=>
 y_ {.ref s.heap.objs.size,_,I.laid (a:=s.heap.objs.size) (o:= .dK []) (t':=s.toks) (λ_ _ q=>Qb _ q) (rb _) (Q2 s.heap I.GP),rfl,h _ (I.vb.fresh (rb _))}
theorem cE:PE X (.Dict [] [] pos) X5:=λb s σ H Q I h=>
 y_ {.ref s.heap.objs.size,_,I.laid (a:=s.heap.objs.size) (o:= .dT []) (t':=s.toks) (λ_ _ q=>Qb _ q) (rb _) (XY s.heap I.GP),rfl,h _ (I.vb.fresh (rb _))}
end
section
variable{h':Heap}
theorem Inv.wL{t':Nat}{ch:List Addr}(I:Inv X pins σ H s)(k:∀b o,b∉ch->s.heap.get? b=ba o->h'.get? b=ba o)(hf:∀b∈ch,Dj X pins H b):Inv X pins σ H {s with heap:=h',toks:=t'}:=by
 have a:∀b u,H b=ba u->b∉ch:=λb u e z=>by
  have q:=(hf b z).1;rw[q] at e;cases e
 refine I.step (g':=s.gens) (d':=s.drawn) (ch:=ch) (λb d=>{(hf b d).2.2.2.1,(hf b d).2.1,(hf b d).2.2.2.2.1,(hf b d).2.2.2.2.2}) (λb o _ _ f e _=>k b o f e) (λb o _ _ f e _=>{o.slots,k b o f e})
  (λ_ _ _ _ n=>n) (λb o f e=>{o,k b o f e}) (λ_ _ e=>e) (λ_ _ _ e=>e) (λb g e=>{#[],by rw[e];simp}) (λm h=>?_) (λb u e=>?_) I.bare
 .obtain⟨o,es,ep,i,r⟩:=h;exact{o,es,ep,k _ o (λz=>(hf _ z).2.1 rfl) i,r}
 .refine(I.vb b u e).Sk (λc v f q=>k c v ?_ q) (λ_ q=>q) λ_ _ q=>q;rcases f with z|z
  .rw[z];exact a b u e
  .exact a c _ z
theorem Inv.RE{t':Nat}{ch:List Addr}{T:Addr}{a:HO}(I:Inv X pins σ H s)(k:∀b o,b∉ch->s.heap.get? b=ba o->h'.get? b=ba o)(hf:∀b∈ch,Dj X pins H b)(d:s.heap.objs.size<=T)
  (f:Cd X.prog X.w (upd H T a) h' T a):Inv X pins σ (upd H T a) {s with heap:=h',toks:=t'}:=by
 have g:H T=ia:=I.vb.fresh d;have h:∀b u,H b=ba u->b∉ch:=λb u e z=>by
  have q:=(hf b z).1;rw[q] at e;cases e
 refine I.step (g':=s.gens) (d':=s.drawn) (ch:=ch) (λb i=>{(hf b i).2.2.2.1,(hf b i).2.1,(hf b i).2.2.2.2.1,(hf b i).2.2.2.2.2}) (λb o _ _ j e _=>k b o j e) (λb o _ _ j e _=>{o.slots,k b o j e})
  (λb o _ e n=>?_) (λb o j e=>{o,k b o j e}) (λb xs e=>?_) (λb o u e=>?_) (λb l e=>{#[],?_}) (λm p=>?_) (λb u e=>?_) I.bare
 .rw[Ja (Kd (kg (cc e) d))];exact n
 .rw[Ja (de e g)];exact e
 .rw[Ja (de e g)];exact e
 .rw[Ja (de e g),e];simp
 .obtain⟨o,es,ep,t,r⟩:=p;exact{o,es,ep,k _ o (λz=>(hf _ z).2.1 rfl) t,r}
 .by_cases i:b=T
  .subst i;rw[wa] at e;cases e;exact f
  .rw[Ja i] at e;refine(I.vb b u e).Sk (λc v j q=>k c v ?_ q) (λc q=>by rw[Ja (de q g)];exact q) λc xs q=>by rw[Ja (de q g)];exact q
   rcases j with z|z
   .rw[z];exact h b u e
   .exact h c _ z
theorem Inv.lock{u:HO}(I:Inv X pins σ H s)(h:H d=ba u)(a:dn (ba u)):∃od,Inv X pins σ (upd H d (.qc od u)) s:=by
 have x:=I.vb d u h;have ex:∃od,s.heap.get? d=ba od:=by
  cases u with
  |lst xs=>obtain⟨_,_,_,_,e⟩:=x;exact{_,e}
  |dK c=>obtain⟨_,_,_,_,o,_,_,e,_⟩:=x;exact⟨o,e⟩
  |dT c=>obtain⟨_,_,_,_,o,_,_,e,_⟩:=x;exact⟨o,e⟩
  |set S n=>obtain⟨o,_,_,_,e,_⟩:=x;exact⟨o,e⟩
  |ins C dx fs=>obtain⟨_,_,_,e,_⟩:=x;exact{_,e}
  |ext φ=>obtain⟨_,⟨_,e⟩,_⟩:=x;exact{_,e}
  |_=>exact Og a
 obtain⟨od,e⟩:=ex;have f:Cd X.prog X.w (upd H d (.qc od u)) s.heap d (.qc od u):=by
  refine{e,x.Sk (λb v _ q=>q) (λb q=>?_) λb xs q=>?_}
  .rw[Ja (λz=>by rw[z,h] at q;cases q;exact a)];exact q
  .rw[Ja (λz=>by rw[z,h] at q;cases q;exact a)];exact q
 exact{od,I.write (x:=d) (e:=d) (t':=s.toks) (h':=s.heap) (by rw[h];exact a) (.inl rfl) (λb v _ q=>q) ⟨od,e⟩ f}
theorem Inv.Cv{u:HO}(I:Inv X pins σ H s)(h:H d=ba u)(a:dn (ba u)):∀o' b,X.iq d≠ba (.qc o' b):=λo' b e=>by
 have q:=I.base.Gk d o' b e;rw[h] at q;cases q;exact a
theorem Inv.unlock{a:Obj}{u:HO}(I:Inv X pins σ H s)(h:H d=ba (.qc a u))(f:∀o' g,X.iq d≠ba (.qc o' g)):Inv X pins σ (upd H d u) s:=by
 have i:∀b o,H b=ba o->(∀o' g,o≠ .qc o' g)->b≠d:=λb o e j z=>by
  rw[z,h] at e;cases e;exact j _ _ rfl
 have k:∀b,H b=ia->b≠d:=λb e z=>by rw[z,h] at e;cases e
 refine{I.ok,I.os,I.bare,{I.base.keep,I.base.slot,λb o e n l=>?_,I.base.there,λb xs e=>?_,λb o x e=>?_,λb t e=>?_},I.loc,I.cell,?_,λx c e=>?_,λp w=>?_,λb o e=>?_,I.len}
 .rw[Ja (k b (I.base.free b o e n l))];exact I.base.free b o e n l
 .have q:=I.base.Xa b xs e;rw[Ja (i b _ q (λ_ _ z=>nomatch z))];exact q
 .have q:=I.base.Gk b o x e;rw[Ja (λz=>by rw[z] at e;exact f _ _ e)];exact q
 .obtain⟨m,q⟩:=I.base.Nm b t e;exact{m,by rw[Ja (i b _ q (λ_ _ z=>nomatch z))];exact q}
 .rw[Ja (k _ I.free)];exact I.free
 .rw[Ja (k c (I.eh x c e))];exact I.eh x c e
 .obtain⟨e,n,r⟩:=I.pin p w;exact{e,by rw[Ja (k _ n)];exact n,r}
 .by_cases y:b=d
  .rw[y,wa] at e;cases e;rw[y];obtain⟨_,x⟩:=I.vb d _ h;exact x.Sk (λc v _ q=>q) (λc q=>by rw[Ja (i c _ q (λ_ _ z=>nomatch z))];exact q) λc xs q=>by rw[Ja (i c _ q (λ_ _ z=>nomatch z))];exact q
  .rw[Ja y] at e;exact(I.vb b o e).Sk (λc v _ q=>q) (λc q=>by rw[Ja (i c _ q (λ_ _ z=>nomatch z))];exact q) λc xs q=>by rw[Ja (i c _ q (λ_ _ z=>nomatch z))];exact q
end
def fL(t:TS):TS:=λD σ H=>∃d u,H d=ba u/\dn (ba u)/\∀od,t ⟨λa H'=>H' d=ba (.qc od u)/\D.nx a (upd H' d u),λv H'=>H' d=ba (.qc od u)/\D.rt v (upd H' d u),λa H'=>H' d=ba (.qc od u)/\D.bk a (upd H' d u),λa H'=>H' d=ba (.qc od u)/\D.ct a (upd H' d u)⟩ σ (upd H d (.qc od u))
inductive Ss(t:TE)(σ:L2.St)(H:Hp)(Q:VK):Prop|mk:∀d u,H d=ba u->dn (ba u)->(∀od,t σ (upd H d (.qc od u)) λv H'=>H' d=ba (.qc od u)/\Q v (upd H' d u))->Ss t σ H Q
theorem mw{st:za}{t:TS}(h:PS X st t):PS X st (fL t):=by
 intro a s σ H D I b;obtain⟨d,u,hd,c,b⟩:=b;obtain⟨g,i⟩:=I.lock hd c;refine Gb (h a s σ _ _ i (b g)) λf j q=>?_;cases f with
 |next=>obtain⟨k,H',l,e,q⟩:=q;exact{k,_,l.unlock e (I.Cv hd c),q}
 |brk=>obtain⟨k,H',l,e,q⟩:=q;exact{k,_,l.unlock e (I.Cv hd c),q}
 |cont=>obtain⟨k,H',l,e,q⟩:=q;exact{k,_,l.unlock e (I.Cv hd c),q}
 |ret v=>obtain⟨x,k,H',l,r,e,q⟩:=q;exact{x,k,_,l.unlock e (I.Cv hd c),r,q}
theorem Xw{t:TE}(h:PE X e t):PE X e (Ss t):=by
 intro a s σ H Q I b;obtain⟨d,u,hd,c,b⟩:=b;obtain⟨f,g⟩:=I.lock hd c;refine Gb (h a s σ _ _ g (b f)) λv i ⟨x,H1,I2,r,e2,q⟩=>?_;exact{x,_,I2.unlock e2 (I.Cv hd c),r,q}
theorem NA{tg:ua}{R:It->Hp->Prop}{J:It}{a:Nat->Heap->Prop}{tk:Nat}(I:Inv X pins σ H s)(o:Obj)
  (T:Turn X.prog X.w X.K tg J [s.heap.objs.size] s.heap.objs.size a) (st:a 0 (s.heap.push o)) (q:R J H):gE X pins σ tg R (.ref s.heap.objs.size) {s with heap:=s.heap.push o,toks:=tk}:=by
 refine{s.heap.objs.size,[s.heap.objs.size],a,J,H,rfl,I.kept λb c e=>Qb _ e,T,st,λb d=>?_,q};have e:b=s.heap.objs.size:=by simpa using d
 subst e;exact I.Xp (rb _) (I.vb.fresh (rb _))
def WD(x:Str):It:=⟨λi _=>i< x.cps.size,λi H v H'=>H'=H/\∃c,x.cps[i]?=ba c/\v= .str ⟨#[c]⟩,λi _=>x.cps.size<=i⟩
theorem SJ{tg:ua}(a:Addr)(x:Str)(t:pj)(ty:String)(f:ty="str_ascii_iterator"\/ty="str_iterator"):
  Turn P w K tg (WD x) [a] a (λi h=>h.IsStrIter a ty x t i) where
 mem:=by simp
 obj:=λi h st b g=>by
  have e:b=a:=by simpa using g
  subst e;obtain⟨o,e,c,d⟩:=st;exact{o,e,λv z=>by rw[d] at z;cases z}
 keep:=λi h h' st k=>let⟨o,ho,r⟩:=st;{o,k a (by simp) o ho,r}
 item:=by
  intro X j l m n i p s σ H E I hf st q;subst j l m;obtain⟨y,B,C,D,F,G⟩:=hf a (by simp);have W:NB X.prog X.w X.A a [a] [a] x.cps.size (SignAt x) (λi h=>h.IsStrIter a ty x t i):=by
   rcases f with e|e
   .rw[e];exact NB.strAscii (I.ok.hd n) a x t
   .rw[e];exact NB.strWide (I.ok.hd n) a x t
  have J:["enumerate","zip","dict_itemiterator","dict_reverseitemiterator","odict_iterator","itertools.zip_longest","itertools.pairwise"].contains ty=ma:=by
   rcases f with e|e
   .rw[e];decide
   .rw[e];decide
  refine W.item i s _ _ q st λv h' tk L M N=>?_;obtain⟨c,u,O,rfl⟩:=L;have R:Inv X p σ H {s with heap:=h',toks:=tk}:=I.turned (λb o g e=>N b o (by simpa using g) e) y B D F G;obtain⟨S,e,T,U⟩:=id M;exact{_,rfl,Vv (s:={s with heap:=h',toks:=tk}) e T U J {.str {#[c]},H,R,⟨u,rfl⟩,⟨rfl,c,O,rfl⟩,M,λb g=>(hf b g).1}}
 done:=by
  intro X j l m n i p s σ H E I hf st q;subst j l m;obtain⟨y,B,C,D,F,G⟩:=hf a (by simp);have V:x.cps[i]?=ia:=Yo q;rcases f with e|e
  .rw[e] at st;exact wpAny_pyNext_ascii_end (I.ok.hd n) st V λh' Y=>{rfl,I.turned (t':=s.toks) (λb o g e=>Y b o g e) y B D F G}
  .rw[e] at st;exact wpAny_pyNext_wide_end (I.ok.hd n) st V λh' Y=>{rfl,I.turned (t':=s.toks) (λb o g e=>Y b o g e) y B D F G}
 self:=λA i s Q E st h=>by
  rcases f with e|e
  .rw[e] at st;exact wpAny_pyIter_striter_ascii st h
  .rw[e] at st;exact wpAny_pyIter_striter_wide st h
def CY(te:TE):TI:=λσ H R=>te σ H λv H1=>∃x,v= .str x/\R (WD x) H1
theorem V4{tg:ua}{te:TE}(a:PE X e te):PI X tg e (CY te):=by
 intro b s σ H R I h;refine Gb (a b s σ H _ I h) λv c ⟨y,H1,I1,r1,x,ex,q⟩=>?_;subst ex;obtain⟨t,rfl⟩:=r1;cases d:x.cps.all (· < 128)
 .exact wpAny_pyIter_wide d (NA (tk:=c.toks) I1 _ (SJ _ x t "str_iterator" (.inr rfl)) {_,Uc _ rfl,rfl,rfl} q)
 .exact wpAny_pyIter_ascii d (NA (tk:=c.toks) I1 _ (SJ _ x t "str_ascii_iterator" (.inl rfl)) {_,Uc _ rfl,rfl,rfl} q)
theorem jE{o:Obj}{es:Array fb}{ep:Nat}(hd:(d==Lh)=ma)(a:s.heap.get? d=ba o)(b:o.ExactDict)(c:o.data= .dict es ep)
  (e:Q (.ref s.heap.objs.size) {s with heap:=s.heap.push {cls:= .type "dict_keyiterator",data:= .fields #[.ref d,.int 0 0,.int es.size 0,.int ep 0]}}):
  ra (Ea prog w) A (Gx (.ref d)) Q E s:=by
 have f:s.TypeIs (.ref d) "dict":=⟨o,a,b.1⟩;refine OB f z_ (Rg z_ f F.entry_dict_iter ?_ (F.args_dict_iter_1 _));unfold Builtin.«dict.__iter__»;refine wpAny_bind ?_;unfold vj.Dict.dictSlotNone;refine wpAny_bind (wpAny_notOrdered_dict f ?_);show ra _ _ (pd (Bb d)) _ _ s;refine wpAny_pure ?_;show ra _ _ (Builtin.Dict.showsAll d>>=_) _ _ s;unfold Builtin.Dict.showsAll;rw[oa (by rw[hd];exact se)];refine wpAny_bind (wpAny_pure ?_);refine wpAny_bind (mu a c ?_);refine wpAny_bind (Wx a c ?_);refine wpAny_bind (wpAny_newObj_type (wpAny_pure {_,rfl,"dict_keyiterator",_,{_,Uc _ rfl,rfl},Xx.lookup,?_}));simpa[Qg] using e
theorem yJ{a:Addr}{n ep:Nat}{b:Obj}{es:Array fb}{c:fb}{Q:Option Value->ja->Prop}(e:s.heap.IsKeyIter a d i n ep)(f:s.heap.get? d=ba b)(g:b.data= .dict es ep)
  (hsz:es.size=n) (h:es[i]?=ba c) (j:∀h',h'.IsKeyIter a d (i+1) n ep->Nh a s.heap h'->Q (ba c.key) {s with heap:=h'}):ra (Ea prog w) A (Pg (.ref a)) Q E s:=by
 obtain⟨o,k,l,hd⟩:=id e;unfold Pg;refine wpAny_bind (Yx (qm (name:=uf "__next__") e.typeIs Xx
  (Rg Xx e.typeIs B_ ?_ (C_ _))))
 refine wpAny_bind (wpAny_pure ?_);refine wpAny_bind ?_;refine wpAny_bind ?_
 first|refine wpAny_bind (wpAny_typeNameOfWhole_keyiter e.typeIs (wpAny_pure ?_)) |refine wpAny_bind (wpAny_typeNameOf_keyiter e.typeIs (wpAny_pure ?_))
 refine wpAny_bind (cH k hd ?_);have m:Builtin.Dict_items.ownsTuple "dict_keyiterator"=ma:=by decide
 simp only[m,yc,Ub];show ra _ _ (if(Bb d==Kh)=da then _ else _) _ _ s;rw[oa (show¬((Bb d==Kh)=da) from se)];refine wpAny_bind (wpAny_pure ?_);refine wpAny_bind (mu f g ?_);rw[oa (by rw[hsz];simp)];refine wpAny_bind (wpAny_pure ?_);refine wpAny_bind (Wx f g ?_);rw[oa (by simp)];refine wpAny_pure ?_;obtain⟨p,q⟩:=dH.mp h;simp only[show¬((i:Int)< 0) from by omega,Ub,bu,OR p];refine wpAny_bind ?_
 first|refine wpAny_bind (wpAny_typeNameOfWhole_keyiter e.typeIs (wpAny_pure ?_)) |refine wpAny_bind (wpAny_typeNameOf_keyiter e.typeIs (wpAny_pure ?_))
 refine wpAny_bind (E_ e.typeIs ?_);show ra _ _ (PR (.ref a) 1 (Qg ((i:Int)+1))>>=_) _ _ s;refine wpAny_bind (nu k hd (by simp) ?_);have r:(s.heap.update a (Zq (·.setIfInBounds 1 (Qg ((i:Int)+1))))).IsKeyIter a d (i+1) n ep:=
  {_,ou _ k (eH (Zx hd _)),(F_ ..).trans l,by rw[Zx hd];simp[Qg]}
 refine wpAny_bind (ng ?_);refine wpAny_bind (E_ (s:={s with heap:=s.heap.update a (Zq (·.setIfInBounds 1 (Qg ((i:Int)+1))))}) r.typeIs ?_);show ra _ _ (pd es[i].key) _ _ _;rw[q];exact wpAny_pure (wpAny_pure {_,rfl,wpAny_pure (j _ r (br ..))})
theorem CD{c:Addr}{n ep:Nat}{e:Obj}{es:Array fb}{Q:Option Value->ja->Prop}(f:A.handled=ia)(g:s.heap.IsKeyIter c d i n ep)(h:s.heap.get? d=ba e)(j:e.data= .dict es ep)
  (hsz:es.size=n) (k:n<=i) (l:∀h',QR c s.heap h'->Q ia {s with heap:=h'}):ra (Ea prog w) A (Pg (.ref c)) Q E s:=by
 obtain⟨o,p,q,hd⟩:=id g;unfold Pg;refine wpAny_bind (Yx (qm (name:=uf "__next__") g.typeIs Xx
  (Rg Xx g.typeIs B_ ?_ (C_ _))))
 refine wpAny_bind (wpAny_pure ?_);refine wpAny_bind ?_;refine wpAny_bind ?_
 first|refine wpAny_bind (wpAny_typeNameOfWhole_keyiter g.typeIs (wpAny_pure ?_)) |refine wpAny_bind (wpAny_typeNameOf_keyiter g.typeIs (wpAny_pure ?_))
 refine wpAny_bind (cH p hd ?_);have r:Builtin.Dict_items.ownsTuple "dict_keyiterator"=ma:=by decide
 simp only[r,yc,Ub];show ra _ _ (if(Bb d==Kh)=da then _ else _) _ _ s;rw[oa (show¬((Bb d==Kh)=da) from se)];refine wpAny_bind (wpAny_pure ?_);refine wpAny_bind (mu h j ?_);rw[oa (by rw[hsz];simp)];refine wpAny_bind (wpAny_pure ?_);refine wpAny_bind (Wx h j ?_);rw[oa (by simp)];refine wpAny_pure ?_;have t:es.size<=i:=by rw[hsz];exact k
 simp only[show¬((i:Int)< 0) from by omega,Ub,bu,Yo t];refine wpAny_bind ?_
 first|refine wpAny_bind (wpAny_typeNameOfWhole_keyiter g.typeIs (wpAny_pure ?_)) |refine wpAny_bind (wpAny_typeNameOf_keyiter g.typeIs (wpAny_pure ?_))
 show ra _ _ (PR (.ref c) 0 .none>>=_) _ _ s;refine wpAny_bind (nu p hd (by simp) ?_);show ra _ _ (ay (.type "StopIteration") []>>=_) _ _ _;refine wpAny_bind ?_;simp only[ay,RR];refine wpAny_bind (wpAny_newObj_type ?_ (by size_fits));refine wpAny_bind (m:=cy _ _) (PB (a:=Kh) (by first|rfl|(simp only[cy];rfl)) ?_);refine wpAny_newObj_type ?_ (by size_fits);simp only[raiseNew];refine wpAny_bind (wpAny_handled ?_);rw[show A.in1.handled=ia from f];refine wpAny_bind (wpAny_pure (wpAny_throw ?_));refine wpAny_bind (wpAny_isInstance (T:="StopIteration") (b:=da) {_,Uc _ rfl,rfl} isSubtype_stop ?_);exact wpAny_pure (l _ (((br ..).extBut.push _).push _))
theorem u4{κ:Type}{c:List (κ×V)}{vs:List (κ×Value)}(h:KV c vs):∀{i:Nat}{k:κ}{v:V},c[i]?=ba (k,v)->∃u,vs[i]?=ba (k,u)/\RelV v u:=by
 unfold KV at h
 induction h with
 |nil=>intro i k v e;simp at e
 | @cons a b d f r t g=>
  intro i k v e;cases i with
  |zero=>
   simp only[SR,QB] at e;subst e;refine{b.2,?_,r.2};simp only[SR];exact wc ba (Prod.ext r.1.symm rfl)
  |succ j=>
   simp only[G_] at e⊢;exact g e
theorem xO{c:Type}{G:α->c->Prop}{d:List α}{l₂:List c}(h:Paired G d l₂):∀{i:Nat}{a:α},d[i]?=ba a->∃b,l₂[i]?=ba b/\G a b:=by
 induction h with
 |nil=>intro i a e;simp at e
 | @cons a b d l₂ r t f=>
  intro i g e;cases i with
  |zero=>
   simp only[SR,QB] at e;subst e;exact⟨b,rfl,r⟩
  |succ j=>
   simp only[G_] at e⊢;exact f e
theorem M7{k:Key}{u:Value}(h:Ao k u=da):RelV (kV k) u:=by
 rcases Pl h with⟨i,t,rfl,rfl⟩ |⟨x,t,rfl,rfl⟩
 .exact⟨t,rfl⟩
 .exact⟨t,rfl⟩
section
variable{o:Obj}
theorem Inv.dE{a:List (Key×V)}(I:Inv X pins σ H s)(h:H d=ba (.qc o (.dK a))):
  (d==Lh)=ma/\s.heap.get? d=ba o/\o.ExactDict/\∃(es:Array fb)(ep:Nat)(vs:List (Key×Value)),o.data= .dict es ep/\es.size=a.length/\KV a vs/\s.heap.DictAt (ah X.prog X.w) d vs ep:=by
 obtain⟨hd,z,b,vs,c,o',es,ep,e,f,g,r⟩:=I.vb d _ h;rw[hd] at e;cases e;refine{b,hd,f,es,ep,vs,g,?_,c,o,es,hd,f,g,r};have i:=r.2.1.length;have j:a.length=vs.length:=bf c;rw[Ng] at i;omega
theorem Inv.fE(I:Inv X pins σ H s)(h:H d=ba (.qc o (.dT kvs))):
  (d==Lh)=ma/\s.heap.get? d=ba o/\o.ExactDict/\∃(es:Array fb)(ep:Nat),o.data= .dict es ep/\es.size=kvs.length/\
   ∀(i:Nat)(k:List Key)(v:V),kvs[i]?=ba (k,v)->∃(a:fb)(q:Addr),es[i]?=ba a/\a.key= .ref q/\H q=ba (.tup (k.map kV)):=by
 obtain⟨hd,z,c,xs,f,o',es,ep,g,j,l,m,_⟩:=I.vb d _ h;rw[hd] at g;cases g;refine{c,hd,j,es,ep,l,?_,λi k v e=>?_}
 .have n:es.size=xs.length:=size_of_entries m;have p:kvs.length=xs.length:=bf f;omega
 .obtain⟨b,r,t,u,_⟩:=xO f e;have q:=entry_at m i;rw[r] at q;exact{_,b.2.1,q,rfl,u}
end
def AK(d:Addr)(o:Obj)(kvs:List (Key×V)):It:=
 ⟨λi H=>H d=ba (.qc o (.dK kvs))/\i< kvs.length,λi H x H'=>H'=H/\∃k v,kvs[i]?=ba (k,v)/\x=kV k,λi H=>H d=ba (.qc o (.dK kvs))/\kvs.length<=i⟩
def hE(d:Addr)(o:Obj)(kvs:List (List Key×V)):It:=
 ⟨λi H=>H d=ba (.qc o (.dT kvs))/\i< kvs.length,λi H x H'=>H'=H/\∃(k:List Key)(v:V)(q:Addr),kvs[i]?=ba (k,v)/\x= .ref q/\H q=ba (.tup (k.map kV)),λi H=>H d=ba (.qc o (.dT kvs))/\kvs.length<=i⟩
theorem Uy{o:Obj}{es es':Array fb}{ep a:Nat}(h:o.data= .dict es ep)(h':o.data= .dict es' a):es'=es/\a=ep:=by
 rw[h] at h';cases h';exact⟨rfl,rfl⟩
section
variable{tg:ua}{o:Obj}{es:Array fb}{ep:Nat}
theorem FY{a:List (Key×V)}(f:Addr)(g:o.data= .dict es ep):Turn P w K tg (AK d o a) [f] f (λi h=>h.IsKeyIter f d i a.length ep) where
 mem:=by simp
 obj:=λi h st b j=>by
  have e:b=f:=by simpa using j
  subst e;obtain⟨l,e,c,m⟩:=st;exact{l,e,λv z=>by rw[m] at z;cases z}
 keep:=λi h h' st k=>st.at λl e=>k f (by simp) l e
 item:=by
  intro X n q r t i x s σ H E I hf st y;subst n q r;obtain⟨hd,hi⟩:=y;obtain⟨B,C,f2,D,F,G⟩:=hf f (by simp);obtain⟨hs,J,hx,L,M,N,O,R,S,T⟩:=I.dE hd;obtain⟨rfl,rfl⟩:=Uy g O;obtain⟨⟨k,v⟩,U⟩:∃p,a[i]?=ba p:={a[i],Wd hi};obtain⟨u,hu,ru⟩:=u4 S U;have W:a.length=N.length:=bf S;rw[W] at st;refine wpAny_pyNext_dict_item st T hu λkey h' Y Z sb=>?_;have I1:Inv X x σ H {s with heap:=h'}:=I.turned (t':=s.toks) (λb ob j e=>(sb.2 b j).trans e) B C D F G;obtain⟨l,e,c,m⟩:=id Z;refine{key,rfl,Vv (s:={s with heap:=h'}) e c m (by decide) {kV k,H,I1,M7 (show Ao k key=da from Y),⟨rfl,k,v,U,rfl⟩,?_,λb j=>(hf b j).1}};show h'.IsKeyIter f d (i+1) a.length _;rw[W];exact Z
 done:=by
  intro X n q r t i x s σ H E I hf st y;subst n q r;obtain⟨hd,hi⟩:=y;obtain⟨B,C,f2,D,F,G⟩:=hf f (by simp);obtain⟨hs,J,hx,L,M,N,O,R,S,T⟩:=I.dE hd;obtain⟨rfl,rfl⟩:=Uy g O;exact CD (I.ok.hd t) st J O R hi λh' eb=>{rfl,I.turned (t':=s.toks) (λb ob j e=>eb b ob j e) B C D F G}
 self:=λA i s Q E st h=>H_ st h
theorem mY(a:Addr)(f:o.data= .dict es ep):Turn P w K tg (hE d o kvs) [a] a (λi h=>h.IsKeyIter a d i kvs.length ep) where
 mem:=by simp
 obj:=λi h st b g=>by
  have e:b=a:=by simpa using g
  subst e;obtain⟨j,e,c,l⟩:=st;exact{j,e,λv z=>by rw[l] at z;cases z}
 keep:=λi h h' st k=>st.at λj e=>k a (by simp) j e
 item:=by
  intro X m n r t i u s σ H E I hf st x;subst m n r;obtain⟨hd,hi⟩:=x;obtain⟨y,B,C,D,G,J⟩:=hf a (by simp);obtain⟨L,M,N,O,R,S,T,ent⟩:=I.fE hd;obtain⟨rfl,rfl⟩:=Uy f S;obtain⟨⟨k,v⟩,U⟩:∃p,kvs[i]?=ba p:={kvs[i],Wd hi};obtain⟨en,q,V,W,hq⟩:=ent i k v U;refine yJ st M S T V λh' Y sb=>?_;have I1:Inv X u σ H {s with heap:=h'}:=I.turned (t':=s.toks) (λb Z g e=>(sb.2 b g).trans e) y B D G J;obtain⟨j,e,c,l⟩:=id Y;exact{en.key,rfl,Vv (s:={s with heap:=h'}) e c l (by decide) {.ref q,H,I1,W,⟨rfl,k,v,q,U,rfl,hq⟩,Y,λb g=>(hf b g).1}}
 done:=by
  intro X m n r t i u s σ H E I hf st x;subst m n r;obtain⟨hd,hi⟩:=x;obtain⟨y,B,C,D,G,J⟩:=hf a (by simp);obtain⟨L,M,N,O,R,S,T,ent⟩:=I.fE hd;obtain⟨rfl,rfl⟩:=Uy f S;exact CD (I.ok.hd t) st M S T hi λh' eb=>{rfl,I.turned (t':=s.toks) (λb Z g e=>eb b Z g e) y B D G J}
 self:=λA i s Q E st h=>by
  refine OB st.typeIs I_ (Rg I_ st.typeIs F.entry_dict_keyiterator_iter ?_ (F.args_dict_keyiterator_iter_1 _));show ra _ _ (ret (.ref a)) _ _ s;exact wpAny_pure {_,rfl,"dict_keyiterator",_,st.typeIs,Xx.lookup,h}
end
def Qz(td:TE):TI:=λσ H R=>td σ H λx H1=>∃d o,x= .ref d/\((∃kvs,H1 d=ba (.qc o (.dK kvs))/\R (AK d o kvs) H1)\/∃kvs,H1 d=ba (.qc o (.dT kvs))/\R (hE d o kvs) H1)
section
variable{tg:ua}{td:TE}{apos cpos:La}
theorem Um(a:PE X e td):PI X tg e (Qz td):=by
 intro b s σ H R I h;refine Gb (a b s σ H _ I h) λu c ⟨x,H1,I1,rx,d,o,ex,q⟩=>?_;subst ex;obtain rfl:u=Bb d:=rx;rcases q with⟨f,hd,q⟩ |⟨f,hd,q⟩
 .obtain⟨g,i,j,es,ep,k,l,m,n,p⟩:=I1.dE hd;refine jE g i j l (NA (tk:=c.toks) I1 _ (FY _ l) {_,Uc _ rfl,rfl,?_} q);rw[m]<;>rfl
 .obtain⟨g,i,j,es,ep,l,m,ent⟩:=I1.fE hd;refine jE g i j l (NA (tk:=c.toks) I1 _ (mY _ l) {_,Uc _ rfl,rfl,?_} q);rw[m]<;>rfl
end
theorem jL:Ex "zip"=ba (.type "zip"):=by decide+kernel
def Sw(K:xa)(a b:Addr):It:=
 ⟨λi H=>∃(xs ys:List V)(x y:V),Ia K H a xs/\Ia K H b ys/\xs[i]?=ba x/\ys[i]?=ba y,
  λi H v H'=>∃T x y,v= .ref T/\H T=ia/\H'=upd H T (.tup [x,y])/\(∀xs,Ia K H a xs->xs[i]?=ba x)/\∀ys,Ia K H b ys->ys[i]?=ba y,
  λi H=>∃xs ys:List V,Ia K H a xs/\Ia K H b ys/\(xs.length<=i\/ys.length<=i)⟩
theorem j2{d:List ua}{kk:Nat}{tpos:La}{z TI TO e f:Addr}(D:ZipApart z TI TO e f a b):
  Turn P w K (.Tuple d kk tpos) (Sw K a b) [z,TI,TO,e,f] z (λi h=>IsZip h z TI TO .none/\Ef h TI (.ref e) (.ref f)/\(∃x y,Ef h TO x y)/\h.IsListIter e a i/\h.IsListIter f b i) where
 mem:=by simp
 obj:=λi h st c g=>by
  obtain⟨j,m,⟨x,y,n⟩,⟨o1,r,_,d1⟩,⟨o2,t,_,d2⟩⟩:=st;have B:c=z\/c=TI\/c=TO\/c=e\/c=f:=by simpa using g
  rcases B with q|q|q|q|q
  .rw[q];exact{_,j,λv q=>nomatch q}
  .rw[q];exact{_,m,λv q=>nomatch q}
  .rw[q];exact{_,n,λv q=>nomatch q}
  .rw[q];exact{o1,r,λv q=>by rw[d1] at q;cases q}
  .rw[q];exact{o2,t,λv q=>by rw[d2] at q;cases q}
 keep:=λi h h' st k=>by
  obtain⟨j,m,⟨x,y,n⟩,h1,h2⟩:=st;exact{k z (by simp) _ j,k TI (by simp) _ m,{x,y,k TO (by simp) _ n},h1.at λo q=>k e (by simp) o q,h2.at λo q=>k f (by simp) o q}
 item:=by
  intro X C hw hK g i F s σ H E I hf st hg;subst C hw hK;obtain⟨j,m,⟨x0,y0,n⟩,h1,h2⟩:=st;obtain⟨xs,ys,x,y,G,J,hx,hy⟩:=hg;obtain⟨its,rv,p,_⟩:=I.list G;obtain⟨L,M,p2,_⟩:=I.list J;obtain⟨u,hu,ru⟩:=rv.get hx;obtain⟨N,hu2,ru2⟩:=M.get hy;have O:z< s.heap.objs.size:=cc j;refine wpAny_pyNext_zip_item D j m n h1 h2 p.isList p2.isList (x:=u) (y:=N) (by simpa using hu) (by simpa using hu2) λh' z' TO' h1' h2' hT hsz R=>?_;refine{_,rfl,wpAny_letOwnedTupleGo_zip (s:={s with heap:=h'}) z' λS z'' T=>?_};have U:S.get? s.heap.objs.size=ba {cls:= .type "tuple",data:= .seq #[u,N]}:=(T.2 _ (fm O)).trans hT;have new:Cd X.prog X.w (upd H s.heap.objs.size (.tup [x,y])) S s.heap.objs.size (.tup [x,y]):=
   {by show 2<=sizeLine;decide,[u,N],.cons ru (.cons ru2 .nil),{_,U,rfl,_,rfl},_,U,rfl}
  have I1:Inv X F σ (upd H s.heap.objs.size (.tup [x,y])) {s with heap:=S}:=
   I.RE (t':=s.toks) (ch:=[z,TI,TO,e,f]) (λc o V q=>(T.2 c (λW=>V (by simp[W]))).trans (R c o (λW=>V (by simp[W])) (λW=>V (by simp[W])) (λW=>V (by simp[W])) (λW=>V (by simp[W])) q)) hf (rb _) new
  refine{.ref s.heap.objs.size,_,I1,rfl,{_,x,y,rfl,I.vb.fresh (rb _),rfl,λl hl=>by rw[I.zE hl G];exact hx,λl hl=>by rw[I.zE hl J];exact hy},{z'',?_,{u,N,?_},?_,?_},λc Y=>?_}
  .exact(T.2 _ D.TIz).trans (R _ _ D.TIz D.TITO D.TIi1 D.TIi2 m)
  .exact(T.2 _ D.TOz).trans TO'
  .exact h1'.at λo q=>(T.2 _ D.i1z).trans q
  .exact h2'.at λo q=>(T.2 _ D.i2z).trans q
  .have hlt:c< s.heap.objs.size:=by
    have B:c=z\/c=TI\/c=TO\/c=e\/c=f:=by simpa using Y
    rcases B with q|q|q|q|q
    .rw[q];exact O
    .rw[q];exact cc m
    .rw[q];exact cc n
    .rw[q];obtain⟨_,r,_⟩:=h1;exact cc r
    .rw[q];obtain⟨_,t,_⟩:=h2;exact cc t
   rw[Ja (Kd hlt)];exact(hf c Y).1
 done:=by
  intro X C hw hK g i F s σ H E I hf st hg;subst C hw hK;obtain⟨j,m,⟨x0,y0,n⟩,h1,h2⟩:=st;obtain⟨xs,ys,G,J,Z⟩:=hg;obtain⟨its,rv,p,_⟩:=I.list G;obtain⟨L,M,p2,_⟩:=I.list J;have l1:=rv.length;have l2:=M.length;have he:its.toArray[i]?=ia\/L.toArray[i]?=ia:=by
   rcases Z with q|q
   .exact .inl (by simp;omega)
   .exact .inr (by simp;omega)
  exact wpAny_pyNext_zip_end (I.ok.hd g) D j m n h1 h2 p.isList p2.isList he λh' R=>⟨rfl,I.wL (t':=s.toks) (ch:=[z,TI,TO,e,f]) (λc o V q=>
   R c o (λW=>V (by simp[W])) (λW=>V (by simp[W])) (λW=>V (by simp[W])) (λW=>V (by simp[W])) q) hf⟩
 self:=λA i s Q E st h=>J_ st.1 h
def pW(K:xa)(ta:TA):TI:=λσ H R=>ta σ H λvs H1=>∃a b xs ys,vs=[.ref a,.ref b]/\Ia K H1 a xs/\Ia K H1 b ys/\R (Sw K a b) H1
theorem P6{d:ua}{ta:TA}{p pos tpos:La}{f:List ua}{g:Nat}(i:Gl X "zip")(j:X.mg "zip"=ia)(k:PA X [e,d] ta)
  (l:autoParam (Jc [e,d] X.env=(ma,Ic e X.env)::Jc [d] X.env) ZQ0._auto_1) (m:autoParam ((Ye pos (Jc [d] X.env)).any (·.1)=ma) ZQ0._auto_1):
  PI X (.Tuple f g tpos) (.Call (.Name "zip" p) [e,d] [] pos) (pW X.K ta):=by
 intro n s σ H R I h;refine Call_ (xq I i j jL (LG (Gb (k pos n s σ H _ I h) λo t ⟨vs,H1,I1,r1,q1⟩=>?_) l m));obtain⟨a,b,xs,ys,ex,u,v,q⟩:=q1;subst ex;cases r1 with
 |cons r w=>
  cases w with
  |cons x w=>
   cases w;cases r;cases x;obtain⟨its,y,A,_⟩:=I1.list u;obtain⟨B,C,p2,_⟩:=I1.list v;have D:a< t.heap.objs.size:=A.lt;have E:b< t.heap.objs.size:=p2.lt;refine call_zip_2 A.isList p2.isList λh' F G J h1 h2 K L=>J_ F ?_;have M:Inv X n σ H1 {t with heap:=h'}:=I1.kept (t':=t.toks) L;refine{t.heap.objs.size+4,[t.heap.objs.size+4,t.heap.objs.size+2,t.heap.objs.size+3,t.heap.objs.size,t.heap.objs.size+1],_,_,H1,rfl,M,j2 (PySem.W.ktu_apart t.heap.objs.size a b D E),{F,G,{_,_,J},h1,h2},λc N=>?_,q};have O:c=t.heap.objs.size+4\/c=t.heap.objs.size+2\/c=t.heap.objs.size+3\/c=t.heap.objs.size\/c=t.heap.objs.size+1:=by simpa using N
   have P:t.heap.objs.size<=c:=by
    rcases O with z|z|z|z|z
    .rw[z];exact Zo _ _
    .rw[z];exact Zo _ _
    .rw[z];exact Zo _ _
    .rw[z];exact rb _
    .rw[z];exact Zo _ _
   exact I1.Xp P (I1.vb.fresh P)
end L2
namespace Bits
end Bits
namespace TL
open PySem PySem.Builtin PySem.Builtin.Str PySem.StrLaws
end TL
namespace L2
end L2
namespace Att
open PySem PySem.W PySem.Calls PyProof.Rows
end Att
namespace L2
noncomputable def inClass(s:za)(j:Nat):za:=match s with
 | .ClassDef _ _ _ body _ _ _ _ _ _ _=>body.getD j (.Pass ⟨0,0,0,0⟩)
 |_=> .Pass ⟨0,0,0,0⟩
noncomputable def Zn(s:za):Arguments:=match s with
 | .FunctionDef _ a _ _ _ _ _ _ _ _=>a
 |_=>{posonlyargs:=[],args:=[],vararg:=ia,kwonlyargs:=[],kw_defaults:=[],kwarg:=ia,defaults:=[]}
noncomputable def Uj(s:za):List za:=match s with
 | .FunctionDef _ _ b _ _ _ _ _ _ _=>b
 |_=>[]
noncomputable def Qc(s:za):jb:=match s with
 | .FunctionDef _ _ _ _ _ _ a _ _ _=>a
 |_=>{kind:= .function,names:=[],isGenerator:=ma,isCoroutine:=ma}
abbrev Ci:ib:=λ_ _ _ _ _ _=>False
abbrev E0:XK:=λ_ _ _=>False
theorem nz:vk Ci X E0:=λ_ _ _ _ _ _ _ h=>h.elim
structure Xj(K:xa)(x qual:Str)(st:za)(f:Addr)(fd:qb):Prop where
 ex:∃(oc:Value)(od:Option Addr)(kV doc pm:Value)(an:Option Addr)(cdv ct:Value)(osl:Array (Option Value)),
  fd=An x qual (Zn st) (Uj st) (Qc st) .none kV doc pm an cdv ct/\K.lookup f=ba ⟨oc,od,.func fd,osl⟩/\Qx K cdv qual=da
 kp:km K (.ref f)=da
theorem Xj.ok{x a:Str}{st:za}{f:Addr}{fd:qb}{N:List Str}{sp:Sp}(F:Xj K x a st f fd)(S:Vk N ps (Qc st))(b:∀vs H Q E,sp vs H Q E->vs.length=ps.length)
  (c:∀(cdv:Value)(A:bb)(outer:List va)(s:ja)(H:Hp)(vs:List V)(Q:VK)(E:XK),Ad k (A.deeper (Sf a (Qc st) s.heap.objs.size f cdv))->sp vs H Q E->
   ∃t,yh (ai Ci P w K mg base N a (Qc st) f cdv A outer s H E).qt (Uj st) t/\t {nx:=λ_ H'=>Q .Tb H',rt:=Q} (start N vs) H):Te P w K mg base Ci (k+1) f fd ps sp:=by
 obtain⟨d,e,kV,g,i,j,cdv,l,m,rfl,n,o⟩:=F.ex;refine NL n o S b λA outer s H vs Q E p r=>?_;obtain⟨t,h,q⟩:=c cdv A outer s H vs Q E p r;exact⟨t,h.qt,q⟩
theorem Xj.binds{x a:Str}{st:za}{f:Addr}{fd:qb}(F:Xj K x a st f fd)
  (h:∀(kV doc pm:Value)(an:Option Addr)(cdv ct:Value)(us:List Value),us.length=ps.length->jR (An x a (Zn st) (Uj st) (Qc st) .none kV doc pm an cdv ct) ⟨us,[]⟩=pd (ps.zip us)):Binds K fd ps []:=by
 obtain⟨b,c,kV,doc,pm,an,cdv,ct,d,rfl,e,g⟩:=F.ex;exact .all (h kV doc pm an cdv ct)
theorem jt{x a:Str}{st:za}{f:Addr}{b:Value}{d e:Option Addr}{g:Array (Option Value)}{kV h i j m:Value}(l:K.lookup f=ba ⟨b,d,.func (An x a (Zn st) (Uj st) (Qc st) .none kV h i e j m),g⟩)
  (c:Qx K j a=da) (k:km K (.ref f)=da):Xj K x a st f (An x a (Zn st) (Uj st) (Qc st) .none kV h i e j m):={⟨b,d,kV,h,i,e,j,m,g,rfl,l,c⟩,k}
theorem ei(a:Ad k A):A.units+1< Wc:=Qi (Nat.add_le_add_left (by decide:1<=64) _) a.units
theorem Jd{n:Nat}(h:n<=1000):n< sizeLine:=Qi h (by decide)
theorem pv(i:Nat){x:Str}{pos:La}(hN:autoParam (X.N[i]?=ba x) ZQ0._auto_1)(hv:px X.env.scope x:=by first|exact rB rfl|exact Dn (rB rfl) |exact Dn (Dn rfl))(hd:autoParam ((x==("__debug__":Str))=ma) ZQ1._auto_1)
  (hcd:autoParam ((x==("__classdict__":Str))=ma) ZQ1._auto_1):PE X (.Name x pos) (Ua i):=UX hN hv hd hcd
theorem bj{A B:Prop}(h:B):if ma=da then A else B:=by
 rw[oa se];exact h
theorem wg{A B:Prop}(h:A):if da=da then A else B:=by
 rw[qa rfl];exact h
theorem cb{c A B:Prop} [Decidable c](h1:c->A)(h2:¬c->B):if c then A else B:=by
 by_cases h:c
 .rw[qa h];exact h1 h
 .rw[oa h];exact h2 h
def ka(H H':Hp):Prop:=∀b o,H b=ba o->H' b=ba o
theorem ka.refl(H:Hp):ka H H:=λ_ _ h=>h
theorem ka.trans{H1 H2:Hp}(a:ka H H1)(b:ka H1 H2):ka H H2:=λc o h=>b c o (a c o h)
theorem ka.free{H':Hp}(e:ka H H'){l:Addr}(h:H' l=ia):H l=ia:=by
 cases q:H l with
 |none=>rfl
 |some o=>
  rw[e l o q] at h;cases h
theorem tX{l:List α}(c:l.Nodup){j:Nat}{x:α}(a:l[i]?=ba x)(b:l[j]?=ba x):i=j:=by
 obtain⟨h1,d⟩:=Cf.mp a;obtain⟨h2,e⟩:=Cf.mp b;exact(w9 c).mp (d.trans e.symm)
theorem ka.made{H1:Hp}{x dx:Addr}(a:H x=ia)(c:H dx=ia)(k:∀b o,(upd (upd H dx (.own x)) x (.ins C dx [])) b=ba o->b≠x->H1 b=ba o):ka H H1:=λb o e=>
 k b o (by rw[Ja (de e a),Ja (de e c)];exact e) (de e a)
open PySem.W (WData Codec OpenSpec Well WellAll ReadsW ReadsAllW)
mutual
inductive Dw(K:xa)(H:Hp):V->WData->Prop
 |Tb:Dw K H .Tb .none
 |bl (b:Bool):Dw K H (.bl b) (.bool b)
 |int (i:Int):Dw K H (.int i) (.int i)
 |str (x:Str):Dw K H (.str x) (.str x)
 |Yg (b:Array UInt8):Dw K H (.Yg b) (.bytes b.toList)
 |lst {a:Addr} {xs:List V} {ds:List WData}:Ia K H a xs->Wi K H xs ds->Dw K H (.ref a) (.list ds)
 |tup {a:Addr} {xs:List V} {ds:List WData}:Ba K H a xs->Wi K H xs ds->Dw K H (.ref a) (.tuple ds)
inductive Wi(K:xa)(H:Hp):List V->List WData->Prop
 |nil:Wi K H [] []
 |cons {v:V} {vs:List V} {d:WData} {ds:List WData}:Dw K H v d->Wi K H vs ds->Wi K H (v::vs) (d::ds)
end
theorem QP:∀ns:List Int,Wi K H (ns.map V.int) (ns.map WData.int)
 |[]=> .nil
 |n::r=> .cons (.int n) (QP r)
theorem eN:∀(ns:List Int)(xs:List V),Wi K H xs (ns.map WData.int)->xs=ns.map V.int
 |[],xs,h=>by
  cases h;rfl
 |n::r,xs,h=>by
  cases h with
  |cons a b=>
   cases a;rw[eN r _ b]<;>rfl
section
variable{R:K_}{cl:Str->Option Addr}
theorem M5{xs:List V}(b:ud P w H h)(c:K.In h)(q:Ia K H a xs):∃(its:List Value)(o:Obj)(n:Nat),yb xs its/\h.get? a=ba o/\o.cls= .type "list"/\o.data= .seq its.toArray n:=by
 rcases q with q|⟨o,its,n,e,d,_,hd,_,f⟩
 .obtain⟨_,its,n,f,e⟩:=(show Cd P w H h a (.lst xs) from q.ok b);exact{its,_,n,f,e,rfl,rfl}
 .exact{its.toList,o,n,f,c _ _ e,d,by simp[hd]}
theorem I0{xs:List V}(b:ud P w H h)(c:K.In h)(q:Ba K H a xs):∃(its:List Value)(o:Obj)(n:Nat),yb xs its/\h.get? a=ba o/\o.cls= .type "tuple"/\o.data= .seq its.toArray n:=by
 rcases q with q|⟨o,its,n,e,d,hd,_,f⟩
 .obtain⟨_,its,f,⟨o,e,d,n,hd⟩,_⟩:=(show Cd P w H h a (.tup xs) from q.ok b);exact⟨its,o,n,f,e,d,hd⟩
 .exact{its.toList,o,n,f,c _ _ e,d,by simp[hd]}
mutual
theorem Dw.reads(a:ud P w H h)(c:K.In h):∀(d:WData)(v:V)(u:Value),Dw K H v d->RelV v u->∃e,ReadsW R cl h u d e
 | .none,_,_,x,r=>by
  cases x;cases r;exact{_,ReadsW.none}
 | .bool b,_,_,x,r=>by
  cases x;cases r;exact{_,ReadsW.bool b}
 | .int i,_,_,x,r=>by
  cases x;obtain⟨t,rfl⟩:=r;exact{_,ReadsW.int i t}
 | .str s,_,_,x,r=>by
  cases x;obtain⟨t,rfl⟩:=r;exact{_,ReadsW.str s t}
 | .bytes b,_,_,x,r=>by
  cases x;obtain⟨t,rfl⟩:=r;exact{_,ReadsW.bytes _ t}
 | .list f,_,_,x,r=>by
  cases x with
  |lst g j=>
   cases r;obtain⟨k,o,n,l,m,p,hd⟩:=M5 a c g;obtain⟨e,q⟩:=Dw.readsAll a c f _ k j l;exact{_,ReadsW.list m p hd q}
 | .tuple f,_,_,x,r=>by
  cases x with
  |tup g j=>
   cases r;obtain⟨k,o,n,l,m,p,hd⟩:=I0 a c g;obtain⟨e,q⟩:=Dw.readsAll a c f _ k j l;exact{_,ReadsW.tuple m p hd q}
 | .float _,_,_,x,_=>by cases x
 | .dict _,_,_,x,_=>by cases x
 | .bytearray _,_,_,x,_=>by cases x
 | .set _,_,_,x,_=>by cases x
 | .frozenset _,_,_,x,_=>by cases x
 | .obj _ _,_,_,x,_=>by cases x
theorem Dw.readsAll(a:ud P w H h)(b:K.In h):∀(ds:List WData)(vs:List V)(us:List Value),Wi K H vs ds->yb vs us->∃c,ReadsAllW R cl h us ds c
 |[],_,_,x,r=>by
  cases x;cases r;exact{_,ReadsAllW.nil}
 |d::ds,_,_,x,r=>by
  cases x with
  |cons e f=>
   cases r with
   |cons g i=>
    obtain⟨c,j⟩:=Dw.reads a b d _ _ e g;obtain⟨k,l⟩:=Dw.readsAll a b ds _ _ f i;exact{_,ReadsAllW.cons j l}
end
end
mutual
def Ii:WData->Bool
 | .none=>da
 | .bool _=>da
 | .int _=>da
 | .str _=>da
 | .bytes _=>da
 | .list xs=>Hj xs
 | .tuple xs=>Hj xs
 |_=>ma
def Hj:List WData->Bool
 |[]=>da
 |x::r=>Ii x&&Hj r
end
theorem rO{f:α->WData}(h:∀a,Ii (f a)=da):∀l:List α,Hj (l.map f)=da
 |[]=>rfl
 |x::r=>by
  show(Ii (f x)&&Hj (r.map f))=da;rw[h x,rO h r]<;>rfl
theorem Io:∀(c:Codec)(a:c.denote),Ii (c.enc a)=da
 | .unit,_=>rfl
 | .bool,_=>rfl
 | .int _ _,_=>rfl
 | .nat _ _,_=>rfl
 | .u8,_=>rfl
 | .bytes _ _,_=>rfl
 | .text _ _ _ _,_=>rfl
 | .list _ _ c,a=>rO (λx=>Io c x) a
 | .pair c d,a=>by
  show(Ii (c.enc a.1)&&(Ii (d.enc a.2)&&da))=da;rw[Io c a.1,Io d a.2]<;>rfl
 | .triple c d e,a=>by
  show(Ii (c.enc a.1)&&(Ii (d.enc a.2.1)&&(Ii (e.enc a.2.2)&&da)))=da;rw[Io c a.1,Io d a.2.1,Io e a.2.2]<;>rfl
 | .option c,ia=>rfl
 | .option c,ba x=>Io c x
theorem sJ:∀(b:List Codec)(a:Codec.denoteAll b),Hj (Codec.encAll b a)=da
 |[],_=>rfl
 |c::b,a=>by
  show(Ii (c.enc a.1)&&Hj (Codec.encAll b a.2))=da;rw[Io c a.1,sJ b a.2]<;>rfl
theorem kD:∀{xs:List WData}{d:WData},d∈xs->d.weight<=WData.weightAll xs
 |[],d,h=>absurd h (by simp)
 |x::r,d,h=>by
  show d.weight<=x.weight+1+WData.weightAll r;rcases jc.mp h with e|m
  .rw[e];omega
  .have z:=kD m;omega
def toV:Value->V
 | .none=> .Tb
 | .bool b=> .bl b
 | .int i _=> .int i
 | .str x _=> .str x
 | .bytes b _=> .Yg b
 | .ref a=> .ref a
 |_=> .Tb
def oj(A:List Addr):Value->Prop
 | .none=>True
 | .bool _=>True
 | .int _ _=>True
 | .str _ _=>True
 | .bytes _ _=>True
 | .ref a=>a∈A
 |_=>False
theorem oj.mono{A B:List Addr}(h:∀a∈A,a∈B):∀{u:Value},oj A u->oj B u:=λ{u} x=>by
 cases u with
 |ref a=>exact h a x
 |none=>trivial
 |bool b=>trivial
 |int i t=>trivial
 |str s t=>trivial
 |bytes b t=>trivial
 |_=>exact Og x
theorem fY{A:List Addr}{u:Value}(x:oj A u):RelV (toV u) u:=by
 cases u with
 |ref a=>rfl
 |none=>rfl
 |bool b=>rfl
 |int i t=>exact⟨t,rfl⟩
 |str s t=>exact⟨t,rfl⟩
 |bytes b t=>exact⟨t,rfl⟩
 |_=>exact Og x
theorem Yr{A:List Addr}:∀{vs:List Value},(∀u∈vs,oj A u)->yb (vs.map toV) vs
 |[],_=> .nil
 |u::r,h=> .cons (fY (h u (Mh ..))) (Yr λx a=>h x (sf _ a))
inductive Zi(h:Heap)(A:List Addr)(a:Addr):Prop|mk:∀vs:List Value,vs.length<=sizeLine->(∀u∈vs,oj A u)->(h.get? a=ba {cls:= .type "list",data:= .seq vs.toArray}\/h.get? a=ba {cls:= .type "tuple",data:= .seq vs.toArray})->Zi h A a
theorem Zi.mono{A B:List Addr}(k:∀a∈A,a∈B)(x:Zi h A a):Zi h B a:=by
 obtain⟨b,c,d,e⟩:=x;exact{b,c,λu f=>(d u f).mono k,e}
theorem fA{P:bp}:∀{vs:List Value}{ds:List WData},WellAll P h vs ds->vs.length=ds.length
 |_,_,.nil=>rfl
 |_,_,.cons _ b=>by
  show _+1=_+1;rw[fA b]
theorem wM{P:bp}{v:Value}{b:List WData}(x:Well P h v (.list b)):∃(a:Addr)(vs:List Value),v= .ref a/\h.get? a=ba {cls:= .type "list",data:= .seq vs.toArray}/\WellAll P h vs b:=by
 cases x with
 |list c d=>exact{_,_,rfl,c,d}
theorem AJ{P:bp}{v:Value}{b:List WData}(x:Well P h v (.tuple b)):∃(a:Addr)(vs:List Value),v= .ref a/\h.get? a=ba {cls:= .type "tuple",data:= .seq vs.toArray}/\WellAll P h vs b:=by
 cases x with
 |tuple c d=>exact{_,_,rfl,c,d}
theorem TJ{P:bp}{us:List Value}{d:WData}{c:List WData}(x:WellAll P h us (d::c)):∃(v:Value)(vs:List Value),us=v::vs/\Well P h v d/\WellAll P h vs c:=by
 cases x with
 |cons a b=>exact{_,_,rfl,a,b}
theorem RM{n:Nat}(h:n<=1048576):n<=sizeLine:=Bc h (by decide)
section
variable{P:bp}
mutual
theorem jV:∀(d:WData)(v:Value),Well P h v d->Ii d=da->d.weight<=1048576->∃A:List Addr,oj A v/\∀a∈A,Zi h A a
 | .none,_,x,_,_=>by
  cases x;exact{[],trivial,λa m=>absurd m (by simp)}
 | .bool b,_,x,_,_=>by
  cases x;exact{[],trivial,λa m=>absurd m (by simp)}
 | .int i,_,x,_,_=>by
  cases x;exact{[],trivial,λa m=>absurd m (by simp)}
 | .str s,_,x,_,_=>by
  cases x;exact{[],trivial,λa m=>absurd m (by simp)}
 | .bytes b,_,x,_,_=>by
  cases x;exact{[],trivial,λa m=>absurd m (by simp)}
 | .list c,_,x,p,z=>by
  obtain⟨a,f,rfl,g,j⟩:=wM x;have l:WData.weightAll c<=1048576:=z;obtain⟨A,n,o⟩:=VA c _ j p λd hd=>Bc (kD hd) l;have k:∀b∈A,b∈a::A:=λb q=>sf _ q;refine{a::A,Mh ..,λb q=>?_};rcases jc.mp q with e|m
  .rw[e];exact{f,RM (by rw[fA j];exact Bc (L_ c) l),λu r=>(n u r).mono k,.inl g}
  .exact(o b m).mono k
 | .tuple c,_,x,p,z=>by
  obtain⟨a,f,rfl,g,j⟩:=AJ x;have l:WData.weightAll c<=1048576:=z;obtain⟨A,n,o⟩:=VA c _ j p λd hd=>Bc (kD hd) l;have k:∀b∈A,b∈a::A:=λb q=>sf _ q;refine{a::A,Mh ..,λb q=>?_};rcases jc.mp q with e|m
  .rw[e];exact{f,RM (by rw[fA j];exact Bc (L_ c) l),λu r=>(n u r).mono k,.inr g}
  .exact(o b m).mono k
 | .float _,_,_,p,_=>mi (show ma=da from p)
 | .dict _,_,_,p,_=>mi (show ma=da from p)
 | .bytearray _,_,_,p,_=>mi (show ma=da from p)
 | .set _,_,_,p,_=>mi (show ma=da from p)
 | .frozenset _,_,_,p,_=>mi (show ma=da from p)
 | .obj _ _,_,_,p,_=>mi (show ma=da from p)
theorem VA:∀(ds:List WData)(vs:List Value),WellAll P h vs ds->Hj ds=da->(∀d∈ds,d.weight<=1048576)->∃A:List Addr,(∀u∈vs,oj A u)/\∀a∈A,Zi h A a
 |[],_,x,_,_=>by
  cases x;exact{[],λu m=>absurd m (by simp),λa m=>absurd m (by simp)}
 |d::ds,_,x,p,z=>by
  obtain⟨v,vs,rfl,c,f⟩:=TJ x;have q:Ii d=da/\Hj ds=da:=M_.mp p;obtain⟨A,g,i⟩:=jV d v c q.1 (z d (Mh ..));obtain⟨B,j,k⟩:=VA ds vs f q.2 λe l=>z e (sf _ l);have n:∀b∈A,b∈A++B:=λb o=>Pe.mpr (.inl o);have r:∀b∈B,b∈A++B:=λb o=>Pe.mpr (.inr o);refine{A++B,λu s=>?_,λb o=>?_}
  .rcases jc.mp s with e|m
   .rw[e];exact g.mono n
   .exact(j u m).mono r
  .rcases Pe.mp o with m|m
   .exact(i b m).mono n
   .exact(k b m).mono r
end
end
def Xz(o:Obj):Option HO:=match o.data with
 | .seq vs _=>if(o.cls==ck "list")=da then ba (.qc o (.lst (vs.toList.map toV))) else ba (.qc o (.tup (vs.toList.map toV)))
 |_=>ia
def xg(K:xa)(h:Heap)(A:List Addr):Hp:=λb=>if b∈A then(if(K.lookup b).isNone=da then(h.get? b).bind Xz else ia) else ia
def Ru(H:Hp):Prop:=∀b,H b=ia\/∃o u,H b=ba (.qc o u)
theorem qN(vs:List Value):Xz {cls:= .type "list",data:= .seq vs.toArray}=ba (.qc {cls:= .type "list",data:= .seq vs.toArray} (.lst (vs.map toV))):=by
 show(if(ck "list"==ck "list")=da then ba (HO.qc {cls:= .type "list",data:= .seq vs.toArray} (.lst (vs.toArray.toList.map toV))) else ba (HO.qc {cls:= .type "list",data:= .seq vs.toArray} (.tup (vs.toArray.toList.map toV))))=_;rw[qa (qu _)]
theorem XN(vs:List Value):Xz {cls:= .type "tuple",data:= .seq vs.toArray}=ba (.qc {cls:= .type "tuple",data:= .seq vs.toArray} (.tup (vs.map toV))):=by
 show(if(ck "tuple"==ck "list")=da then ba (HO.qc {cls:= .type "tuple",data:= .seq vs.toArray} (.lst (vs.toArray.toList.map toV))) else ba (HO.qc {cls:= .type "tuple",data:= .seq vs.toArray} (.tup (vs.toArray.toList.map toV))))=_;rw[oa (by decide)]
section
variable{A:List Addr}
theorem My{o:Obj}(a:b∈A)(c:K.lookup b=ia)(e:h.get? b=ba o):xg K h A b=Xz o:=by
 unfold xg;rw[qa a,c,qa (show(ia:Option Obj).isNone=da from rfl),e]<;>rfl
theorem EU{u:HO}(q:xg K h A b=ba u):b∈A/\K.lookup b=ia:=by
 unfold xg at q;by_cases a:b∈A
 .rw[qa a] at q;cases c:K.lookup b with
  |none=>exact⟨a,rfl⟩
  |some o=>
   rw[c,oa (by simp)] at q;cases q
 .rw[oa a] at q;cases q
theorem Kz(c:∀a∈A,Zi h A a){u:HO}(q:xg K h A b=ba u):K.lookup b=ia/\∃vs:List Value,vs.length<=sizeLine/\(∀u∈vs,oj A u)/\
  ((h.get? b=ba {cls:= .type "list",data:= .seq vs.toArray}/\u= .qc {cls:= .type "list",data:= .seq vs.toArray} (.lst (vs.map toV)))\/
   (h.get? b=ba {cls:= .type "tuple",data:= .seq vs.toArray}/\u= .qc {cls:= .type "tuple",data:= .seq vs.toArray} (.tup (vs.map toV)))):=by
 obtain⟨d,f⟩:=EU q;obtain⟨vs,g,i,j⟩:=c b d;refine{f,vs,g,i,?_};rcases j with e|e
 .rw[My d f e,qN] at q;exact .inl {e,(Dd q).symm}
 .rw[My d f e,XN] at q;exact .inr {e,(Dd q).symm}
theorem kY(c:∀a∈A,Zi h A a):Ru (xg K h A):=λb=>by
 cases q:xg K h A b with
 |none=>exact .inl rfl
 |some u=>
  obtain⟨_,d,_,_,⟨_,e⟩ |⟨_,e⟩⟩:=Kz c q
  .exact .inr {_,_,by rw[e]}
  .exact .inr {_,_,by rw[e]}
theorem XT(c:∀a∈A,Zi h A a):ud P w (xg K h A) h:=λb u q=>by
 obtain⟨_,d,f,g,⟨e,rfl⟩ |⟨e,rfl⟩⟩:=Kz c q
 .exact{e,by rw[Na];exact f,d,_,Yr g,e}
 .exact{e,by rw[Na];exact f,d,Yr g,{_,e,rfl,_,rfl},_,e,rfl}
theorem Gz{c a:Value}{vs us:List Value}(e:(ba {cls:=c,data:= .seq vs.toArray}:Option Obj)=ba {cls:=a,data:= .seq us.toArray}):c=a/\vs=us:=by
 have b:=Dd e;have d:c=a:=wc Obj.cls b;have f:Data.seq vs.toArray=Data.seq us.toArray:=wc Obj.data b;injection f with e4;refine{d,?_};have g:=wc WQ e4;simpa using g
theorem x8(b:K.In h)(c:∀a∈A,Zi h A a){vs:List Value}(d:a∈A)(e:h.get? a=ba {cls:= .type "list",data:= .seq vs.toArray}):(∀u∈vs,oj A u)/\Ia K (xg K h A) a (vs.map toV):=by
 obtain⟨f,g,i,j⟩:=c a d;have k:f=vs:=by
  rcases j with q|q
  .rw[e] at q;exact(Gz q).2.symm
  .rw[e] at q;exact absurd (Value.type.inj (Gz q).1) (by decide)
 subst k;refine{i,?_};cases l:K.lookup a with
 |none=>exact .inl (.inr {_,by rw[My d l e,qN]})
 |some o=>
  have m:=b a o l;rw[e] at m;obtain rfl:=Dd m;exact .inr {_,f.toArray,_,l,rfl,rfl,rfl,by rw[Od];exact g,by simpa using Yr i}
theorem d7(b:K.In h)(c:∀a∈A,Zi h A a){vs:List Value}(d:a∈A)(e:h.get? a=ba {cls:= .type "tuple",data:= .seq vs.toArray}):(∀u∈vs,oj A u)/\Ba K (xg K h A) a (vs.map toV):=by
 obtain⟨f,g,i,j⟩:=c a d;have k:f=vs:=by
  rcases j with q|q
  .rw[e] at q;exact absurd (Value.type.inj (Gz q).1) (by decide)
  .rw[e] at q;exact(Gz q).2.symm
 subst k;refine{i,?_};cases l:K.lookup a with
 |none=>exact .inl (.inr {_,by rw[My d l e,XN]})
 |some o=>
  have m:=b a o l;rw[e] at m;obtain rfl:=Dd m;exact .inr {_,f.toArray,_,l,rfl,rfl,by rw[Od];exact g,by simpa using Yr i}
mutual
theorem BU{c:bp}(e:K.In h)(f:∀a∈A,Zi h A a):∀(d:WData)(v:Value),Well c h v d->Ii d=da->oj A v->Dw K (xg K h A) (toV v) d
 | .none,_,x,_,_=>by
  cases x;exact .Tb
 | .bool b,_,x,_,_=>by
  cases x;exact .bl b
 | .int i,_,x,_,_=>by
  cases x;exact .int i
 | .str s,_,x,_,_=>by
  cases x;exact .str s
 | .bytes b,_,x,_,_=>by
  cases x;have z:=Dw.Yg (K:=K) (H:=xg K h A) b.toArray;exact z
 | .list g,_,x,p,j=>by
  obtain⟨a,k,rfl,l,m⟩:=wM x;obtain⟨n,o⟩:=x8 e f j l;exact .lst o (iB e f g _ m p n)
 | .tuple g,_,x,p,j=>by
  obtain⟨a,k,rfl,l,m⟩:=AJ x;obtain⟨n,o⟩:=d7 e f j l;exact .tup o (iB e f g _ m p n)
 | .float _,_,_,p,_=>mi (show ma=da from p)
 | .dict _,_,_,p,_=>mi (show ma=da from p)
 | .bytearray _,_,_,p,_=>mi (show ma=da from p)
 | .set _,_,_,p,_=>mi (show ma=da from p)
 | .frozenset _,_,_,p,_=>mi (show ma=da from p)
 | .obj _ _,_,_,p,_=>mi (show ma=da from p)
theorem iB{b:bp}(c:K.In h)(e:∀a∈A,Zi h A a):∀(ds:List WData)(vs:List Value),WellAll b h vs ds->Hj ds=da->(∀u∈vs,oj A u)->Wi K (xg K h A) (vs.map toV) ds
 |[],_,x,_,_=>by
  cases x;exact .nil
 |d::ds,_,x,p,f=>by
  obtain⟨v,vs,rfl,g,i⟩:=TJ x;have q:Ii d=da/\Hj ds=da:=M_.mp p;exact .cons (BU c e d v g q.1 (f _ (Mh ..))) (iB c e ds vs i q.2 λu m=>f u (sf _ m))
end
end
theorem MU{a:Str->Option Value}{CX:ib}{fa:Addr}{fd:qb}{sp:Sp}{c:ja}{f:List Value}{g:List WData}{R:K_}{cl:Str->Option Addr}{d0:WData}
  (h:K.In c.heap) (i:c.heap.Ns qf mg) (j:c.heap.Ns OQ a) (l:∀x:Str,x≠"__name__"->a x=Ex x) (p:c.heap.NoLimit) (hg:c.gens=#[])
  (t:WellAll w.params c.heap f g) (y:Hj g=da) (B:∀d∈g,d.weight<=1048576) (hr:Ad k ey)
  (F:∀base:Heap,K.In base->base.Ns qf mg->Te P w K mg base CX k fa fd ps sp) (C:∀(s:ja)(us:List Value),us.length=ps.length->Kx s fd ⟨us,[]⟩ (ps.zip us)) (D:g.length=ps.length)
  (E:∀(H:Hp)(xs:List V),Ru H->Wi K H xs g->sp xs H (λv H'=>Dw K H' v d0) λ_ _ _=>False)
  (G:∀H e s',CX [] H c (λ_ _ _=>False) e s'->False):
  jm (Ea P w) ey (.call (.ref fa) ⟨f,[]⟩) (λr s'=>∃u I,r= .ok (.ret u)/\ReadsW R cl s'.heap u d0 I/\OldK c.heap s'.heap/\s'.os=c.os/\AllBare s'.gens) c:=by
 obtain⟨A,ho,J⟩:=VA g f t y B;have L:Ru (xg K c.heap A):=kY J;have M:ud P w (xg K c.heap A) c.heap:=XT J;have hS:=iB h J g f t y ho;have hV:=Yr ho;have hK:∀b u,xg K c.heap A b=ba u->K.lookup b=ia:=λb u q=>(Kz J q).1;have N:∀{b:Addr}{o:Obj}{O:Array fb}{Q:Nat},c.heap.get? b=ba o->o.data= .dict O Q->xg K c.heap A b=ia:=λ{b o O Q} e d=>by
  cases q:xg K c.heap A b with
  |none=>rfl
  |some u=>
   obtain⟨_,vs,_,_,⟨S,_⟩ |⟨S,_⟩⟩:=Kz J q
   .rw[S] at e;cases e;have d':Data.seq vs.toArray _=Data.dict O Q:=d;cases d'
   .rw[S] at e;cases e;have d':Data.seq vs.toArray _=Data.dict O Q:=d;cases d'
 generalize xg K c.heap A=H at L M hS hK N
 have T:∀{b:Addr}{o:Obj},c.heap.get? b=ba o->H b=ia->(jn c.heap H).get? b=ba o:=λe n=>cY e n;have U:∀{b:Addr}{m:Str->Option Value},c.heap.Ns b m->(jn c.heap H).Ns b m:=λ{b m} ⟨o,O,Q,e,d,r⟩=>{o,O,Q,T e (N e d),d,r};have nK:∀b o,K.lookup b=ba o->H b=ia:=λb o e=>by
  cases q:H b with
  |none=>rfl
  |some u=>
   rw[hK b u q] at e;cases e
 have W:K.In (jn c.heap H):=λb o e=>T (h b o e) (nK b o e);have hM:Mod K mg (jn c.heap H):={W,U i,{a,U j,l},let⟨mc,h1,h2⟩:=p;{mc,U h1,h2}};have e0:Pp P w K mg (jn c.heap H) ey [] c H:={rfl,hM,λb o e=>V0 e,AB (yY _ _),trivial,λb j=>absurd (show b∈([]:List Addr) from j) (by simp),M,.of_eq hg};have hl:f.length=ps.length:=by rw[fA t];exact D
 refine Pq ((F _ W (U i)).run ey [] c H {f,[]} f (f.map toV) _ _ hr e0 (C c f hl) hV (E H _ L hS)) λr s' x=>?_;cases r with
 |error e=>exact(G H e s' x).elim
 |ok fl=>
  cases fl with
  |next=>exact Og x
  |brk=>exact Og x
  |cont=>exact Og x
  |ret u=>
   obtain⟨v,H',os,X,un,Y,r',q⟩:=x;have Z:∀b o,c.heap.get? b=ba o->s'.heap.get? b=ba o:=λb o e=>by
    cases q2:H b with
    |none=>exact un.keep b o e q2 (by intro z;exact absurd (show b∈([]:List Addr) from z) (by simp)) (by simp)
    |some u2=>
     rcases L b with z|⟨ob,u3,z⟩
     .rw[q2] at z;cases z
     .have z2:=un.Gk b ob _ z;obtain⟨e1,_⟩:=M b _ z;obtain⟨S,_⟩:=Y b _ z2;rw[e] at e1;cases e1;exact S
   have KX':K.In s'.heap:=λb o e=>Z b o (h b o e);obtain⟨I,hrd⟩:=Dw.reads (R:=R) (cl:=cl) Y KX' d0 v u q r';exact{u,I,rfl,hrd,OldK.of_keep Z,os,X}
theorem vV{a:List WData}(h:WData.layableAll a=da):∀d∈a,d.weight<=1048576:=λd hd=>
 (PySem.W.layableW_iff.mp (Df.mp h d hd)).2.2
theorem XJ:∀(b:List Codec)(a:Codec.denoteAll b),(Codec.encAll b a).length=b.length
 |[],_=>rfl
 |c::b,a=>by
  show(Codec.encAll b a.2).length+1=b.length+1;rw[XJ b a.2]
theorem kW{r:OpenSpec}{q:Va}{b:List Str}{c:(Str->Option Value)->Heap->Prop}{g:Pa->Heap->Prop}{d:DefRec}{K:bp->xa}{CX:Pa->ib}{sp:Pa->Sp}
  (i:r.wellSaid=da) (j:d.params.defaults=[]) (l:r.args.length=ps.length) (m:Ad k ey)
  (n:∀(w:Pa)(h:Heap),g w h->(K w.params).In h)
  (F:∀(w:Pa)(mg:Str->Option Value)(p:Addr)(h:Heap),g w h->(K w.params).In h->h.Ns qf mg->mg d.name=ba (.ref p)->
   ∃fd:qb,(∀(s:ja)(us:List Value),us.length=ps.length->Kx s fd ⟨us,[]⟩ (ps.zip us))/\
    ∀base:Heap,(K w.params).In base->base.Ns qf mg->Te r.prog w (K w.params) mg base (CX w) k p fd ps (sp w))
  (t:∀(w:Pa)(H:Hp)(xs:List V)(a:Codec.denoteAll r.args),Ru H->Codec.withinAll r.args a=da->Codec.app r.args r.asked a=da->Wi (K w.params) H xs (Codec.encAll r.args a)->
   sp w xs H (λv H'=>Dw (K w.params) H' v (r.ret.enc (Codec.app r.args r.f a))) λ_ _ _=>False)
  (x:∀(w:Pa)(H:Hp)(s:ja)(e:Value)(s':ja),CX w [] H s (λ_ _ _=>False) e s'->False):
  P_ q b c g r d [] (λf vs=>Q_ f vs):=by
 intro w y A mg mb G Y p o pm cd B dV kV ho hd C hD D E args I as J L M N O;obtain⟨a,P,Q⟩:=PySem.W.os_pre_some J;obtain⟨S,T⟩:=Codec.encAll_of_decAll r.args args a P;subst S;have U:=n w _ Y;obtain⟨fd,W,X⟩:=F w mg p _ Y U G.T.g D;refine PySem.W.enter_call (Pq (MU (R:=[]) (cl:=classAt y.heap) (d0:=r.ret.enc (Codec.app r.args r.f a)) U G.T.g G.T.b G.T.builtins G.T.nolimit E N (sJ _ _) (vV L) m X W (by rw[XJ];exact l)
  (λH xs hO hS=>t w H xs a hO T Q hS) λH e s'=>x w H A e s') λr' s' hq=>?_)
 obtain⟨u,Z,rfl,h1,h2,h3,h4⟩:=hq;exact{.inl {u,_,Z,rfl,λ_=>rfl,h1,(OpenSpec.post_iff i T _ _).mpr rfl,λz=>mi (show ma=da from z)},h2,h3,h4}
theorem VZ{r:OpenSpec}{q:Va}{b:List Str}{c:(Str->Option Value)->Heap->Prop}{g:Pa->Heap->Prop}{d:DefRec}{K:bp->xa}{CX:ib}{sp:xa->Sp}
  (i:r.wellSaid=da) (j:d.params.defaults=[]) (l:r.args.length=ps.length) (m:Ad k ey)
  (n:∀(w:Pa)(h:Heap),g w h->(K w.params).In h)
  (F:∀(w:Pa)(mg:Str->Option Value)(o:Addr)(h:Heap),g w h->(K w.params).In h->h.Ns qf mg->mg d.name=ba (.ref o)->
   ∃fd:qb,(∀(s:ja)(us:List Value),us.length=ps.length->Kx s fd ⟨us,[]⟩ (ps.zip us))/\
    ∀base:Heap,(K w.params).In base->base.Ns qf mg->Te r.prog w (K w.params) mg base CX k o fd ps (sp (K w.params)))
  (p:∀(K:xa)(H:Hp)(xs:List V)(a:Codec.denoteAll r.args),Ru H->Codec.withinAll r.args a=da->Codec.app r.args r.asked a=da->Wi K H xs (Codec.encAll r.args a)->
   sp K xs H (λv H'=>Dw K H' v (r.ret.enc (Codec.app r.args r.f a))) λ_ _ _=>False)
  (t:∀(H:Hp)(s:ja)(e:Value)(s':ja),CX [] H s (λ_ _ _=>False) e s'->False):
  P_ q b c g r d [] (λf vs=>Q_ f vs):=
 kW (K:=K) (CX:=λ_=>CX) (sp:=λw=>sp (K w.params)) i j l m n F (λw H xs a u x y z=>p (K w.params) H xs a u x y z) λ_ H s e s'=>t H s e s'
end L2
open L2
open Vabldc (Text)
namespace HT
theorem lZ{t a:Addr}{b:Array Value}{c d:Value}{e f:Option Int}(g:qj s.heap t b)(i:s.heap.IsSliceOf a c d .none)(pl:Bn c e)(j:Bn d f)
  (hw:Rb b.size 0 e=0/\Rb b.size b.size f=b.size) (h:Q (.ref t) s):ra (Ea prog w) A (Cn (.ref t) (.ref a)) Q E s:=by
 obtain⟨k,l,n,o⟩:=id i;have p:s.TypeIs (.ref a) "slice":=⟨k,l,n⟩;unfold Cn
 try with_reducible refine ng ?_
 first|refine wpAny_bind (wpAny_pure ?_) |skip
 refine wpAny_bind (b_ g.typeIs (by decide) ?_);refine wpAny_bind (qm (name:=uf "__getitem__") g.typeIs Rx
  (Rg Rx g.typeIs c_ ?_ (d_ _ _)))
 show ra _ _ (e_ (.ref t)>>=_) _ _ s;refine wpAny_bind (f_ g ?_);refine wpAny_bind (Sx p ?_);rw[qa (by decide)];refine wpAny_bind (GO i pl j ?_);have q:(((Rb b.size 0 e:Nat):Int)==0&&(1:Int)==1&&(Rb b.size b.size f - Rb b.size 0 e)==b.size)=da:=by
  rw[hw.1,hw.2];simp
 show ra _ _ (if(((Rb b.size 0 e:Nat):Int)==0&&(1:Int)==1&&(Rb b.size b.size f - Rb b.size 0 e)==b.size)=da then _ else _) _ _ s;rw[qa q];refine wpAny_bind (m:=vj.Tuple.tupleIsExact (.ref t)) (wpAny_bind (Sx g.typeIs (wpAny_pure ?_)));rw[qa (by decide)];refine wpAny_bind (fy ?_);exact wpAny_pure {_,rfl,wpAny_pure h}
theorem HU{t:Addr}{vs a:List Value}(c:qj s.heap t vs.toArray)(d:qj s.heap b a.toArray)
  (e:vs=[]->Q (.ref b) s) (f:vs≠[]->a=[]->Q (.ref t) s) (g:vs≠[]->a≠[]->Q (.ref s.heap.objs.size) {s with heap:=s.heap.push {cls:= .type "tuple",data:= .seq (vs++a).toArray}})
  (hsz:vs.length+a.length<=sizeLine):ra (Ea prog w) A (rj .Add (.ref t) (.ref b)) Q E s:=by
 by_cases i:vs=[]
 .obtain⟨⟨cls,j,h,k⟩,l,m,n,hd⟩:=id c;obtain⟨⟨o,p,data2,q⟩,r,u,v,x⟩:=id d;simp only at m hd u x;subst m hd u x;exact nR {_,l,rfl} {_,r,rfl} oR pR qR rR (sR _ _)
   (tuple_addW0 t b vs.toArray a.toArray n v j p k q (by simp[i])) {l,r,e i}
 .exact iZ c d i (f i) (g i) hsz
theorem NW{M:ub}{a:Type}(f:Nat->a->Ma (ForInStep a))(I:List Nat->a->ja->Prop)(Q:a->ja->Prop)
  (turn:∀x rest b s,I (x::rest) b s->ra M A (f x b) (λr s'=>match r with| .yield c=>I rest c s'| .done c=>Q c s') E s)
  (fin:∀b s,I [] b s->Q b s) (r:UR) (b:a) (h:I (cp r.start r.size r.step) b s):ra M A (um r b f) Q E s:=by
 rw[gH];exact au f I Q turn fin _ b h
open PySem.SeqAt in
open PySem.AutoSeq1 (wpAny_loadPart') in
theorem NV(l:Addr)(a:Array Value)(n:Nat)(dd:Option Addr)(c:Array (Option Value))(x:Value)(e:Value->Bool)(j:Nat)(f:j< a.size)
  (k:e a[j]=da) (o:∀m(p:m< a.size),m< j->e a[m]=ma):
  IB (Builtin.«tuple.index» ⟨[.ref l,x],[]⟩)
   (λA R s=>s.heap.get? l=ba {cls:= .type "tuple",dict:=dd,data:= .seq a n,slots:=c}/\(∀y,y∈a->EqAt A.in1 s y x (e y))/\R (.ok (.ret (.int j s.toks))) {s with toks:=s.toks+1}):=by
 intro q w A R s h;obtain⟨r,g,d,t,u⟩:=s;obtain⟨v,z,h⟩:=h
 wp_walk using Sq v,NW _ (λB b C=>b.1=ia/\C=⟨r,g,d,t,u⟩/\∃i,i<=j/\B=cp i (a.size - i)) _
 case turn=>
  rintro i B b C ⟨D,rfl,E,F,G⟩;have H:E< a.size:=by omega
  have I:a.size - E=(a.size - (E+1))+1:=by omega
  rw[I,hH] at G;injection G with hr1 hr2;subst hr1;have J:a[i]?=ba a[i]:=by simp[H]
  rw[J];refine wpAny_bind (z _ (R_ H) q w _ _ ?_);by_cases K:i=j
  .subst K;rw[k]
   wp_walk
   exact h
  .rw[o i H (by omega)]
   wp_walk
   exact{rfl,rfl,i+1,by omega,hr2}
 case fin=>
  rintro⟨L,M⟩ C ⟨D,rfl,E,F,G⟩;have:=wc He G;simp at this;omega
 case h=>
  refine{rfl,rfl,0,Pd _,?_};simp[S_]
end HT
namespace L2
inductive uK(K:xa)(x:V)(lo:Option Int)(hi:Option Int)(H:Hp)(Q:VK):Prop|mk:∀a xs,x= .ref a->Ba K H a xs->((HT.Rb xs.length 0 lo=0/\HT.Rb xs.length xs.length hi=xs.length)->Q (.ref a) H)->(¬(HT.Rb xs.length 0 lo=0/\HT.Rb xs.length xs.length hi=xs.length)->∀p,H p=ia->Q (.ref p) (upd H p (.tup (Qj xs lo hi))))->uK K x lo hi H Q
theorem xK:Ir X (uK X.K):=by
 intro b s c H x v d e f g i Q I j k l m h;obtain⟨a,n,rfl,o,p,q⟩:=h;by_cases t:HT.Rb n.length 0 f=0/\HT.Rb n.length n.length g=n.length
 .cases j;obtain⟨u,r,w,y⟩:=I.tuple o;have z:u.toArray.size=n.length:=by rw[Od];exact r.length.symm
  refine{"tuple",_,Rx.lookup,w.typeIs,?_};exact HT.lZ w k l m (by rw[z];exact t) {.ref a,H,I,rfl,p t}
 .exact d3 b s c H _ v d e f g i Q I j k l m {a,n,rfl,o,t,q t}
inductive QO(K:xa)(x:V)(y:V)(H:Hp)(Q:VK):Prop|mk:∀a b xs ys,x= .ref a->y= .ref b->Ba K H a xs->Ba K H b ys->xs.length+ys.length<=sizeLine->(xs=[]->Q (.ref b) H)->(ys=[]->Q (.ref a) H)->(xs≠[]->ys≠[]->∀p,H p=ia->Q (.ref p) (upd H p (.tup (xs++ys))))->QO K x y H Q
theorem Ry:zd X (rj .Add) (QO X.K):=by
 intro c s d H x y v u Q I e f h;obtain⟨a,b,g,i,rfl,rfl,j,k,l,q0,m,n⟩:=h;cases e;cases f;obtain⟨p,r,t,_⟩:=I.tuple j;obtain⟨A,B,C,_⟩:=I.tuple k;refine HT.HU t C (λz=>{.ref b,H,I,rfl,q0 (r.BA.mp z)}) (λ_ z=>{.ref a,H,I,rfl,m (B.BA.mp z)}) (λD z=>?_) (by rw[<-r.length,<-B.length];exact l);refine{.ref s.heap.objs.size,_,I.laid (t':=s.toks) (o:= .tup (g++i)) (λb E q=>Qb _ q) (rb _) ?_,rfl,n (λw=>D (r.BA.mpr w)) (λw=>z (B.BA.mpr w)) _ (I.vb.fresh (rb _))};exact{by rw[wd];exact l,_,r.append B,IsTup.new _ _,_,Uc _ rfl,rfl}
end L2
namespace Tl
noncomputable def dw(c:Nat):Bool:=if(decide (97<=c)&&decide (c<=122))||((decide (65<=c)&&decide (c<=90))||(decide (48<=c)&&decide (c<=57)))=da then da else [45,46,95].contains c
theorem cF(c:Nat):dw c=ik c:=by
 unfold dw ik;by_cases a:97<=c/\c<=122
 .simp[a]
 .by_cases b:65<=c/\c<=90
  .simp[b]
  .by_cases d:48<=c/\c<=57
   .simp[d]
   .have e:(decide (97<=c)&&decide (c<=122))=ma:=by simp;omega
    have f:(decide (65<=c)&&decide (c<=90))=ma:=by simp;omega
    have g:(decide (48<=c)&&decide (c<=57))=ma:=by simp;omega
    rw[e,f,g];have q:([45,46,95].contains c)=((c==46)||((c==95)||(c==45))):=by
     simp only[VR,List.contains_nil,su];cases(c==45)<;>cases(c==46)<;>cases(c==95)<;>rfl
    simpa using q
theorem x5(t:Text):Bg t=(if t.length< 1\/32< t.length then ma else if t=[46]\/t=[46,46] then ma else t.all dw):=by
 unfold Bg;have a:t.all dw=t.all ik:=by
  congr 1
  funext c
  exact cF c
 rw[a];have b:vm "."=[46]:=by decide
 have d:vm ".."=[46,46]:=by decide
 rw[b,d];by_cases f:t.length< 1\/32< t.length
 .rw[qa f];rcases f with h|h
  .have:¬1<=t.length:=by omega
   simp[this]
  .have:¬t.length<=32:=by omega
   simp[this]
 .rw[oa f];have g:1<=t.length:=by omega
  have i:t.length<=32:=by omega
  by_cases j:t=[46]\/t=[46,46]
  .rw[qa j];rcases j with rfl|rfl<;>simp
  .rw[oa j];have k:t≠[46]:=λe=>j (.inl e);have l:t≠[46,46]:=λe=>j (.inr e);simp[g,i,k,l]
theorem Ki(c:Nat):∀t:Text,Za c t≠[]
 |[]=>by simp[Za]
 |x::r=>by
  unfold Za;by_cases h:x=c
  .rw[qa h];simp
  .rw[oa h];cases e:Za c r with
   |nil=>simp
   |cons y l=>simp
noncomputable def ie(c:Nat)(t:Text):Nat->List Text×Nat
 |0=>([],0)
 |i+1=>if t[i]?=ba c then((ie c t i).1++[(t.take i).drop (ie c t i).2],i+1) else ie c t i
theorem OJ{c:Nat}{t:Text}(h:t[i]?=ba c):ie c t (i+1)=((ie c t i).1++[(t.take i).drop (ie c t i).2],i+1):=qa h
theorem DQ{c:Nat}{t:Text}(h:¬t[i]?=ba c):ie c t (i+1)=ie c t i:=oa h
theorem JE(c:Nat)(t:Text):∀i,(ie c t i).2<=i
 |0=>rb _
 |i+1=>by
  unfold ie;split
  .exact rb _
  .exact En (JE c t i)
theorem xE(c:Nat)(t:Text):∀i,(ie c t i).1.length<=i
 |0=>rb _
 |i+1=>by
  have a:=xE c t i;unfold ie;split
  .rw[wd];show(ie c t i).1.length+1<=i+1;omega
  .omega
theorem bQ(c:Nat):∀(a b:Text),(∀x∈a,x≠c)->Za c (a++c::b)=a::Za c b
 |[],b,_=>by simp[Za]
 |x::a,b,h=>by
  have d:x≠c:=h x (by simp);have e:=bQ c a b λy f=>h y (by simp[f]);show Za c (x::(a++c::b))=_
  conv=>lhs;unfold Za
  rw[oa d,e]
theorem yK(c:Nat):∀(a:Text),(∀x∈a,x≠c)->Za c a=[a]
 |[],_=>rfl
 |x::a,h=>by
  have b:x≠c:=h x (by simp);have d:=yK c a λy e=>h y (by simp[e]);unfold Za;rw[oa b,d]
theorem JI(c:Nat)(t:Text):∀i,i<=t.length->(∀x∈(t.take i).drop (ie c t i).2,x≠c)/\Za c t=(ie c t i).1++Za c (t.drop (ie c t i).2)
 |0,_=>by simp[ie]
 |i+1,h=>by
  obtain⟨a,b⟩:=JI c t i (by omega);have d:=JE c t i;have f:i< t.length:=by omega
  have g:t[i]?=ba t[i]:=Wd f;unfold ie;by_cases j:t[i]?=ba c
  .rw[qa j];have l:t[i]=c:=by rw[g] at j;exact Dd j
   constructor
   .have:(t.take (i+1)).drop (i+1)=[]:=by simp
    rw[this];intro x m;simp at m
   .rw[b,cf]
    congr 1
    have n:t.drop (ie c t i).2=(t.take i).drop (ie c t i).2++c::t.drop (i+1):=by
     have o:t.take i++t[i]::t.drop (i+1)=t:=by
      rw[gy,Ph]
     have p:(t.take i).length=i:=by rw[rd];omega
     generalize(ie c t i).2=k at d
     have q:(t.take i++t[i]::t.drop (i+1)).drop k=(t.take i).drop k++t[i]::t.drop (i+1):=iH (by omega);rw[o,l] at q;exact q
    rw[n,bQ c _ _ a];rfl
  .rw[oa j];refine{?_,b};have r:t.take (i+1)=t.take i++[t[i]]:=by rw[ni,g];rfl
   rw[r,iH (by rw[rd];omega)];intro x m;rcases Pe.mp m with m|m
   .exact a x m
   .simp at m;subst m;intro e;exact j (by rw[g,e])
theorem eU(c:Nat)(t:Text):Za c t=(ie c t t.length).1++[t.drop (ie c t t.length).2]:=by
 obtain⟨a,b⟩:=JI c t t.length (rb _);rw[Cg] at a;rw[b,yK c _ a]
theorem Jw(t:Text):gb t=(if 96< t.length then ma else decide ((Za 47 t).length<=8)&&(Za 47 t).all Bg):=by
 unfold gb uu gp;cases t with
 |nil=>simp[Za,Bg]
 |cons x r=>
  have a:=Ki 47 (x::r);have b:1<=(Za 47 (x::r)).length:=by
   cases e:Za 47 (x::r) with
   |nil=>exact absurd e a
   |cons _ _=>simp
  have c:(x::r).isEmpty=ma:=rfl;rw[c];simp only[yc,Ub];by_cases d:96< (x::r).length
  .rw[qa d];have:¬(x::r).length<=96:=by omega
   rw[Rf this];rfl
  .rw[oa d];have:(x::r).length<=96:=by omega
   rw[Xc this,Xc b];rfl
end Tl
local macro_rules|`(tactic|k_extra "s")=>`(tactic|exact⟨rfl,rfl,rfl,by decide+kernel,rfl,by decide+kernel,by decide+kernel⟩)
local macro_rules|`(tactic|k_extra "l")=>`(tactic|(intro _ _ _ _ h;cases h;subst_vars;rfl))
variable{t:List Eb}{ts:List Fb}
namespace Tl
noncomputable def txt(t:Text):List V:=t.map λn=>V.int ((n:Nat):Int)
noncomputable def key(t:Text):List Key:=t.map λn=>(Ce ((n:Nat):Int):Key)
theorem Xe(t:Text):(key t).map kV=txt t:=by
 unfold key txt;rw[yd];rfl
theorem gc(t:Text):(txt t).length=t.length:=Na _
theorem vo(x:Nat)(t:Text):txt (x::t)=V.int (x:Int)::txt t:=rfl
theorem Dk(a b:Text):txt (a++b)=txt a++txt b:=vf
theorem O5(t:Text)(n:Nat):txt (t.take n)=(txt t).take n:=RB
theorem Y5(t:Text)(n:Nat):txt (t.drop n)=(txt t).drop n:=TB
theorem Ak:∀{a b:Text},txt a=txt b->a=b
 |[],[],_=>rfl
 |[],_::_,e=>by cases e
 |_::_,[],e=>by cases e
 |x::a,y::b,e=>by
  rw[vo,vo] at e;injection e with e1 e2;injection e1 with e1;rw[UB e1,Ak e2]
theorem gA{a b:Text}(e:key a=key b):a=b:=Ak (by rw[<-Xe,<-Xe,e])
theorem Xk(t:Text)(i:Nat):(txt t)[i]?=t[i]?.map λn=>V.int ((n:Nat):Int):=Ac ..
theorem Gv(t:Text):txt t=(t.map λn=>((n:Nat):Int)).map V.int:=by
 unfold txt;rw[yd];rfl
theorem Qa{p:Addr}{o:HO}(h:H p=ia):ka H (upd H p o):=λb u e=>by
 rw[Ja (de e h)];exact e
theorem Zg{H0:Hp}{p:Addr}{o:HO}(s:ka H0 H)(h:H0 p=ia):ka H0 (upd H p o):=λb u e=>by
 rw[Ja (de e h)];exact s b u e
theorem Rn{b:Hp}{xs:List V}(e:ka H b)(h:Ba K H a xs):Ba K b a xs:=by
 rcases h with(h|⟨o,h⟩) |h
 .exact .inl (.inl (e _ _ h))
 .exact .inl (.inr {o,e _ _ h})
 .exact .inr h
noncomputable def cut(t:Text)(a hi:Option Int):Text:=(t.drop (HT.Rb t.length 0 a)).take (HT.Rb t.length t.length hi - HT.Rb t.length 0 a)
theorem v8(t:Text)(a b:Option Int):Qj (txt t) a b=txt (cut t a b):=by
 unfold Qj cut;rw[gc,O5,Y5]
theorem jY{t:Text}{a b:Option Int}(h:HT.Rb t.length 0 a=0/\HT.Rb t.length t.length b=t.length):cut t a b=t:=by
 unfold cut;rw[h.1,h.2,Fn,iy,Cg]
theorem Nt(t:Text)(n:Nat):cut t ia (ba (n:Int))=t.take n:=by
 unfold cut;rw[HT.HC,HT.Fq,Fn,iy];by_cases h:n<=t.length
 .rw[ml h]
 .rw[wu (by omega),Cg,rm (by omega)]
theorem Km(t:Text)(n:Nat):cut t (ba (n:Int)) ia=t.drop n:=by
 unfold cut;rw[HT.HC,HT.Fq];by_cases h:n<=t.length
 .rw[ml h,rm (by rw[ue];exact rb _)]
 .rw[wu (by omega),er (by omega),er (by omega:t.length<=n),jy]
theorem mv(t:Text)(a b:Nat):cut t (ba (a:Int)) (ba (b:Int))=(t.take b).drop a:=by
 unfold cut;rw[HT.Fq,HT.Fq,ly];by_cases c:a<=t.length
 .rw[ml c];by_cases d:b<=t.length
  .rw[ml d]
  .rw[wu (by omega),rm (by rw[ue];exact rb _),rm (by rw[ue];omega)]
 .rw[wu (by omega:t.length<=a),er (rb _),er (by omega:t.length<=a),jy,jy]
inductive Ms(x:V)(lo:Option Int)(hi:Option Int)(H:Hp)(Q:VK):Prop|mk:∀a t,x= .ref a->H a=ba (.tup (txt t))->(∀p H',ka H H'->H' p=ba (.tup (txt (cut t lo hi)))->Q (.ref p) H')->Ms x lo hi H Q
theorem Ff:Ir X Ms:=by
 intro b s c H x v d e f g i Q I j k l m h;obtain⟨a,t,rfl,n,q⟩:=h;refine xK b s c H _ v d e f g i Q I j k l m {a,txt t,rfl,Ba.of n,λo=>?_,λ_ p r=>?_}
 .rw[gc] at o;exact q a H (ka.refl H) (by rw[jY o];exact n)
 .exact q p _ (Qa r) (by rw[wa,v8])
inductive nQ(x:V)(y:V)(H:Hp)(Q:VK):Prop|mk:∀a b t u,x= .ref a->y= .ref b->H a=ba (.tup (txt t))->H b=ba (.tup (txt u))->t.length+u.length<=sizeLine->(∀p H',ka H H'->H' p=ba (.tup (txt (t++u)))->Q (.ref p) H')->nQ x y H Q
theorem az:zd X (rj .Add) nQ:=by
 intro c s d H x y v u Q I f g h;obtain⟨a,b,t,w,rfl,rfl,i,j,k,q⟩:=h;refine Ry c s d H _ _ v u Q I f g {a,b,txt t,txt w,rfl,rfl,Ba.of i,Ba.of j,by rw[gc,gc];exact k,λe=>?_,λe=>?_,λ_ _ p l=>?_}
 .have:t=[]:=Ak e;subst this;exact q b H (ka.refl H) j
 .have:w=[]:=Ak e;subst this;exact q a H (ka.refl H) (by rw[sj];exact i)
 .exact q p _ (Qa l) (by rw[wa,Dk])
inductive jO(K:xa)(x:V)(y:V)(H:Hp)(Q:VK):Prop|mk:∀a b t u,x= .ref a->y= .ref b->Ba K H a (txt t)->Ba K H b (txt u)->t.length+u.length<=sizeLine->(∀p H',ka H H'->Ba K H' p (txt (t++u))->Q (.ref p) H')->jO K x y H Q
theorem vF:zd X (rj .Add) (jO X.K):=by
 intro c s d H x y v u Q I f g h;obtain⟨a,b,t,w,rfl,rfl,i,j,k,q⟩:=h;refine Ry c s d H _ _ v u Q I f g {a,b,txt t,txt w,rfl,rfl,i,j,by rw[gc,gc];exact k,λe=>?_,λe=>?_,λ_ _ p l=>?_}
 .have:t=[]:=Ak e;subst this;exact q b H (ka.refl H) j
 .have:w=[]:=Ak e;subst this;exact q a H (ka.refl H) (by rw[sj];exact i)
 .exact q p _ (Qa l) (Ba.of (by rw[wa,Dk]))
noncomputable def dat(t:Text):List PyData:=t.map λn=>Gn ((n:Nat):Int)
theorem Pk:∀t:Text,Ll K H (txt t) (dat t)
 |[]=> .nil
 |x::t=> .cons (.int _) (Pk t)
theorem lx:∀t:Text,oi (dat t)=da
 |[]=>by simp[dat,oi]
 |x::t=>by
  have a:=lx t;show oi (Gn _::dat t)=da;simp only[oi,wm,a,my]
theorem uz:∀t:Text,Dg (dat t)<=1
 |[]=>by simp[dat,Dg]
 |x::t=>by
  have a:=uz t;show Dg (Gn _::dat t)<=1;simp only[Dg,ip];omega
theorem Pt(t:Text):Oi (.tuple (dat t))=da:=by
 unfold Oi;have a:=uz t;rw[Kc];constructor
 .simp only[wm,lx]
 .simp only[ip];exact Xc (by omega)
theorem Fv:∀a b:Text,wj (dat a) (dat b)=decide (a=b)
 |[],[]=>by simp[dat,wj]
 |[],_::_=>by simp[dat,wj]
 |_::_,[]=>by simp[dat,wj]
 |x::a,y::b=>by
  have c:=Fv a b;show wj (Gn _::dat a) (Gn _::dat b)=_;simp only[wj,og,c];by_cases e:x=y
  .subst e;simp
  .have:¬((x:Nat):Int)=(y:Int):=λq=>e (UB q);simp[e,this]
inductive Vm(K:xa)(x:V)(y:V)(H:Hp)(Q:VK):Prop|mk:∀a b t u,x= .ref a->y= .ref b->Ba K H a (txt t)->Ba K H b (txt u)->Q (.bl (decide (t=u))) H->Vm K x y H Q
inductive Ip(K:xa)(x:V)(y:V)(H:Hp)(Q:VK):Prop|mk:∀a b t u,x= .ref a->y= .ref b->Ba K H a (txt t)->Ba K H b (txt u)->Q (.bl (!decide (t=u))) H->Ip K x y H Q
theorem Ei(c:X.A.units+64< Wc):zd X (ee .Eq) (Vm X.K):=by
 intro d s e H x y v u Q I f g h;obtain⟨a,b,t,w,rfl,rfl,i,j,q⟩:=h;refine Wv c d s e H _ _ v u Q I f g {_,_,.tup i (Pk t),.tup j (Pk w),Pt t,Pt w,?_};simp only[og,Fv];exact q
theorem yx(c:X.A.units+64< Wc):zd X (ee .NotEq) (Ip X.K):=by
 intro d s e H x y v u Q I f g h;obtain⟨a,b,t,w,rfl,rfl,i,j,q⟩:=h;refine kG c d s e H _ _ v u Q I f g {_,_,.tup i (Pk t),.tup j (Pk w),Pt t,Pt w,?_};simp only[og,Fv];exact q
inductive bc(mg:Str->Option Value)(x:Str)(v:V):Prop|mk:∀u,mg x=ba u->RelV v u->bc mg x v
theorem Wa{x:Str}{v:V}{pos:La}(h:bc X.mg x v)(a:autoParam (Gl X x) ZQ0._auto_1)(hd:autoParam ((x==("__debug__":Str))=ma) ZQ1._auto_1):PE X (.Name x pos) (tC v):=by
 obtain⟨u,b,c⟩:=h;exact jZ a b c hd
structure Gf(K:xa)(mg:Str->Option Value)(x:Str)(st:za)(ps:List Str)(f:Addr)(fd:qb):Prop where
 mg:mg x=ba (.ref f)
 fn:Xj K x x st f fd
 bd:Binds K fd ps []
inductive GF(K:xa)(mg:Str->Option Value)(x:Str)(st:za)(ps:List Str):Prop|mk:∀f fd,Gf K mg x st ps f fd->GF K mg x st ps
inductive Aa(P:Va)(w:Pa)(K:xa)(mg:Str->Option Value)(base:Heap)(k:Nat)(x:Str)(sp:Sp):Prop|mk:∀f fd ps,mg x=ba (.ref f)->km K (.ref f)=da->Binds K fd ps []->Te P w K mg base Ci k f fd ps sp->Aa P w K mg base k x sp
theorem Gf.has{x:Str}{st:za}{f:Addr}{a:qb}{sp:Sp}(G:Gf K mg x st ps f a)(h:Te P w K mg base Ci k f a ps sp):
  Aa P w K mg base k x sp:=⟨f,a,ps,G.mg,G.fn.kp,G.bd,h⟩
theorem Lc:1<=sizeLine:=by decide
theorem GF.go{x:Str}{st:za}{N:List Str}{sp:Sp}(G:GF K mg x st ps)(h:∀(f:Addr)(cdv:Value)(A:bb)(outer:List va)(s:ja)(H:Hp)(vs:List V)(Q:VK)(E:XK),N.Nodup->Ad k (A.deeper (Sf x (Qc st) s.heap.objs.size f cdv))->
  let X:=(ai Ci P w K mg base N x (Qc st) f cdv A outer s H E).qt;let D:Ends:={nx:=λ_ H'=>Q .Tb H',rt:=Q};sp vs H Q E->∃t,yh X (Uj st) t/\t D (start N vs) H)
  (S:autoParam (Vk N ps (Qc st)) ZQ6._auto_1)(l:autoParam (∀vs H Q E,sp vs H Q E->vs.length=ps.length) ZQ7._auto_1):Aa P w K mg base (k+1) x sp:=by
 obtain⟨f,m,G⟩:=G;exact G.has (G.fn.ok S l λa b c d e g i j r z=>h f a b c d e g i j S.nd r z)
end Tl
namespace L2
theorem Xj.go{x l:Str}{st:za}{f:Addr}{m:qb}{N:List Str}{sp:Sp}(F:Xj K x l st f m)(h:∀(cdv:Value)(A:bb)(outer:List va)(s:ja)(H:Hp)(vs:List V)(Q:VK)(E:XK),N.Nodup->Ad k (A.deeper (Sf l (Qc st) s.heap.objs.size f cdv))->
  let X:=(ai Ci P w K mg base N l (Qc st) f cdv A outer s H E).qt;let D:Ends:={nx:=λ_ H'=>Q .Tb H',rt:=Q};sp vs H Q E->∃t,yh X (Uj st) t/\t D (start N vs) H)
  (S:autoParam (Vk N ps (Qc st)) ZQ6._auto_1)(n:autoParam (∀vs H Q E,sp vs H Q E->vs.length=ps.length) ZQ7._auto_1):Te P w K mg base Ci (k+1) f m ps sp:=F.ok S n λa b c d e g i j r z=>h a b c d e g i j S.nd r z
end L2
namespace Tl
theorem Ya{j:Nat}{x:Str}{sp:Sp}{p pos:La}{es:List ua}{t:TA}(h:Aa X.prog X.w X.K X.mg X.base k x sp)(a:Ad j X.A)(b:PA X (e::es) t)(c:k<=j:=by first|decide|omega)(d:autoParam (Gl X x) ZQ0._auto_1)
  (g:autoParam ((x==("__debug__":Str))=ma) ZQ1._auto_1) (i:autoParam (Jc (e::es) X.env=(ma,Ic e X.env)::Jc es X.env) ZQ0._auto_1) (l:autoParam ((Ye pos (Jc es X.env)).any (·.1)=ma) ZQ0._auto_1):
  PE X (.Call (.Name x p) (e::es) [] pos) (me sp [] E0 t):=by
 obtain⟨f,m,n,o,q,r,s⟩:=h;exact AQ s (a.mono c) d o q r .nil nz b g i l
noncomputable def top(i:Nat):za:=PySem.Challenge.pw_treelabels_s01_answers.main.body.getD i (.Pass ⟨0,0,0,0⟩)
def Pb(H0:Hp)(t:TT)(σ:L2.St)(c:Bool):Prop:=∀H Q,ka H0 H->(∀H',ka H0 H'->Q c H')->t σ H Q
theorem Pb.or{H0:Hp}{t u:TT}{c d:Bool}(h:Pb H0 t σ c)(h':c=ma->Pb H0 u σ d):Pb H0 (sv t u) σ (c||d):=λH Q s q=>by
 refine h H _ s λa b=>?_;cases c with
 |true=>exact wg (q a b)
 |false=>exact bj (h' rfl a Q b q)
theorem Pb.and{H0:Hp}{t u:TT}{c d:Bool}(h:Pb H0 t σ c)(h':c=da->Pb H0 u σ d):Pb H0 (xw t u) σ (c&&d):=λH Q s q=>by
 refine h H _ s λa b=>?_;cases c with
 |true=>exact wg (h' rfl a Q b q)
 |false=>exact bj (q a b)
theorem Pb.not{H0:Hp}{t:TT}{c:Bool}(h:Pb H0 t σ c):Pb H0 (Ol t) σ (!c):=λH Q s q=>h H _ s q
theorem Zb{H0:Hp}{a:TT}{t u r:TS}{D:Ends}{c:Bool}(h:Pb H0 a σ c)(s:ka H0 H)(k:∀H',ka H0 H'->if c=da then t {D with nx:=r D} σ H' else u {D with nx:=r D} σ H'):yo (Jm a t u) r D σ H:=h H _ s k
theorem Fz{H0:Hp}{a:TT}{t u:TS}{D:Ends}{c:Bool}(h:Pb H0 a σ c)(s:ka H0 H)(k:∀H',ka H0 H'->if c=da then t D σ H' else u D σ H'):Jm a t u D σ H:=h H _ s k
theorem Ts{H0:Hp}{a b n:Int}(c:σ[i]?=ba (ba (.int n))):
  Pb H0 (Ed (aA (pf λi j=> .bl (decide (i<=j))) (pf λi j=> .bl (decide (i<=j))) (tC (.int a)) (Ua i) (tC (.int b)))) σ (decide (a<=n)&&decide (n<=b)):=λH Q s q=>by
 refine{_,c,_,_,rfl,rfl,_,rfl,?_};cases h:decide (a<=n) with
 |true=>exact wg {_,_,rfl,rfl,_,rfl,by rw[h] at q;simpa using q H s}
 |false=>exact bj {_,rfl,by rw[h] at q;simpa using q H s}
theorem vJ(a b:Nat):(((a:Nat):Int)==(b:Int))=(a==b):=by
 by_cases h:a=b
 .subst h;simp
 .have:¬((a:Nat):Int)=(b:Int):=λq=>h (UB q);rw[lp this,lp h]
theorem aB(c:Nat):∀t:Text,gh (.int (c:Int)) (txt t)=t.contains c
 |[]=>rfl
 |x::t=>by
  have a:=aB c t;show((((x:Nat):Int)==(c:Int))||gh (.int (c:Int)) (txt t))=_;rw[a,VR,vJ]
  congr 1
  by_cases h:x=c
  .subst h;simp
  .rw[lp h,lp (Gc h)]
theorem y3(c:Nat):gh (.int (c:Int)) [.int 45,.int 46,.int 95]=[45,46,95].contains c:=aB c [45,46,95]
structure qo(J:It)(n:Nat)(G:Hp->Prop)(R:Nat->V->Hp->Prop):Prop where
 go:∀i H,i< n->G H->J.go i H
 yl:∀i H x H',i< n->G H->J.Gj i H x H'->H'=H/\R i x H
 st:∀H,G H->J.stop n H
theorem Wg(xs:List V):qo (bD K a) xs.length (λH=>Ia K H a xs) (λi x _=>xs[i]?=ba x):=
 {λi H b h=>{xs,xs[i],h,Wd b},λi H x c b h y=>{y.1,y.2 xs h},λH h=>{xs,h,rb _}}
theorem bx(xs:List V):qo (XF K a) xs.length (λH=>Ba K H a xs) (λi x _=>xs[i]?=ba x):=
 {λi H b h=>{xs,xs[i],h,Wd b},λi H x c b h y=>{y.1,y.2 xs h},λH h=>{xs,h,rb _}}
theorem qx{o:Obj}(a:List (List Key×V)):qo (hE d o a) a.length (λH=>H d=ba (.qc o (.dT a))) (λi x H=>∃k v q,a[i]?=ba (k,v)/\x= .ref q/\H q=ba (.tup (k.map kV))):=
 {λi H b h=>⟨h,b⟩,λi H x c b h y=>{y.1,by rw[y.1] at y;exact y.2},λH h=>{h,rb _}}
def Fe(H H':Hp):Prop:=∀b xs,H b=ba (.tup xs)->H' b=ba (.tup xs)
theorem ka.Xa{a:Hp}(s:ka H a):Fe H a:=λb c h=>s b _ h
theorem Wl{D:Addr}{xs:List V}{o:HO}(h:H D=ba (.lst xs)):Fe H (upd H D o):=λb a e=>by
 rw[Ja (Vb e h)];exact e
theorem sk{J:It}{n:Nat}{G:Hp->Prop}{R:Nat->V->Hp->Prop}(F:qo J n G R){g:TG}{tb:TS}{D:Ends}(a:Nat->L2.St->Hp->Prop)(b:a 0 σ H)(c:∀i σ H,i<=n->a i σ H->G H)
  (d:∀i x σ H,i< n->R i x H->a i σ H->g x σ H λf H2=>tb {D with nx:=a (i+1),ct:=a (i+1),bk:=D.nx} f H2) (hd:∀σ H,a n σ H->D.nx σ H):
  ∃W:Nat->Nat->L2.St->Hp->Prop,(∃m,W 0 m σ H)/\∀i m σ H,W i m σ H->
   (J.stop i H/\D.nx σ H)\/(J.go i H/\∃N:L2.St->Hp->Prop,(∀h H',N h H'->∃j,j< m/\W (i+1) j h H')/\∀x H',J.Gj i H x H'->g x σ H' λf H2=>tb {D with nx:=N,ct:=N,bk:=D.nx} f H2):=by
 refine{λi m σ H=>m=n - i/\i<=n/\a i σ H,{n,by simp,Pd _,b},?_};rintro i m σ H ⟨rfl,k,p⟩;have q:=c i σ H k p;by_cases l:i< n
 .refine .inr {F.go i H l q,a (i+1),λh H' o=>{n - (i+1),by omega,rfl,l,o},λx H' y=>?_};obtain⟨e,r⟩:=F.yl i H x H' l q y;subst e;exact d i x σ _ l r p
 .have e:i=n:=by omega
  subst e;exact .inl {F.st H q,hd σ H p}
theorem dP{J:It}{n:Nat}{G:Hp->Prop}{R:Nat->V->Hp->Prop}(F:qo J n G R){tt:TT}{a:TE}{j:Nat}{D:Addr}{c:Hp->Prop}(A:Nat->List V->Hp->Prop)
  (d:∀H',ka H H'->G H') (f:H D=ia) (hz:n< sizeLine) (hw:∀v,wipe ((wipe σ [j]).set j (ba v)) [j]=wipe σ [j]) (a0:A 0 [] H)
  (g:∀i acc H1 H2,Fe H1 H2->A i acc H1->A i acc H2) (h:∀i acc H',A i acc H'->acc.length<=i)
  (k:∀i x acc H',i< n->R i x H'->ka H H'->A i acc H'->∀(l:Hp->Prop)(o:VK),(∀p,ka H' p->A (i+1) acc p->l p)->(∀y s,ka H' s->A (i+1) (acc++[y]) s->o y s)->
   tt ((wipe σ [j]).set j (ba x)) H' λb p=>if b=da then a ((wipe σ [j]).set j (ba x)) p o else l p)
  (hd:∀acc H',ka H H'->H' D=ba (.lst acc)->A n acc H'->c H'):
  ∃W:Nat->Nat->Hp->Prop,(∃m,W 0 m (upd H D (.lst [])))/\∀i m H,W i m H->
   (J.stop i H/\c H)\/(J.go i H/\∃t:Hp->Prop,(∀H',t H'->∃u,u< m/\W (i+1) u H')/\∀x H',J.Gj i H x H'->Le j x (wipe σ [j]) H' λw H2=>wipe w [j]=wipe σ [j]/\tt w H2 λb p=>
    if b=da then a w p λy s=>∃acc,s D=ba (.lst acc)/\acc.length< sizeLine/\t (upd s D (.lst (acc++[y]))) else t p):=by
 let z:Nat->Hp->Prop:=λi H'=>ka H H'/\∃acc,H' D=ba (.lst acc)/\A i acc H'
 refine{λi m H'=>m=n - i/\i<=n/\z i H',{n,by simp,Pd _,Qa f,[],wa,g _ _ _ _ (ka.Xa (Qa f)) a0},?_};rintro i m H1 ⟨rfl,B,C,acc,E,I⟩;have q:=d H1 C;by_cases K:i< n
 .refine .inr {F.go i H1 K q,z (i+1),λH' L=>{n - (i+1),by omega,rfl,K,L},λx H' y=>?_};obtain⟨e,r⟩:=F.yl i H1 x H' K q y;subst e;refine{hw x,k i x acc _ K r C I _ _ (λp M N=>?_) (λy s O P=>?_)}
  .exact{C.trans M,acc,M _ _ E,N}
  .have Q:=O _ _ E;exact{acc,Q,Qi (h i acc _ I) (by omega),Zg (C.trans O) f,_,wa,g _ _ _ _ (Wl Q) P}
 .have e:i=n:=by omega
  subst e;exact .inl {F.st H1 q,hd acc H1 C E I}
theorem eo{J:It}{n:Nat}{G:Hp->Prop}{R:Nat->V->Hp->Prop}(F:qo J n G R){a:TE}{j:Nat}{D:Addr}{c:Hp->Prop}(out:List V)(d:out.length=n)
  (e:∀H',ka H H'->G H') (f:H D=ia) (hz:n< sizeLine) (hw:∀v,wipe ((wipe σ [j]).set j (ba v)) [j]=wipe σ [j])
  (g:∀i x y H',i< n->out[i]?=ba y->R i x H'->ka H H'->∀(k:VK),(∀l,ka H' l->k y l)->a ((wipe σ [j]).set j (ba x)) H' k)
  (hd:∀H',ka H H'->H' D=ba (.lst out)->c H'):
  ∃W:Nat->Nat->Hp->Prop,(∃m,W 0 m (upd H D (.lst [])))/\∀i m H,W i m H->
   (J.stop i H/\c H)\/(J.go i H/\∃o:Hp->Prop,(∀H',o H'->∃p,p< m/\W (i+1) p H')/\∀x H',J.Gj i H x H'->Le j x (wipe σ [j]) H' λq H2=>wipe q [j]=wipe σ [j]/\so q H2 λb s=>
    if b=da then a q s λy l=>∃acc,l D=ba (.lst acc)/\acc.length< sizeLine/\o (upd l D (.lst (acc++[y]))) else o s):=by
 refine dP F (λi acc _=>acc=out.take i) e f hz hw (by simp) (λi acc _ _ _ h=>h) (λi acc _ h=>by rw[h,rd];omega) (λi x acc H' t r u w z k A B=>?_) (λacc H' u C w=>?_)
 .have E:out[i]?=ba out[i]:=Wd (by omega);show if da=da then a ((wipe σ [j]).set j (ba x)) H' k else z H'
  refine wg (g i x _ H' t E r u k λl I=>B _ l I ?_);rw[w,ni,E];rfl
 .rw[w,<-d,Cg] at C;exact hd H' u C
abbrev Wb(H:Hp)(ps:List Addr)(ts:List Text):Prop:=Paired (λp t=>H p=ba (.tup (txt t))) ps ts
theorem Wb.Xa{a:Hp}{ps:List Addr}(h:Wb H ps ts)(s:Fe H a):Wb a ps ts:=Paired.wh h λ_ _ q=>s _ _ q
theorem Wb.len{ps:List Addr}(h:Wb H ps ts):ps.length=ts.length:=bf h
theorem Wb.snoc:∀{ps:List Addr}{ts:List Text}{p:Addr}{t:Text},Wb H ps ts->H p=ba (.tup (txt t))->Wb H (ps++[p]) (ts++[t])
 |_,_,_,_,.nil,h=> .cons h .nil
 |_,_,_,_,.cons a r,h=> .cons a (Wb.snoc r h)
theorem Wb.get:∀{ps:List Addr}{ts:List Text}{i:Nat}{p:Addr},Wb H ps ts->ps[i]?=ba p->∃t,ts[i]?=ba t/\H p=ba (.tup (txt t))
 |_,_,_,_,.nil,h=>by simp at h
 |_,_,0,_,.cons a r,h=>by simp at h;subst h;exact{_,rfl,a}
 |_,_,i+1,_,.cons a r,h=>Wb.get (i:=i) r h
theorem tz{H0:Hp}{g:Int->Int->Bool}{t:Text}{n:Int}(b:σ[i]?=ba (ba (.ref a)))(c:H0 a=ba (.tup (txt t))):
  Pb H0 (Ed (Vc (pf λi j=> .bl (g i j)) (qh (λxs H Q=>∃p ys,xs=[V.ref p]/\(Ia K H p ys\/Ba K H p ys)/\Q (.int ys.length) H) (Kb (Ua i) Xb)) (tC (.int n)))) σ (g (t.length:Int) n):=λH Q s q=>by
 refine{_,b,a,_,rfl,.inr (Ba.of (s _ _ c)),_,_,rfl,rfl,_,rfl,?_};rw[gc];exact q H s
theorem Ww{H0:Hp}{t:Text}{b:TA}(u:Text)(c:σ[i]?=ba (ba (.ref a)))(d:H0 a=ba (.tup (txt t)))(e:∀H Q,Q (txt u) H->b σ H Q)(f:autoParam (u.length<=1000) ZQ1._auto_1):
  Pb H0 (Ed (Vc (Vm K) (Ua i) (Kp b))) σ (decide (t=u)):=λH Q s q=>by
 refine{_,c,e H _ {?_,λp g=>{a,p,t,u,rfl,rfl,Rn (Qa g) (Ba.of (s _ _ d)),Ba.of wa,_,rfl,q _ (Zg s (s.free g))}}};rw[gc];exact Ag (Jd f)
theorem GV{H0:Hp}{t:Text}{b:TA}(u:Text)(c:σ[i]?=ba (ba (.ref a)))(d:H0 a=ba (.tup (txt t)))(e:∀H Q,Q (txt u) H->b σ H Q)(f:autoParam (u.length<=1000) ZQ1._auto_1):
  Pb H0 (Ed (Vc (Ip K) (Ua i) (Kp b))) σ (!decide (t=u)):=λH Q s q=>by
 refine{_,c,e H _ {?_,λp g=>{a,p,t,u,rfl,rfl,Rn (Qa g) (Ba.of (s _ _ d)),Ba.of wa,_,rfl,q _ (Zg s (s.free g))}}};rw[gc];exact Ag (Jd f)
end Tl
namespace HT
theorem cq{a b:Addr}{its:Array Value}{y:Value}(c:s.heap.IsTupleIter a b k)(d:s.heap.IsTuple b its)(e:its[k]?=ba y)
  (f:∀h',h'.IsTupleIter a b (k+1)->Nh a s.heap h'->Q y {s with heap:=h'}):ra (Ea prog w) A (ql (.ref a)) Q E s:=by
 obtain⟨g,h,i,j⟩:=id c;obtain⟨l,m,_,n,o⟩:=d;unfold ql;refine wpAny_bind (qm (name:=uf "__next__") c.typeIs jH (Rg jH c.typeIs T_ ?_ (U_ _)));show ra _ _ (qp (.ref a) 0>>=_) _ _ s;refine wpAny_bind (Ni h j (x:= .ref b) rfl ?_);show ra _ _ (if(Bb b==Kh)=da then _ else _) _ _ s;rw[oa (show¬((Bb b==Kh)=da) from se)];show ra _ _ (qp (.ref a) 1>>=_) _ _ s;refine wpAny_bind (Ni h j (x:= .int k 0) rfl ?_);show ra _ _ (ny (.ref b)>>=_) _ _ s;refine wpAny_bind (xj m o ?_);simp only[bu,e];refine wpAny_bind (nu h j (by simp) (wpAny_pure {y,rfl,wpAny_pure (f _ ?_ (br ..))}));exact{_,ou _ h (eH (Zx j _)),(F_ ..).trans i,by rw[Zx j];simp[Qg]}
theorem Ax{b c:Addr}{its:Array Value}(d:A.handled=ia)(f:s.heap.IsTupleIter b c k)(g:s.heap.IsTuple c its)(h:its[k]?=ia)
  (i:∀h' e,QR b s.heap h'->(∃o,h'.get? e=ba o/\o.cls= .type "StopIteration")->E (.ref e) {s with heap:=h'}):ra (Ea prog w) A (ql (.ref b)) Q E s:=by
 obtain⟨j,l,n,p⟩:=id f;obtain⟨q,r,_,t,u⟩:=g;unfold ql;refine wpAny_bind (qm (name:=uf "__next__") f.typeIs jH (Rg jH f.typeIs T_ ?_ (U_ _)));show ra _ _ (qp (.ref b) 0>>=_) _ _ s;refine wpAny_bind (Ni l p (x:= .ref c) rfl ?_);show ra _ _ (if(Bb c==Kh)=da then _ else _) _ _ s;rw[oa (show¬((Bb c==Kh)=da) from se)];show ra _ _ (qp (.ref b) 1>>=_) _ _ s;refine wpAny_bind (Ni l p (x:= .int k 0) rfl ?_);show ra _ _ (ny (.ref c)>>=_) _ _ s;refine wpAny_bind (xj r u ?_);simp only[bu,h];refine wpAny_bind (fy (wpAny_bind (nu l p (by simp) ?_)));show ra _ _ (ay (.type "StopIteration") []>>=_) _ _ _;refine wpAny_bind ?_;simp only[ay,RR];refine wpAny_bind (wpAny_newObj_type ?_ (by size_fits));refine wpAny_bind (m:=cy _ _) (PB (a:=Kh) (by first|rfl|(simp only[cy];rfl)) ?_);refine wpAny_newObj_type ?_ (by size_fits);simp only[raiseNew];refine wpAny_bind (wpAny_handled ?_)
 first|rw[show A.in1.handled=ia from d] |rw[d]
 exact wpAny_bind (wpAny_pure (wpAny_throw (i _ _ (((br ..).extBut.push _).push _) {_,Uc _ rfl,rfl})))
theorem zJ(a:A.handled=ia)(b c:Addr)(d:c≠b)(its:Array Value):
  Draws prog w A b [b,c] its.size (λk v=>its[k]?=ba v) (λk h=>h.IsTupleIter b c k/\h.IsTuple c its) where
 live:=λ_ _ e=>let⟨o,f,_⟩:=e.1;⟨o,f⟩
 frame:=λ_ _ _ e g=>{by obtain⟨o,f,r⟩:=e.1;exact{o,g b (by simp) o f,r},by obtain⟨o,f,r⟩:=e.2;exact{o,g c (by simp) o f,r}}
 item:=λk s Q E g e i=>by
  refine cq e.1 e.2 (y:=its[k]) (by simp[g]) λj l m=>?_;exact i _ j s.toks (by simp[g]) {l,by obtain⟨o,f,r⟩:=e.2;exact{o,m.extBut c o d f,r}} m
 done:=λs Q E e n=>Ax a e.1 e.2 (by simp) n
open AutoSeq1 (wpAny_loadPart') in
theorem P4(l:Addr)(a:Array Value)(n:Nat)(b:Option Addr)(e:Array (Option Value)):
  IB (Builtin.«enumerate.__new__» ⟨[.type "enumerate",.ref l],[]⟩) (λ_ R s=>s.heap.get? l=ba {cls:= .type "tuple",dict:=b,data:= .seq a n,slots:=e}/\
   R (.ok (.ret (.ref (s.heap.push {cls:= .type "tuple_iterator",data:= .fields #[.ref l,.int 0 0]}).objs.size)))
    {s with heap:=(s.heap.push {cls:= .type "tuple_iterator",data:= .fields #[.ref l,.int 0 0]}).push {cls:= .type "enumerate",data:= .fields #[.none,.bool ma,.ref s.heap.objs.size,Qg 0,.none,.none]}}):=
 .of_wp λf w A R s h=>by
  obtain⟨i,g,d,j,k⟩:=s;obtain⟨m,h⟩:=h;have o:=sub_enumerate;have p:WR (Shared.heap ⟨i,g,d,j,k⟩) l a:={_,m,rfl,n,rfl}
  wp_walk using Sq m
  refine wpAny_stack_any λq=>wpAny_pure ?_;split
  .rename_i c _ _ _ _ _
   cases(c==ck "enumerate")<;>(wp_walk using Sq m,uB p;exact{_,rfl,h})
  .wp_walk using Sq m,uB p
   exact{_,rfl,h}
theorem V8{l:Addr}{a:Array Value}(d:qj s.heap l a)
  (h:∀h',YR h' (s.heap.objs.size+1) s.heap.objs.size 0 .none->h'.IsTupleIter s.heap.objs.size l 0->(∀b o,s.heap.get? b=ba o->h'.get? b=ba o)->Q (.ref (s.heap.objs.size+1)) {s with heap:=h'}):
  ra (Ea prog w) A (call (.type "enumerate") [.ref l]) Q E s:=by
 obtain⟨⟨c,e,f,g⟩,i,j,n,hd⟩:=d;simp only at j hd;subst j hd;refine V_ F.called_enumerate (by decide) (F.typeCall_enumerate_1 _) (F.newCall_enumerate_1 _) (λk=>F.args_object_init_2 k _) F.entry_enumerate_new (P4 l a n e g) {i,?_};have m:(s.heap.push {cls:= .type "tuple_iterator",data:= .fields #[.ref l,.int 0 0]}).objs.size=s.heap.objs.size+1:=lh ..;show _/\_;rw[m];have p:YR ((s.heap.push {cls:= .type "tuple_iterator",data:= .fields #[.ref l,.int 0 0]}).push {cls:= .type "enumerate",data:= .fields #[.none,.bool ma,.ref s.heap.objs.size,Qg 0,.none,.none]}) (s.heap.objs.size+1) s.heap.objs.size 0 .none:=by
  have q:=Uc (s.heap.push {cls:= .type "tuple_iterator",data:= .fields #[.ref l,.int 0 0]}) (o:={cls:= .type "enumerate",data:= .fields #[.none,.bool ma,.ref s.heap.objs.size,Qg 0,.none,.none]}) rfl;rw[m] at q;exact q
 exact{{_,p,rfl},h _ p {_,Qb _ (Uc _ rfl),rfl,rfl} λb o x=>Qb _ (Qb _ x)}
end HT
namespace L2
def ax(K:xa)(a:Addr):It:=
 ⟨λi H=>∃(xs:List V)(x:V),Ba K H a xs/\xs[i]?=ba x,λi H v H'=>∃T x,v= .ref T/\H T=ia/\H'=upd H T (.tup [.int (i:Nat),x])/\∀xs,Ba K H a xs->xs[i]?=ba x,λi H=>∃xs:List V,Ba K H a xs/\xs.length=i⟩
theorem n0{c:List ua}{kk:Nat}{d:La}(a e f:Addr)(g:e≠f)(j:a≠f)(l:a≠e):
  Turn P w K (.Tuple c kk d) (ax K a) [e,f] e (λi h=>(∃m,YR h e f ((i:Nat):Int) m)/\h.IsTupleIter f a i) where
 mem:=by simp
 obj:=λi h n b t=>by
  obtain⟨⟨m,y⟩,⟨o,B,C,hd⟩⟩:=n;have D:b=e\/b=f:=by simpa using t
  rcases D with z|z
  .rw[z];exact{_,y,λv q=>nomatch q}
  .rw[z];exact{o,B,λv q=>by rw[hd] at q;cases q}
 keep:=λi h F n k=>by
  obtain⟨⟨m,y⟩,⟨o,B,r⟩⟩:=n;exact{{m,k e (by simp) _ y},o,k f (by simp) o B,r}
 item:=by
  intro X G J L C i M s σ H E I hf n N;subst G J L;obtain⟨⟨m,y⟩,O⟩:=n;obtain⟨xs,x,R,hx⟩:=N;obtain⟨S,rv,p,hz⟩:=I.tuple R;obtain⟨u,hu,ru⟩:=rv.get hx;have T:e< s.heap.objs.size:=cc y;have hil:f< s.heap.objs.size:=by obtain⟨_,q,_⟩:=O;exact cc q
  have hal:a< s.heap.objs.size:=p.lt;have U:i< S.toArray.size:=by
   have:=(Cf.mp hu).1;simpa using this
  refine wpAny_pyNext_enum_itemD (HT.zJ (A:=X.A.in1) (I.ok.hd C) f a j S.toArray) y ⟨O,p⟩ U g (by simp[g,Gc l]) λV F W hp B st' hT hsz hk=>?_;have ex:V=u:=by
   rw[show S.toArray[i]?=S[i]? by simp,hu] at hp;exact(Dd hp).symm
  subst ex;refine{_,rfl,wpAny_letOwnedTupleGo_enum (s:={s with heap:=F,toks:=W+1}) B λY he' sb=>?_};have Z:Y.get? s.heap.objs.size=ba {cls:= .type "tuple",data:= .seq #[.int i W,V]}:=(sb.2 _ (fm T)).trans hT;have new:Cd X.prog X.w (upd H s.heap.objs.size (.tup [.int (i:Nat),x])) Y s.heap.objs.size (.tup [.int (i:Nat),x]):=
   {by show 2<=sizeLine;decide,[.int i W,V],.cons {_,rfl} (.cons ru .nil),{_,Z,rfl,_,rfl},_,Z,rfl}
  have I1:Inv X M σ (upd H s.heap.objs.size (.tup [.int (i:Nat),x])) {s with heap:=Y,toks:=W+1}:=
   I.RE (ch:=[e,f]) (λb ob t q=>(sb.2 b (λz=>t (by simp[z]))).trans (hk b ob (λz=>t (by simp[z])) (λz=>t (by simp[z])) q)) hf (rb _) new
  refine{.ref s.heap.objs.size,_,I1,rfl,{_,x,rfl,I.vb.fresh (rb _),rfl,λys hy=>by rw[I.DA hy R];exact hx},{{V,?_},?_},λb t=>?_}
  .have e1:((i+1:Nat):Int)=(i:Int)+1:=by omega
   rw[e1];exact he'
  .obtain⟨o2,ho2,r2⟩:=st'.1;exact{o2,(sb.2 f (Gc g)).trans ho2,r2}
  .have hb':b< s.heap.objs.size:=by
    have D:b=e\/b=f:=by simpa using t
    rcases D with z|z
    .rw[z];exact T
    .rw[z];exact hil
   rw[Ja (Kd hb')];exact(hf b t).1
 done:=by
  intro X G J L C i M s σ H E I hf n N;subst G J L;obtain⟨⟨m,y⟩,O⟩:=n;obtain⟨xs,R,hx⟩:=N;obtain⟨S,rv,p,hz⟩:=I.tuple R;obtain⟨f0,f1,f2,f3,f4,f5⟩:=hf f (by simp);have hl:=rv.length;have hn:i=S.toArray.size:=by simp;omega
  subst hn;exact wpAny_pyNext_enum_endD (HT.zJ (A:=X.A.in1) (I.ok.hd C) f a j S.toArray) y ⟨O,p⟩ λF eb=>{rfl,I.turned (t':=s.toks) (λb o t q=>eb b o t q) f0 f1 f3 f4 f5}
 self:=λA i s Q E n h=>let⟨⟨_,y⟩,_⟩:=n;W_ y h
def z0(K:xa)(ta:TA):TI:=λσ H R=>ta σ H λvs H1=>∃a xs,vs=[.ref a]/\Ba K H1 a xs/\R (ax K a) H1
theorem UN{c:TA}{p pos d:La}{f:List ua}{g:Nat}(i:Gl X "enumerate")(j:X.mg "enumerate"=ia)(k:PA X [e] c)(l:autoParam (Jc [e] X.env=[(ma,Ic e X.env)]) ZQ0._auto_1):
  PI X (.Tuple f g d) (.Call (.Name "enumerate" p) [e] [] pos) (z0 X.K c):=by
 intro m s n H R I h;refine Call_ (xq I i j boot_enumerate (LG (Gb (k pos m s n H _ I h) λo t ⟨vs,H1,I1,r1,q1⟩=>?_) l rfl));obtain⟨a,u,v,w,q⟩:=q1;subst v;cases r1 with
 |cons r x=>
  cases x;cases r;obtain⟨y,A,B,C⟩:=I1.tuple w;have D:a< t.heap.objs.size:=B.lt;refine HT.V8 B λE F G J=>W_ F ?_;have K:Inv X m n H1 {t with heap:=E}:=I1.kept (t':=t.toks) J;refine{t.heap.objs.size+1,[t.heap.objs.size+1,t.heap.objs.size],_,_,H1,rfl,K,n0 a (t.heap.objs.size+1) t.heap.objs.size (Nat.succ_ne_self _) (Kd D) (Kd (Wq D)),{{.none,F},G},λb L=>?_,q};have M:b=t.heap.objs.size+1\/b=t.heap.objs.size:=by simpa using L
  have N:t.heap.objs.size<=b:=by
   rcases M with z|z
   .rw[z];exact Zo _ _
   .rw[z];exact rb _
  exact I1.Xp N (I1.vb.fresh N)
theorem kQ{xs:List V}{p q:Nat}{tb:TS}{D:Ends}(b:Nat->L2.St->Hp->Prop)(c:b 0 σ H)(d:∀i σ H,i<=xs.length->b i σ H->Ba K H a xs)
  (f:∀i x σ H T,xs[i]?=ba x->b i σ H->H T=ia->tb {D with nx:=b (i+1),ct:=b (i+1),bk:=D.nx} ((σ.set p (ba (.int (i:Nat)))).set q (ba x)) (upd H T (.tup [.int (i:Nat),x])))
  (hd:∀σ H,b xs.length σ H->D.nx σ H):
  ∃W:Nat->Nat->L2.St->Hp->Prop,(∃m,W 0 m σ H)/\∀i m σ H,W i m σ H->
   ((ax K a).stop i H/\D.nx σ H)\/((ax K a).go i H/\∃N:L2.St->Hp->Prop,(∀g H',N g H'->∃h,h< m/\W (i+1) h g H')/\∀x H',(ax K a).Gj i H x H'->rA K 2 (Ht (Le p) (Ht (Le q) FF)) x σ H' λj H2=>tb {D with nx:=N,ct:=N,bk:=D.nx} j H2):=by
 refine{λi m σ H=>m=xs.length - i/\i<=xs.length/\b i σ H,{xs.length,by simp,Pd _,c},?_};rintro i m σ H ⟨rfl,k,pv⟩;have l:=d i σ H k pv;by_cases n:i< xs.length
 .refine .inr {{xs,xs[i],l,Wd n},b (i+1),λg H' o=>{xs.length - (i+1),by omega,rfl,n,o},λv H' y=>?_};obtain⟨T,x,rfl,r,rfl,s⟩:=y;exact{T,_,rfl,Ba.of wa,rfl,_,_,rfl,_,_,rfl,rfl,f i x σ H T (s xs l) pv r}
 .have e:i=xs.length:=by omega
  subst e;exact .inl {⟨xs,l,rfl⟩,hd σ H pv}
end L2
namespace Tl
abbrev cD:za:=top 20
abbrev XA:za:=top 21
abbrev vD:za:=top 22
abbrev SF:za:=top 23
abbrev EN:za:=top 24
abbrev xN:za:=top 25
abbrev yO:za:=top 26
abbrev OL:za:=top 27
abbrev DI:za:=top 28
abbrev WL:za:=inClass (top 33) 0
abbrev WM:za:=top 34
abbrev pC:za:=top 35
abbrev RO:za:=top 36
abbrev ZD:za:=top 37
abbrev eG:za:=top 38
abbrev yN:za:=top 39
abbrev bN:za:=top 40
abbrev EE:za:=top 41
abbrev Wy:za:=top 42
abbrev NF:za:=top 50
abbrev yL:za:=top 51
abbrev kN:za:=top 52
abbrev uF:za:=top 53
abbrev EJ:za:=top 54
abbrev PJ:za:=inClass (top 55) 0
abbrev eK:za:=inClass (top 55) 1
abbrev qD:za:=inClass (top 55) 2
abbrev nE:za:=inClass (top 55) 3
abbrev JD:za:=top 56
abbrev MP:za:=top 57
abbrev ZO:za:=top 60
abbrev yP:za:=top 65
abbrev DK:za:=top 66
abbrev YM:za:=top 69
abbrev lN:za:=top 70
abbrev iG:za:=top 71
abbrev MI:za:=top 72
abbrev bF:za:=top 73
abbrev jA:za:=top 79
abbrev oG:za:=top 80
abbrev gJ:za:=top 81
abbrev YD:za:=top 82
abbrev uC:za:=top 83
abbrev uQ:za:=top 84
abbrev uM:za:=top 86
abbrev rM:za:=top 87
abbrev gB:za:=top 88
abbrev dM:za:=inClass (top 91) 0
abbrev NI:za:=top 92
abbrev sL:za:=top 93
abbrev TM:za:=top 94
abbrev KL:za:=top 98
abbrev WK:za:=top 99
abbrev ZI:za:=top 100
abbrev IJ:za:=top 101
abbrev cP:za:=top 102
abbrev VM:za:=top 104
abbrev iJ:za:=top 105
abbrev Bz:za:=top 106
abbrev lJ:za:=top 107
abbrev HN:za:=inClass (top 128) 0
abbrev kP:za:=inClass (top 128) 1
abbrev pN:za:=inClass (top 128) 2
abbrev sN:za:=inClass (top 128) 3
abbrev VJ:za:=top 129
abbrev hP:za:=top 130
abbrev kM:za:=top 131
abbrev SN:za:=top 132
abbrev oP:za:=top 133
abbrev oQ:za:=top 134
abbrev GN:za:=top 135
abbrev Qw:za:=top 136
structure Cs(mg:Str->Option Value):Prop where
 AL:bc mg "DASH" (.int 45)
 Dv:bc mg "DOT" (.int 46)
 SLASH:bc mg "SLASH" (.int 47)
 CL:bc mg "UNDERSCORE" (.int 95)
 HQ:bc mg "MOST_PART_BYTES" (.int 32)
 JN:bc mg "MOST_PARTS" (.int 8)
 NP:bc mg "MOST_PATH_BYTES" (.int 96)
 len:mg "len"=ia
 all:mg "all"=ia
 enumerate:mg "enumerate"=ia
inductive hA(vs:List V)(H:Hp)(Q:VK)(X3:XK):Prop|mk:∀c:Nat,vs=[.int (c:Int)]->(∀H',ka H H'->Q (.bl (ik c)) H')->hA vs H Q X3
theorem IX(G:GF K mg "may_stand_in_part" cD ["byte"])(T:Cs mg):Aa P w K mg base 1 "may_stand_in_part" hA:=by
 refine G.go (N:=["byte"]) ?_;rintro f a A b s H d Q E g h X D ⟨c,rfl,k⟩
 .refine⟨_,Ga (Lb (PW.pt (vh (Ws Sh Sh Sb (pv 0) Sb) (vh (Ws Sh Sh Sb (pv 0) Sb) (ij (Ws Sh Sh Sb (pv 0) Sb))))) (Ca (Oa xi)) Ob)
   (Ca (Oa (oh Zl (pv 0) (Mf (la (Wa T.AL) (la (Wa T.Dv) (la (Wa T.CL) pa)))) (by with_unfolding_all rfl)))),?_⟩
  refine((Ts rfl).or λ_=>(Ts rfl).or λ_=>Ts rfl) H _ (ka.refl H) λi j=>?_;have e:=cF c;unfold dw at e;refine cb (λl=>?_) (λl=>?_)
  .rw[qa (by simp at l⊢;omega)] at e;show Q (.bl da) i;rw[e];exact k i j
  .rw[oa (by simp at l⊢;omega)] at e;refine{_,rfl,(by show 3<=sizeLine;decide),λp m=>{p,_,rfl,.inr (Ba.of wa),rfl,rfl,?_}};have n:gh (.int (c:Int)) [.int 45,.int 46,.int 95]=ik c:=by
    rw[<-e,y3]
   show Q (.bl (gh (.int (c:Int)) [.int 45,.int 46,.int 95])) _;rw[n];exact k _ (Zg j (j.free m))
inductive spT(g:Text->Bool)(vs:List V)(H:Hp)(Q:VK)(X3:XK):Prop|mk:∀a t,vs=[.ref a]->H a=ba (.tup (txt t))->(∀H',ka H H'->Q (.bl (g t)) H')->spT g vs H Q X3
theorem abv{g:Text->Bool}{vs:List V}{Q:VK}{E:XK}(h:spT g vs H Q E):vs.length=1:=by
 obtain⟨a,t,rfl,_⟩:=h;rfl
theorem UM:Vk ["text","byte"] ["text"] (Qc XA):=by k_extra "s"
theorem i6(G:GF K mg "is_part" XA ["text"])(T:Cs mg)(b:Aa P w K mg base 1 "may_stand_in_part" hA):Aa P w K mg base 2 "is_part" (spT Bg):=by
 refine G.go (N:=["text","byte"]) ?_;rintro f d A g s H h Q E j l X D ⟨a,t,rfl,m,k⟩;have n:=l.units;refine⟨_,Ga (Lb (PW.pt (vh (fc Hr (Cc je (by rfl) T.len Sd (la (pv 0) pa)) Sb (Yb _)) (ij (fc Rl (Cc je (by rfl) T.len Sd (la (pv 0) pa)) (Wa T.HQ) (Yb _))))) (Ca (Oa xi)) Ob)
  (Ga (Lb (PW.pt (vh (fc (Ei n) (pv 0) (Mf (la (Wa T.Dv) pa)) (Yb _)) (ij (fc (Ei n) (pv 0) (Mf (la (Wa T.Dv) (la (Wa T.Dv) pa))) (Yb _))))) (Ca (Oa xi)) Ob)
  (Ca (Oa (Cc (Lr rfl) (by rfl) T.all (by rfl) (la (Yh (own:=[("byte",1)]) rfl UM.nd (Yw (pv 0)) (Wf (N:=["text","byte"]) (sc:=Qc XA) (by decide+kernel)) (λ_ _ _ _ _=>iz (i:=1) UM.nd rfl (rB rfl)) (λ_ _ _ _ _=>nj)
   (λ_ _ _ _ _=>Ya b l (la (pv 1) pa))) pa))))),?_⟩
 have e:=x5 t;refine((tz rfl m).or λ_=>tz rfl m) H _ (ka.refl H) λo p=>?_;refine cb (λr=>?_) (λr=>?_)
 .rw[qa (by simp at r;omega)] at e;show Q (.bl ma) o;rw[<-e];exact k o p
 .rw[oa (by simp at r;omega)] at e;refine((Ww [46] rfl m (λ_ _ q=>q)).or λ_=>Ww [46,46] rfl m (λ_ _ q=>q)) o _ p λu z=>?_;refine cb (λhd=>?_) (λhd=>?_)
  .rw[qa (by simpa using hd)] at e;show Q (.bl ma) u;rw[<-e];exact k u z
  .rw[oa (by simpa using hd)] at e;have B:t.length<=32:=by simp at r;omega
   refine⟨_,rfl,a,rfl,{_,Ba.of (z _ _ m)},λD C=>eo (bx (txt t)) (t.map λc=>V.bl (ik c)) (by rw[Na,gc]) (λF I=>Ba.of (I _ _ (z _ _ m))) C
    (by rw[gc];exact Jd (by omega)) (λv=>rfl) (λi x y F J L M I O R=>?_) (λF I S=>?_)⟩
   .rw[Xk] at M;rw[Ac] at L;cases U:t[i]? with
    |none=>rw[U] at M;cases M
    |some c=>
     rw[U] at M L;cases M;cases L;exact{_,rfl,c,rfl,R}
   .refine{D,t.map ik,rfl,Ia.of (by rw[yd];exact S),?_};have W:(t.map ik).all id=Bg t:=by
     rw[e,tm]
     congr 1
     funext c
     exact(cF c).symm
    rw[W];exact k F (z.trans I)
inductive Mo(vs:List V)(H:Hp)(Q:VK)(X3:XK):Prop|mk:∀a t,vs=[.ref a]->H a=ba (.tup (txt t))->t.length<=100000->(∀H' l ps,ka H H'->H' l=ba (.lst (ps.map V.ref))->Wb H' ps (Za 47 t)->Q (.ref l) H')->Mo vs H Q X3
theorem S3(G:GF K mg "parts_of" vD ["text"])(T:Cs mg):Aa P w K mg base 1 "parts_of" Mo:=by
 refine G.go (N:=["text","parts","start","place","byte"]) ?_;rintro f b A d s H vs Q E nd hr X D ⟨a,t,rfl,e,hz,k⟩;refine⟨_,Ga (nc (i:=1) (ic pa)) (Ga (nc (i:=2) Sb)
  (Ga (Ji qi rfl (UN (by rfl) T.enumerate (la (pv 0) pa)) (lF rfl (Dt (Md (i:=3)) (Dt (Md (i:=4)) mF)))
   (Ca (Lb (fc Zf (pv 4) (Wa T.SLASH) (Yb _))
    (Ga (vi (di Ri xm ym Nk (pv 1) (la (Oe Ff (pv 0) (Ud (pv 2)) (Ud (pv 3))) pa)))
     (Ca (nc (i:=2) (Fc We (pv 3) Sb)))) Ob)))
  (Ga (vi (di Ri xm ym Nk (pv 1) (la (Oe Ff (pv 0) (Ud (pv 2)) Gg) pa)))
   (Ca (Oa (pv 1)))))),?_⟩
 refine{Pd _,λl g=>?_};have h:ka H (upd H l (.lst [])):=Qa g;refine⟨_,rfl,a,_,rfl,Ba.of (h _ _ e),kQ (K:=K) (a:=a) (xs:=txt t) (λi j m=>∃n o r,j=[ba (.ref a),ba (.ref l),ba (.int ((ie 47 t i).2:Nat)),n,o]/\ka H m/\m l=ba (.lst (r.map V.ref))/\Wb m r (ie 47 t i).1)
  {ia,ia,[],rfl,h,wa,.nil} (λi j m _ ⟨_,_,_,_,u,_⟩=>Ba.of (u _ _ e)) ?_ ?_⟩
 .rintro i x j v y z ⟨n,o,r,rfl,u,B,C⟩ F;rw[Xk] at z;cases I:t[i]? with
  |none=>rw[I] at z;cases z
  |some c=>
   rw[I] at z;cases z;have J:i< t.length:=(Cf.mp I).1;have L:ka v (upd v y (.tup [.int (i:Nat),.int (c:Nat)])):=Qa F;have M:=xE 47 t i;have hle:=JE 47 t i;have O:=C.len;refine{_,rfl,rfl,_,rfl,cb (λR=>?_) (λR=>?_)}
   .have S:c=47:=by
     have q:=Qe R;injection q with q;omega
    subst S;refine{_,rfl,.inl {rfl,_,Ia.of (L _ _ B)},_,rfl,_,rfl,_,rfl,_,rfl,_,rfl,a,t,rfl,L _ _ (u _ _ e),λp H2 U W=>{l,_,_,rfl,rfl,U _ _ (L _ _ B),?_,?_}}
    .rw[Na];exact Qi (show r.length<=100000 by omega) (by decide)
    .have Y:=U _ _ (L _ _ B);refine{_,rfl,_,_,rfl,rfl,ba (.int (i:Nat)),ba (.int (47:Nat)),r++[p],?_,Zg (u.trans (L.trans U)) g,by rw[wa,vf];rfl,?_}
     .show _=[ba (V.ref a),ba (V.ref l),ba (V.int ((ie 47 t (i+1)).2:Nat)),_,_];rw[OJ I];rfl
     .rw[OJ I];have Z:cut t (ba ((ie 47 t i).2:Nat)) (ba ((i:Nat):Int))=(t.take i).drop (ie 47 t i).2:=mv t _ i;rw[Z] at W;exact((C.Xa (ka.Xa (L.trans U))).snoc W).Xa (Wl Y)
   .have S:¬t[i]?=ba 47:=λq=>R (by rw[I] at q;injection q with q;subst q;exact Xc rfl);refine{ba (.int (i:Nat)),ba (.int (c:Nat)),r,?_,u.trans L,L _ _ B,?_}
    .show _=[ba (V.ref a),ba (V.ref l),ba (V.int ((ie 47 t (i+1)).2:Nat)),_,_];rw[DQ S];rfl
    .rw[DQ S];exact C.Xa (ka.Xa L)
 .rintro j v ⟨n,o,r,rfl,u,B,C⟩;rw[gc] at*;have M:=xE 47 t t.length;have O:=C.len;refine{_,rfl,.inl {rfl,_,Ia.of B},_,rfl,_,rfl,_,rfl,a,t,rfl,u _ _ e,λp H2 U W=>{l,_,_,rfl,rfl,U _ _ B,?_,?_}}
  .rw[Na];exact Qi (show r.length<=100000 by omega) (by decide)
  .have Y:=U _ _ B;refine{_,rfl,k _ l (r++[p]) (Zg (u.trans U) g) (by rw[wa,vf];rfl) ?_};have Z:cut t (ba ((ie 47 t t.length).2:Nat)) ia=t.drop (ie 47 t t.length).2:=Km t _;rw[Z] at W;rw[eU 47 t];exact((C.Xa (ka.Xa U)).snoc W).Xa (Wl Y)
theorem LW(G:GF K mg "is_path" SF ["text"])(T:Cs mg)(b:Aa P w K mg base 2 "is_part" (spT Bg))(c:Aa P w K mg base 1 "parts_of" Mo):Aa P w K mg base 3 "is_path" (spT gb):=by
 refine G.go (N:=["text","parts","part"]) ?_;rintro f d A g s H vs Q E h j X D ⟨a,t,rfl,m,k⟩;refine⟨_,Ga (Lb (fc Rl (Cc je (by rfl) T.len Sd (la (pv 0) pa)) (Wa T.NP) (Yb _)) (Ca (Oa xi)) Ob)
  (Ga (nc (i:=1) (Ya c j (la (pv 0) pa)))
  (Ca (Oa (lO (oh Sh (Cc je (by rfl) T.len Sd (la (pv 1) pa)) (Wa T.JN) (Yb _))
   (Lm (Cc (Lr rfl) (by rfl) T.all (by rfl) (la (Yh (own:=[("part",2)]) rfl h (Ug (pv 1)) (Wf (N:=["text","parts","part"]) (sc:=Qc SF) (by decide+kernel)) (λ_ _ _ _ _=>Md (i:=2)) (λ_ _ _ _ _=>nj)
    (λ_ _ _ _ _=>Ya b j (la (pv 2) pa))) pa))))))),?_⟩
 have e:=Jw t;refine(tz rfl m) H _ (ka.refl H) λn o=>?_;refine cb (λq=>?_) (λq=>?_)
 .rw[qa (by simp at q;omega)] at e;show Q (.bl ma) n;rw[<-e];exact k n o
 .rw[oa (by simp at q;omega)] at e;have hz:t.length<=96:=by simp at q;omega
  refine{_,rfl,a,t,rfl,o _ _ m,by omega,λr l z B c C=>?_};have F:=C.len;refine{_,rfl,l,_,rfl,.inl (Ia.of c),_,_,rfl,rfl,_,rfl,?_};rw[Na,F];refine cb (λhd=>?_) (λhd=>?_)
  .have I:(Za 47 t).length<=8:=by simp at hd;omega
   rw[Xc I,gr] at e;refine⟨_,rfl,l,rfl,{_,Ia.of c},λD J=>eo (Wg (z.map V.ref)) ((Za 47 t).map λu=>V.bl (Bg u)) (by rw[Na,Na,F]) (λL M=>Ia.of (M _ _ c)) J
    (by rw[Na];exact Jd (by omega)) (λv=>rfl) (λi x y L hi O R M ky S=>?_) (λL M U=>?_)⟩
   .rw[Ac] at R O;cases W:z[i]? with
    |none=>rw[W] at R;cases R
    |some p=>
     obtain⟨u,Y,Z⟩:=Wb.get C W;rw[W] at R;rw[Y] at O;cases R;cases O;exact{_,rfl,p,u,rfl,M _ _ Z,S}
   .refine{D,(Za 47 t).map Bg,rfl,Ia.of (by rw[yd];exact U),?_};rw[tm];show Q (.bl ((Za 47 t).all Bg)) L;rw[<-e];exact k L (o.trans (B.trans M))
  .have I:¬(Za 47 t).length<=8:=by simp at hd;omega
   rw[Rf I,kh] at e;rw[<-e];exact k r (o.trans B)
theorem ZN{t:Text}{b:TA}{Q:VK}(u:Text)(c:σ[i]?=ba (ba (.ref a)))(d:H a=ba (.tup (txt t)))(e:∀H Q,Q (txt u) H->b σ H Q)(q:∀H',ka H H'->Q (.bl (decide (t=u))) H')
  (f:autoParam (u.length<=1000) ZQ1._auto_1):Vc (Vm K) (Ua i) (Kp b) σ H Q:=by
 refine{_,c,e H _ {?_,λp g=>{a,p,t,u,rfl,rfl,Rn (Qa g) (Ba.of d),Ba.of wa,q _ (Qa g)}}};rw[gc];exact Ag (Jd f)
theorem P5(G:GF K mg "is_empty_or_path" EN ["text"])(T:Cs mg)(b:Aa P w K mg base 3 "is_path" (spT gb)):Aa P w K mg base 4 "is_empty_or_path" (spT xf):=by
 refine G.go (N:=["text"]) ?_;rintro f c A d s H g Q E h i X D ⟨a,t,rfl,j,k⟩;have l:=i.units;refine{_,Ca (Oa (fq (oh (Ei l) (pv 0) (Mf pa) (Yb _)) (Lm (Ya b i (la (pv 0) pa))))),?_};refine ZN [] rfl j (λ_ _ q=>q) λm n=>{_,rfl,cb (λo=>?_) (λo=>?_)}
 .have e:t=[]:=Qe o;subst e;exact k m n
 .have e:xf t=gb t:=by
   unfold xf;cases t with
   |nil=>exact absurd (Xc rfl) o
   |cons x r=>rfl
  refine{_,rfl,a,t,rfl,n _ _ j,λp u=>?_};rw[<-e];exact k p (n.trans u)
inductive Sj(g:Text->Text->Bool)(vs:List V)(H:Hp)(Q:VK)(X3:XK):Prop|mk:∀a b t u,vs=[.ref a,.ref b]->H a=ba (.tup (txt t))->H b=ba (.tup (txt u))->u.length<=100000->(∀H',ka H H'->Q (.bl (g t u)) H')->Sj g vs H Q X3
theorem abx{g:Text->Text->Bool}{vs:List V}{Q:VK}{E:XK}(h:Sj g vs H Q E):vs.length=2:=by
 obtain⟨a,b,t,u,rfl,_⟩:=h;rfl
noncomputable def Af(t u:Text):Bool:=decide (t.take (u.length+1)=u++[47])
def qd(t u:Text):Bool:=decide (u=[])||Af t u
theorem oU(G:GF K mg "is_within" xN ["path","above"])(T:Cs mg):Aa P w K mg base 1 "is_within" (Sj Af):=by
 refine G.go (N:=["path","above"]) ?_;rintro f c A d s H e Q E g h X D ⟨a,b,t,u,rfl,i,j,l,k⟩;have m:=h.units;refine{_,Ca (Oa (oh (Ei m) (Oe Ff (pv 0) Gg (Ud (Fc We (Cc je (by rfl) T.len Sd (la (pv 1) pa)) Sb))) (Fc az (pv 1) (Mf (la (Wa T.SLASH) pa))) (Yb _))),?_};refine{_,rfl,_,rfl,b,_,rfl,.inr (Ba.of j),_,_,rfl,rfl,_,rfl,a,t,rfl,i,λp n o v=>?_};refine{_,rfl,Lc,λq x=>{b,q,u,[47],rfl,rfl,Qa x _ _ (o _ _ j),wa,?_,λr y z B=>?_}}
 .exact Bc (show u.length+1<=100001 by omega) (by decide)
 .have C:ka n y:=(Qa x).trans z;refine{p,r,_,_,rfl,rfl,Ba.of (C _ _ v),Ba.of B,?_};have F:cut t ia (ba (((txt u).length:Int)+1))=t.take (u.length+1):=by
   rw[gc];exact Nt t (u.length+1)
  rw[F];exact k y (o.trans C)
theorem ZZ(G:GF K mg "is_in_directory" yO ["path","directory"])(T:Cs mg)(c:Aa P w K mg base 1 "is_within" (Sj Af)):Aa P w K mg base 2 "is_in_directory" (Sj qd):=by
 refine G.go (N:=["path","directory"]) ?_;rintro f d A g s H h Q E i j X D ⟨a,b,t,u,rfl,l,m,n,k⟩;have o:=j.units;refine{_,Ca (Oa (fq (oh (Ei o) (pv 1) (Mf pa) (Yb _)) (Lm (Ya c j (la (pv 0) (la (pv 1) pa)))))),?_};refine ZN [] rfl m (λ_ _ q=>q) λp r=>{_,rfl,cb (λv=>?_) (λv=>?_)}
 .have e:qd t u=da:=by unfold qd;rw[v];rfl
  rw[<-e];exact k p r
 .have e:qd t u=Af t u:=by
   unfold qd;rw[show decide (u=[])=ma by simpa using v];rfl
  refine{_,rfl,_,rfl,a,b,t,u,rfl,r _ _ l,r _ _ m,n,λx y=>?_};rw[<-e];exact k x (r.trans y)
inductive wx(vs:List V)(H:Hp)(Q:VK)(X3:XK):Prop|mk:∀a b t u,vs=[.ref a,.ref b]->H a=ba (.tup (txt t))->H b=ba (.tup (txt u))->(∀H' p,ka H H'->H' p=ba (.tup (txt (Je u t)))->Q (.ref p) H')->wx vs H Q X3
theorem a9(G:GF K mg "behind_directory" OL ["path","directory"])(T:Cs mg):Aa P w K mg base 1 "behind_directory" wx:=by
 refine G.go (N:=["path","directory"]) ?_;rintro f c A d s H g Q E h i X D ⟨a,b,t,u,rfl,j,l,k⟩;have m:=i.units;refine⟨_,Ga (Lb (fc (Ei m) (pv 1) (Mf pa) (Yb _)) (Ca (Oa (pv 0))) Ob)
  (Ca (Oa (Oe Ff (pv 0) (Ud (Fc We (Cc je (by rfl) T.len Sd (la (pv 1) pa)) Sb)) Gg))),?_⟩
 refine(Ww [] rfl l (λ_ _ q=>q)) H _ (ka.refl H) λn o=>cb (λv=>?_) (λv=>?_)
 .have e:u=[]:=Qe v;subst e;exact{_,rfl,k n a o (o _ _ j)}
 .have e:Je u t=t.drop (u.length+1):=by
   unfold Je;cases u with
   |nil=>exact absurd (Xc rfl) v
   |cons x r=>rfl
  refine{_,rfl,_,rfl,b,_,rfl,.inr (Ba.of (o _ _ l)),_,_,rfl,rfl,_,rfl,a,t,rfl,o _ _ j,λp y z B=>k y p (o.trans z) ?_};have C:cut t (ba (((txt u).length:Int)+1)) ia=t.drop (u.length+1):=by
   rw[gc];exact Km t (u.length+1)
  rw[C] at B;rw[e];exact B
section
variable[DecidableEq α]
noncomputable def Zc(c:α):List α->List (List α)
 |[]=>[[]]
 |x::r=>if x=c then []::Zc c r else match Zc c r with
  |[]=>[[x]]
  |y::l=>(x::y)::l
theorem LL(c:α):∀t:List α,Zc c t≠[]
 |[]=>by simp[Zc]
 |x::r=>by
  unfold Zc;by_cases h:x=c
  .rw[qa h];simp
  .rw[oa h];cases e:Zc c r with
   |nil=>simp
   |cons y l=>simp
noncomputable def qe(c:α)(t:List α):Nat->List (List α)×Nat
 |0=>([],0)
 |i+1=>if t[i]?=ba c then((qe c t i).1++[(t.take i).drop (qe c t i).2],i+1) else qe c t i
theorem YN{c:α}{t:List α}(h:t[i]?=ba c):qe c t (i+1)=((qe c t i).1++[(t.take i).drop (qe c t i).2],i+1):=qa h
theorem rP{c:α}{t:List α}(h:¬t[i]?=ba c):qe c t (i+1)=qe c t i:=oa h
theorem ED(c:α)(t:List α):∀i,(qe c t i).2<=i
 |0=>rb _
 |i+1=>by
  unfold qe;split
  .exact rb _
  .exact En (ED c t i)
theorem LC(c:α)(t:List α):∀i,(qe c t i).1.length<=i
 |0=>rb _
 |i+1=>by
  have a:=LC c t i;unfold qe;split
  .rw[wd];show(qe c t i).1.length+1<=i+1;omega
  .omega
theorem EM(c:α):∀(a b:List α),(∀x∈a,x≠c)->Zc c (a++c::b)=a::Zc c b
 |[],b,_=>by simp[Zc]
 |x::a,b,h=>by
  have d:x≠c:=h x (by simp);have e:=EM c a b λy f=>h y (by simp[f]);show Zc c (x::(a++c::b))=_
  conv=>lhs;unfold Zc
  rw[oa d,e]
theorem kK(c:α):∀(a:List α),(∀x∈a,x≠c)->Zc c a=[a]
 |[],_=>rfl
 |x::a,h=>by
  have b:x≠c:=h x (by simp);have d:=kK c a λy e=>h y (by simp[e]);unfold Zc;rw[oa b,d]
theorem zQ(c:α)(t:List α):∀i,i<=t.length->(∀x∈(t.take i).drop (qe c t i).2,x≠c)/\Zc c t=(qe c t i).1++Zc c (t.drop (qe c t i).2)
 |0,_=>by simp[qe]
 |i+1,h=>by
  obtain⟨a,b⟩:=zQ c t i (by omega);have d:=ED c t i;have f:i< t.length:=by omega
  have g:t[i]?=ba t[i]:=Wd f;unfold qe;by_cases j:t[i]?=ba c
  .rw[qa j];have l:t[i]=c:=by rw[g] at j;exact Dd j
   constructor
   .have:(t.take (i+1)).drop (i+1)=[]:=by simp
    rw[this];intro x m;simp at m
   .rw[b,cf]
    congr 1
    have n:t.drop (qe c t i).2=(t.take i).drop (qe c t i).2++c::t.drop (i+1):=by
     have o:t.take i++t[i]::t.drop (i+1)=t:=by
      rw[gy,Ph]
     have p:(t.take i).length=i:=by rw[rd];omega
     generalize(qe c t i).2=k at d
     have q:(t.take i++t[i]::t.drop (i+1)).drop k=(t.take i).drop k++t[i]::t.drop (i+1):=iH (by omega);rw[o,l] at q;exact q
    rw[n,EM c _ _ a];rfl
  .rw[oa j];refine{?_,b};have r:t.take (i+1)=t.take i++[t[i]]:=by rw[ni,g];rfl
   rw[r,iH (by rw[rd];omega)];intro x m;rcases Pe.mp m with m|m
   .exact a x m
   .simp at m;subst m;intro e;exact j (by rw[g,e])
theorem cV(c:α)(t:List α):Zc c t=(qe c t t.length).1++[t.drop (qe c t t.length).2]:=by
 obtain⟨a,b⟩:=zQ c t t.length (rb _);rw[Cg] at a;rw[b,kK c _ a]
end
theorem jM(c:Nat):∀t:Text,Zc c t=Za c t
 |[]=>rfl
 |x::r=>by
  unfold Zc Za;rw[jM c r];by_cases h:x=c
  .rw[qa h,qa h]
  .rw[oa h,oa h];cases Za c r<;>rfl
theorem BD(c:Nat):∀t:Text,Zc (c:Int) (t.map λn=>((n:Nat):Int))=(Za c t).map λp=>p.map λn=>((n:Nat):Int)
 |[]=>rfl
 |x::r=>by
  have a:=BD c r;rw[Nb];unfold Zc Za;rw[a];by_cases h:x=c
  .subst h;rw[qa rfl,qa rfl];rfl
  .have b:¬((x:Nat):Int)=(c:Int):=λq=>h (UB q);rw[oa b,oa h];cases e:Za c r with
   |nil=>rfl
   |cons y l=>rfl
abbrev Ka:=List Int
def Jb(t:Text):Ka:=t.map λn=>((n:Nat):Int)
noncomputable def jd(t:Ka):List V:=t.map V.int
theorem zg(t:Text):txt t=jd (Jb t):=Gv t
theorem Pj(t:Ka):(jd t).length=t.length:=Na _
theorem U3(t:Ka)(n:Nat):jd (t.take n)=(jd t).take n:=RB
theorem d9(t:Ka)(n:Nat):jd (t.drop n)=(jd t).drop n:=TB
theorem Vy(t:Ka)(i:Nat):(jd t)[i]?=t[i]?.map V.int:=Ac ..
noncomputable def Gi(t:Ka)(a hi:Option Int):Ka:=(t.drop (HT.Rb t.length 0 a)).take (HT.Rb t.length t.length hi - HT.Rb t.length 0 a)
theorem uP(t:Ka)(a b:Option Int):Qj (jd t) a b=jd (Gi t a b):=by
 unfold Qj Gi;rw[Pj,U3,d9]
theorem WV{t:Ka}{a b:Option Int}(h:HT.Rb t.length 0 a=0/\HT.Rb t.length t.length b=t.length):Gi t a b=t:=by
 unfold Gi;rw[h.1,h.2,Fn,iy,Cg]
theorem XI(t:Ka)(n:Nat):Gi t (ba (n:Int)) ia=t.drop n:=by
 unfold Gi;rw[HT.HC,HT.Fq];by_cases h:n<=t.length
 .rw[ml h,rm (by rw[ue];exact rb _)]
 .rw[wu (by omega),er (by omega),er (by omega:t.length<=n),jy]
theorem Ky(t:Ka)(a b:Nat):Gi t (ba (a:Int)) (ba (b:Int))=(t.take b).drop a:=by
 unfold Gi;rw[HT.Fq,HT.Fq,ly];by_cases c:a<=t.length
 .rw[ml c];by_cases d:b<=t.length
  .rw[ml d]
  .rw[wu (by omega),rm (by rw[ue];exact rb _),rm (by rw[ue];omega)]
 .rw[wu (by omega:t.length<=a),er (rb _),er (by omega:t.length<=a),jy,jy]
inductive aG(x:V)(lo:Option Int)(hi:Option Int)(H:Hp)(Q:VK):Prop|mk:∀a t,x= .ref a->H a=ba (.tup (jd t))->(∀p H',ka H H'->H' p=ba (.tup (jd (Gi t lo hi)))->Q (.ref p) H')->aG x lo hi H Q
theorem Tz:Ir X aG:=by
 intro b s c H x v d e f g i Q I j k l m h;obtain⟨a,t,rfl,n,q⟩:=h;refine xK b s c H _ v d e f g i Q I j k l m {a,jd t,rfl,Ba.of n,λo=>?_,λ_ p r=>?_}
 .rw[Pj] at o;exact q a H (ka.refl H) (by rw[WV o];exact n)
 .exact q p _ (Qa r) (by rw[wa,uP])
abbrev Bf(H:Hp)(ps:List Addr)(ts:List Ka):Prop:=Paired (λp t=>H p=ba (.tup (jd t))) ps ts
theorem Bf.Xa{a:Hp}{ps:List Addr}{b:List Ka}(h:Bf H ps b)(s:Fe H a):Bf a ps b:=Paired.wh h λ_ _ q=>s _ _ q
theorem Bf.len{ps:List Addr}{a:List Ka}(h:Bf H ps a):ps.length=a.length:=bf h
theorem Bf.snoc:∀{ps:List Addr}{ts:List Ka}{p:Addr}{t:Ka},Bf H ps ts->H p=ba (.tup (jd t))->Bf H (ps++[p]) (ts++[t])
 |_,_,_,_,.nil,h=> .cons h .nil
 |_,_,_,_,.cons a r,h=> .cons a (Bf.snoc r h)
theorem Bf.get:∀{ps:List Addr}{ts:List Ka}{i:Nat}{p:Addr},Bf H ps ts->ps[i]?=ba p->∃t,ts[i]?=ba t/\H p=ba (.tup (jd t))
 |_,_,_,_,.nil,h=>by simp at h
 |_,_,0,_,.cons a r,h=>by simp at h;subst h;exact{_,rfl,a}
 |_,_,i+1,_,.cons a r,h=>Bf.get (i:=i) r h
theorem Bf.nat:∀{ps:List Addr}{ts:List Text},Bf H ps (ts.map Jb)->Wb H ps ts
 |_,[],h=>by cases h;exact .nil
 |_,t::ts,h=>by
  rw[Nb] at h;cases h with
  |cons a r=>exact .cons (by rw[zg];exact a) (Bf.nat r)
inductive cv(vs:List V)(H:Hp)(Q:VK)(X3:XK):Prop|mk:∀a t,vs=[.ref a]->H a=ba (.tup (jd t))->t.length<=100000->(∀H' l ps,ka H H'->H l=ia->H' l=ba (.lst (ps.map V.ref))->Bf H' ps (Zc (47:Int) t)->Q (.ref l) H')->cv vs H Q X3
theorem zU(G:GF K mg "parts_of" vD ["text"])(T:Cs mg):Aa P w K mg base 1 "parts_of" cv:=by
 refine G.go (N:=["text","parts","start","place","byte"]) ?_;rintro f b A d s H vs Q E nd hr X D ⟨a,t,rfl,e,hz,k⟩;refine⟨_,Ga (nc (i:=1) (ic pa)) (Ga (nc (i:=2) Sb)
  (Ga (Ji qi rfl (UN (by rfl) T.enumerate (la (pv 0) pa)) (lF rfl (Dt (Md (i:=3)) (Dt (Md (i:=4)) mF)))
   (Ca (Lb (fc Zf (pv 4) (Wa T.SLASH) (Yb _))
    (Ga (vi (di Ri xm ym Nk (pv 1) (la (Oe Tz (pv 0) (Ud (pv 2)) (Ud (pv 3))) pa)))
     (Ca (nc (i:=2) (Fc We (pv 3) Sb)))) Ob)))
  (Ga (vi (di Ri xm ym Nk (pv 1) (la (Oe Tz (pv 0) (Ud (pv 2)) Gg) pa)))
   (Ca (Oa (pv 1)))))),?_⟩
 refine{Pd _,λl g=>?_};have h:ka H (upd H l (.lst [])):=Qa g;refine⟨_,rfl,a,_,rfl,Ba.of (h _ _ e),kQ (K:=K) (a:=a) (xs:=jd t) (λi j m=>∃n o r,j=[ba (.ref a),ba (.ref l),ba (.int ((qe (47:Int) t i).2:Nat)),n,o]/\ka H m/\m l=ba (.lst (r.map V.ref))/\Bf m r (qe (47:Int) t i).1)
  {ia,ia,[],rfl,h,wa,.nil} (λi j m _ ⟨_,_,_,_,u,_⟩=>Ba.of (u _ _ e)) ?_ ?_⟩
 .rintro i x j v y z ⟨n,o,r,rfl,u,B,C⟩ F;rw[Vy] at z;cases I:t[i]? with
  |none=>rw[I] at z;cases z
  |some c=>
   rw[I] at z;cases z;have J:i< t.length:=(Cf.mp I).1;have L:ka v (upd v y (.tup [.int (i:Nat),.int c])):=Qa F;have M:=LC (47:Int) t i;have hle:=ED (47:Int) t i;have O:=C.len;refine{_,rfl,rfl,_,rfl,cb (λR=>?_) (λR=>?_)}
   .have S:c=47:=by
     have q:=Qe R;injection q with q
    subst S;refine{_,rfl,.inl {rfl,_,Ia.of (L _ _ B)},_,rfl,_,rfl,_,rfl,_,rfl,_,rfl,a,t,rfl,L _ _ (u _ _ e),λp H2 U W=>{l,_,_,rfl,rfl,U _ _ (L _ _ B),?_,?_}}
    .rw[Na];exact Qi (show r.length<=100000 by omega) (by decide)
    .have Y:=U _ _ (L _ _ B);refine{_,rfl,_,_,rfl,rfl,ba (.int (i:Nat)),ba (.int 47),r++[p],?_,Zg (u.trans (L.trans U)) g,by rw[wa,vf];rfl,?_}
     .show _=[ba (V.ref a),ba (V.ref l),ba (V.int ((qe (47:Int) t (i+1)).2:Nat)),_,_];rw[YN I];rfl
     .rw[YN I];have Z:Gi t (ba ((qe (47:Int) t i).2:Nat)) (ba ((i:Nat):Int))=(t.take i).drop (qe (47:Int) t i).2:=Ky t _ i;rw[Z] at W;exact((C.Xa (ka.Xa (L.trans U))).snoc W).Xa (Wl Y)
   .have S:¬t[i]?=ba 47:=λq=>R (by rw[I] at q;injection q with q;subst q;exact Xc rfl);refine{ba (.int (i:Nat)),ba (.int c),r,?_,u.trans L,L _ _ B,?_}
    .show _=[ba (V.ref a),ba (V.ref l),ba (V.int ((qe (47:Int) t (i+1)).2:Nat)),_,_];rw[rP S];rfl
    .rw[rP S];exact C.Xa (ka.Xa L)
 .rintro j v ⟨n,o,r,rfl,u,B,C⟩;rw[Pj] at*;have M:=LC (47:Int) t t.length;have O:=C.len;refine{_,rfl,.inl {rfl,_,Ia.of B},_,rfl,_,rfl,_,rfl,a,t,rfl,u _ _ e,λp H2 U W=>{l,_,_,rfl,rfl,U _ _ B,?_,?_}}
  .rw[Na];exact Qi (show r.length<=100000 by omega) (by decide)
  .have Y:=U _ _ B;refine{_,rfl,k _ l (r++[p]) (Zg (u.trans U) g) g (by rw[wa,vf];rfl) ?_};have Z:Gi t (ba ((qe (47:Int) t t.length).2:Nat)) ia=t.drop (qe (47:Int) t t.length).2:=XI t _;rw[Z] at W;rw[cV (47:Int) t];exact((C.Xa (ka.Xa U)).snoc W).Xa (Wl Y)
end Tl
namespace HT
open PySem.AutoSeq1 (wpAny_loadPart') in
theorem W4(l:Addr)(its:Array Value)(n:Nat)(b:Addr)(a:Array Value)(c:Nat)(dd:Option Addr)(e:Array (Option Value))(f:¬(!its.isEmpty&&JB (its.size+a.size))=da)(i:its.size<=sizeLine)(j:its.size+a.size<=sizeLine+1):
  IB (Builtin.«list.extend» ⟨[.ref l,.ref b],[]⟩) (λ_ R s=>s.heap.get? l=ba {cls:= .type "list",dict:=ia,data:= .seq its n,slots:=#[]}/\s.heap.get? b=ba {cls:= .type "tuple",dict:=dd,data:= .seq a c,slots:=e}/\
   R (.ok (.ret Kh)) {s with heap:=s.heap.update l (Wo λx=>x++a),toks:=s.toks}):=
 .of_wp λk w A R s h=>by
  obtain⟨m,g,d,o,p⟩:=s;obtain⟨q,r,h⟩:=h;have t:=AutoSeq1.idx_int;have u:=AutoSeq1.sub_tuple_tuple;have v:=AutoSeq1.sub_list_list;have y:=AutoSeq1.sub_tuple_list;have z:=AutoSeq1.sub_list_tuple;have B:(its++a).size<=sizeLine+1:=by rw[Array.size_append];exact j
  wp_walk using(kH q rfl (hz:=i) (_hz':=B)),Sq q,Sq r;exact{_,rfl,h}
end HT
namespace L2
inductive eM(K:xa)(x:V)(vs:List V)(H:Hp)(Q:VK):Prop|mk:∀l b xs zs,x= .ref l->vs=[.ref b]->H l=ba (.lst xs)->Ba K H b zs->xs.length+zs.length<=sizeLine->Q .Tb (upd H l (.lst (xs++zs)))->eM K x vs H Q
theorem FZ:MA X "list.extend" (eM X.K):=by
 intro a s c H x d v f Q I g i h;obtain⟨l,b,j,k,rfl,rfl,m,o,p,q⟩:=h;cases g;obtain⟨u,rfl,t⟩:=i.one;cases t;obtain⟨z,w,n,r,y,e⟩:=I.Ks m;obtain⟨A,B,⟨⟨C,D,data2,E⟩,G,J,K,L⟩,M⟩:=I.tuple o;simp only at J L;subst J L;have N:=B.length;have O:w.toArray.size+A.toArray.size<=sizeLine:=by rw[Od,Od];omega
 have P:¬(!w.toArray.isEmpty&&JB (w.toArray.size+A.toArray.size))=da:=by
  rw[NJ O,LB];exact se
 refine eu MB {_,e,rfl} r_ (s_ _ _) (HT.W4 l w.toArray n b A.toArray K D E P (by rw[Od];omega) (by omega)) {e,G,?_};refine{.Tb,_,I.oF (its':=w++A) m e (by simp) (r.append B) ?_,rfl,q};rw[wd];omega
def cN(r:V->List V->Hp->VK->Prop)(to:TE)(t:TA):TE:=λσ H Q=>to σ H λx H1=>(∃a xs,x= .ref a/\H1 a=ba (.tup xs))/\t σ H1 λxs H2=>r x xs H2 Q
theorem oz{o:ua}{es:List ua}{c:TE}{t:TA}{name:Str}{d f:La}{id:String}{r:V->List V->Hp->VK->Prop}(g:o_ "tuple")(i:Slot "tuple" name id)(j:yR (.builtin id)=pd (.type "method_descriptor"))(k:mx X id r)(l:PE X o c)(m:PA X (e::es) t)
  (n:autoParam (BB o name X.env (Ic o X.env)=Ic o X.env) ZQ0._auto_1)
  (q:autoParam (((Ye f (Jc (e::es) X.env)).all (λx=> !x.1)&&(Mx f (Ox [] X.env)).all (λx=>x.1.isSome)
   &&decide ((e::es).length+([]:List CB).length+(if([]:List CB).isEmpty then 0 else 1)< 30))=da) ZQ0._auto_1)
  (u:autoParam ((d.endLine==f.line)=da) ZQ0._auto_1) (w:autoParam (Jc (e::es) X.env=(ma,Ic e X.env)::Jc es X.env) ZQ0._auto_1) (y:autoParam ((Ye f (Jc es X.env)).any (·.1)=ma) ZQ0._auto_1):
  PE X (.Call (.Attribute o name d) (e::es) [] f) (cN r c t):=by
 intro z s A H Q I h;refine p_ n q u rfl (Gb (l z s A H _ I h) λv B ⟨x,H1,I1,r1,⟨a,xs,ex,hx⟩,q1⟩=>?_);subst ex;cases r1;obtain⟨_,C,D,p,E,F,G⟩:=(show Cd X.prog X.w H1 B.heap a (.tup xs) from I1.vb a _ hx);refine{"tuple",id,g,i,j,p.typeIs,λb J=>?_,?_}
 .cases J;exact⟨E,F,G⟩
 have K:=m f z B A H1 _ I1 q1;rw[w] at K⊢;refine q_ (by show(ma||(Ye f (Jc es X.env)).any (·.1))=ma;rw[y]<;>rfl) (zR ?_);exact Gb K λL M ⟨vs,H2,I2,r2,q2⟩=>k z M A H2 (.ref a) vs _ L Q I2 rfl r2 q2
inductive DL(K:xa)(x:V)(xs:List V)(H:Hp)(Q:VK):Prop|mk:∀(a:Addr)(ys:List V)(y:V)(j:Nat)(z:V),x=V.ref a->xs=[y]->Ba K H a ys->ph y=da->ys.all ph=da->ys[j]?=ba z->Kl z y=da->(∀(m:Nat)(z':V),m< j->ys[m]?=ba z'->Kl z' y=ma)->Q (.int (j:Nat)) H->DL K x xs H Q
theorem C0:mx X "tuple.index" (DL X.K):=by
 intro b s σ H x xs v us Q I c d h;obtain⟨a,e,y,j,z,rfl,rfl,f,g,i,k,l,o,q⟩:=h;cases c;cases d with
 |cons p r=>
  rename_i t ut
  cases r;obtain⟨w,A,⟨⟨B,C,D,E⟩,F,G,n,hd⟩,J⟩:=I.tuple f;simp only at G hd;subst G hd;obtain⟨u,K,L⟩:=A.get k;obtain⟨M,N⟩:=Cf.mp K;have O:=A.length;have P:j< w.toArray.size:=by simpa using M
  refine eu lH {_,F,rfl} PySem.F.entry_tuple_index (PySem.F.args_tuple_index_2 _ _)
   (HT.NV a w.toArray n C E t (Hg y) j P ?_ ?_) {F,λu' R=>yq p g A i u' (by simpa using R),?_}
  .have S:w.toArray[j]=u:=by simpa using N
   rw[S,Bv L (qL i k)];exact l
  .intro m hm T;have hml:m< w.length:=by simpa using hm
   have U:m< e.length:=by omega
   have V:e[m]?=ba e[m]:=Wd U;obtain⟨u2,W,Y⟩:=A.get V;obtain⟨_,Z⟩:=Cf.mp W;have S:w.toArray[m]=u2:=by simpa using Z
   rw[S,Bv Y (qL i V)];exact o m _ T V
  .exact{.int (j:Nat),H,I.tok _,{_,rfl},q}
end L2
namespace Tl
theorem bw:∀t:Text,(txt t).all ph=da
 |[]=>rfl
 |_::t=>by
  show(da&&(txt t).all ph)=da;rw[bw t];rfl
inductive qM(x:V)(xs:List V)(H:Hp)(Q:VK):Prop|mk:∀(a:Addr)(t:Text)(c:Nat),x=V.ref a->xs=[.int (c:Int)]->H a=ba (.tup (txt t))->c∈t->Q (.int ((t.findIdx (·==c):Nat):Int)) H->qM x xs H Q
theorem DF:mx X "tuple.index" qM:=by
 intro b s f H x g v i Q I j k h;obtain⟨a,t,c,rfl,rfl,l,n,q⟩:=h;have o:t.findIdx (·==c)< t.length:=mH.mpr {c,n,by simp};have p:t[t.findIdx (·==c)]?=ba c:=by
  rw[Wd o];have:=ZR (w:=o);exact wc ba (dk this)
 refine C0 b s f H _ _ v i Q I j k {a,txt t,.int (c:Int),t.findIdx (·==c),.int (c:Int),rfl,rfl,Ba.of l,rfl,bw t,?_,?_,λm z r u=>?_,q}
 .rw[Xk,p];rfl
 .show(((c:Nat):Int)==(c:Int))=da;simp
 .rw[Xk] at u;cases y:t[m]? with
  |none=>rw[y] at u;cases u
  |some d=>
   rw[y] at u;cases u;have A:m< t.length:=by omega
   have B:=List.not_of_lt_findIdx r;rw[Wd A] at y;have e:=Dd y;subst e;show((((t[m]:Nat):Int))==(c:Int))=ma;rw[vJ];simpa using B
noncomputable def Kg(ts:List Text):List PyData:=ts.map λt=>ir (dat t)
theorem ZC:∀{ps:List Addr}{ts:List Text},Wb H ps ts->Ll K H (ps.map V.ref) (Kg ts)
 |_,_,.nil=> .nil
 |_,_,.cons a r=> .cons (.tup (Ba.of a) (Pk _)) (ZC r)
theorem KC:∀ts:List Text,oi (Kg ts)=da
 |[]=>by simp[Kg,oi]
 |t::ts=>by
  show oi (ir (dat t)::Kg ts)=da;simp only[oi,wm,lx,KC ts,my]
theorem jD:∀ts:List Text,Dg (Kg ts)<=2
 |[]=>by simp[Kg,Dg]
 |t::ts=>by
  have a:=jD ts;have b:=uz t;show Dg (ir (dat t)::Kg ts)<=2;simp only[Dg,ip];omega
theorem rN(t:Text):∀ts:List Text,((Kg ts).any λy=>og y (.tuple (dat t)))=ts.contains t
 |[]=>rfl
 |u::ts=>by
  show(og (.tuple (dat u)) (.tuple (dat t))||(Kg ts).any λy=>og y (.tuple (dat t)))=_;rw[rN t ts,VR];simp only[og,Fv]
  congr 1
  by_cases h:u=t
  .subst h;simp
  .rw[Rf h,lp (Gc h)]
theorem NO(a:List Text):Oi (.list (Kg a))=da:=by
 unfold Oi;have b:=jD a;rw[Kc];constructor
 .simp only[wm,KC]
 .simp only[ip];exact Xc (by omega)
inductive UA(K:xa)(neg:Bool)(x:V)(y:V)(H:Hp)(Q:VK):Prop|mk:∀a t l ps ts,x= .ref a->y= .ref l->Ba K H a (txt t)->Ia K H l (ps.map V.ref)->Wb H ps ts->Q (.bl (if neg then !ts.contains t else ts.contains t)) H->UA K neg x y H Q
theorem room_in(a:A.units+64< Wc)(t:Text)(b:List Text):A.units+1+min (Dg (Kg b)) (ir (dat t)).depth< Wc:=by
 have c:=jD b;omega
theorem fD(b:X.A.units+64< Wc):zd X (ee .NotIn) (UA X.K da):=by
 intro c s d H x y v u Q I e f h;obtain⟨a,t,l,g,i,rfl,rfl,j,k,m,q⟩:=h;obtain⟨n,o⟩:=Dp.reads I (.tuple (dat t)) _ v (.tup j (Pk t)) e;obtain⟨p,r⟩:=Dp.reads I (.list (Kg i)) _ u (.lst k (ZC m)) f;refine SeqAt.notIn_list_reads r o (KC i) (by simp only[wm,lx]) (room_in b t i) {.bl _,H,I,rfl,?_};rw[rN];exact q
inductive IE(K:xa)(x:V)(y:V)(H:Hp)(Q:VK):Prop|mk:∀l m ps ts,x= .ref l->y= .ref m->Ia K H l (ps.map V.ref)->Wb H ps ts->Ia K H m []->Q (.bl (decide (ts=[]))) H->IE K x y H Q
theorem UE(a:X.A.units+64< Wc):zd X (ee .Eq) (IE X.K):=by
 intro b s c H x y v u Q I d f h;obtain⟨l,m,g,i,rfl,rfl,j,k,n,q⟩:=h;refine Wv a b s c H _ _ v u Q I d f {.list (Kg i),.list (Kg []),.lst j (ZC k),.lst n .nil,NO i,NO [],?_};have e:og (.list (Kg i)) (.list (Kg []))=decide (i=[]):=by
  cases i with
  |nil=>simp[Kg,og,wj]
  |cons t i=>simp[Kg,og,wj]
 rw[e];exact q
theorem ME{H0:Hp}{l:Addr}{ps:List Addr}(i:Nat)(a:σ[i]?=ba (ba (.ref l)))(b:H0 l=ba (.lst (ps.map V.ref)))(c:Wb H0 ps ts):
  Pb H0 (Ed (Vc (IE K) (Ua i) (jo Xb))) σ (decide (ts=[])):=λH Q s q=>by
 refine{_,a,Pd _,λm d=>{l,m,ps,ts,rfl,rfl,Ia.of (Qa d _ _ (s _ _ b)),(c.Xa (ka.Xa s)).Xa (ka.Xa (Qa d)),Ia.of wa,_,rfl,q _ (s.trans (Qa d))}}
theorem Yu{c:Type}{F:α->c->Prop}:∀{l:List α}{m:List c}{a:α}{b:c},Paired F l m->F a b->Paired F (l++[a]) (m++[b])
 |_,_,_,_,.nil,h=> .cons h .nil
 |_,_,_,_,.cons x r,h=> .cons x (Yu r h)
theorem Sm{J:It}{n:Nat}{G:Hp->Prop}{R:Nat->V->Hp->Prop}(F:qo J n G R){a:Type}(c:V->a->Hp->Prop)(d:List (Option a))(f:d.length=n){tt:TT}{g:TE}{j:Nat}{D:Addr}{k:Hp->Prop}
  (l:∀y b H1 H2,Fe H1 H2->c y b H1->c y b H2) (p:∀H',ka H H'->G H') (s:H D=ia) (hz:n< sizeLine) (hw:∀v,wipe ((wipe σ [j]).set j (ba v)) [j]=wipe σ [j])
  (u:∀i x o H',i< n->d[i]?=ba o->R i x H'->ka H H'->∀(w:Hp->Prop)(z:VK),(∀A,o=ia->ka H' A->w A)->(∀y b B,o=ba b->ka H' B->c y b B->z y B)->
   tt ((wipe σ [j]).set j (ba x)) H' λb A=>if b=da then g ((wipe σ [j]).set j (ba x)) A z else w A)
  (hd:∀acc H',ka H H'->H' D=ba (.lst acc)->Paired (λy b=>c y b H') acc (d.filterMap id)->k H'):
  ∃W:Nat->Nat->Hp->Prop,(∃m,W 0 m (upd H D (.lst [])))/\∀i m H,W i m H->
   (J.stop i H/\k H)\/(J.go i H/\∃C:Hp->Prop,(∀H',C H'->∃E,E< m/\W (i+1) E H')/\∀x H',J.Gj i H x H'->Le j x (wipe σ [j]) H' λI H2=>wipe I [j]=wipe σ [j]/\tt I H2 λb A=>
    if b=da then g I A λy B=>∃acc,B D=ba (.lst acc)/\acc.length< sizeLine/\C (upd B D (.lst (acc++[y]))) else C A):=by
 refine dP F (λi acc H'=>Paired (λy b=>c y b H') acc ((d.take i).filterMap id)) p s hz hw .nil (λi acc H1 H2 t h=>Paired.wh h λy b q=>l y b _ _ t q)
  (λi acc H' h=>?_) (λi x acc H' K r L M w z N O=>?_) (λacc H' L P M=>?_)
 .rw[bf h];exact Bc (List.length_filterMap_le _ _) (by rw[rd];exact X_ _ _)
 .have Q:d[i]?=ba d[i]:=Wd (by omega);have S:(d.take (i+1)).filterMap id=(d.take i).filterMap id++([d[i]]:List (Option a)).filterMap id:=by
   rw[ni,Q,List.filterMap_append];rfl
  refine u i x _ H' K Q r L w z (λA e T=>N A T ?_) (λy b B e U X=>O y B U ?_)
  .rw[S,e,show([ia]:List (Option a)).filterMap id=[] from rfl,sj];exact Paired.wh M λy b q=>l y b _ _ (ka.Xa T) q
  .rw[S,e,show([ba b]:List (Option a)).filterMap id=[b] from rfl];exact Yu (Paired.wh M λy b q=>l y b _ _ (ka.Xa U) q) X
 .rw[<-f,Cg] at M;exact hd acc H' L P M
end Tl
namespace HT
abbrev Oj(h:Heap)(z TI TO:Addr)(a b:Value):Prop:=
 h.get? z=ba {cls:= .type "zip",dict:=ia,data:= .fields #[a,b,.bool ma,.ref TI,.ref TO],slots:=#[]}
theorem E6{Q:Option Obj->ja->Prop}(h:Q (s.heap.get? a) s):ra (Ea prog w) A (loadIfAlive a) Q E s:=λb p _=>by
 show fe _ b (.loadIfAlive a λx=>pd x) _ _ p s;rw[Ma.wp_loadIfAlive];exact h
theorem LJ{z TI TO:Addr}{c d:Value}{Q:Bool->ja->Prop}(hz:Oj s.heap z TI TO c d)(e:c= .none\/∃a t,c= .int a t)(f:∃b,d= .bool b)
  (g:Q da s) (h:∀h',Oj h' z TI TO c (.bool da)->Nh z s.heap h'->Q ma {s with heap:=h'}):ra (Ea prog w) A (nH (.ref z)) Q E s:=by
 unfold nH;refine wpAny_bind (Ni hz rfl (x:=c) rfl ?_);rcases e with rfl|⟨a,t,rfl⟩
 .exact wpAny_pure g
 .refine wpAny_bind (E6 ?_);cases i:s.heap.get? a.toNat with
  |none=>exact wpAny_pure g
  |some o=>
   show ra _ _ (qp (.ref z) 1>>=_) _ _ s;refine wpAny_bind (Ni hz rfl (x:=d) rfl ?_);obtain⟨b,rfl⟩:=f;cases b with
   |true=>exact wpAny_pure (h s.heap hz (aS _ _))
   |false=>
    show ra _ _ (PR (.ref z) 1 (.bool da)>>=_) _ _ s;exact wpAny_bind (xu hz (by simp) λh' j k=>wpAny_pure (h h' j k))
def wo(h:Heap)(z TI TO:Addr):Prop:=∃c d,Oj h z TI TO c d/\(c= .none\/∃a t,c= .int a t)/\∃b,d= .bool b
structure Ls(z TI TO i1 i2 l1 l2:Addr):Prop where
 a1:TI≠z/\TO≠z/\i1≠z/\i2≠z
 a2:TI≠TO/\TI≠i1/\TI≠i2/\TO≠i1/\TO≠i2/\i1≠i2
 a3:l1≠z/\l1≠TO/\l1≠i1/\l1≠i2
 a4:l2≠z/\l2≠TO/\l2≠i1/\l2≠i2
theorem JZ(n a b:Nat)(ha:a< n)(hb:b< n):Ls (n+4) (n+2) (n+3) n (n+1) a b:=by
 refine{{?_,?_,?_,?_},{?_,?_,?_,?_,?_,?_},{?_,?_,?_,?_},{?_,?_,?_,?_}}<;>(intro(e:(_:Nat)=_);omega)
theorem Jg{h':Heap}{i l:Addr}(x:h.IsTupleIter i l k)(e:∀o,h.get? i=ba o->h'.get? i=ba o):h'.IsTupleIter i l k:=by
 obtain⟨o,a,r⟩:=x;exact{o,e o a,r}
theorem Wk{h':Heap}{l:Addr}{its:Array Value}(x:h.IsTuple l its)(e:∀o,h.get? l=ba o->h'.get? l=ba o):h'.IsTuple l its:=by
 obtain⟨o,a,r⟩:=x;exact{o,e o a,r}
theorem Y3{z TI TO d f g h:Addr}{xs ys:Array Value}{x y:Value}(D:Ls z TI TO d f g h)(hz:wo s.heap z TI TO)(hTI:Ef s.heap TI (.ref d) (.ref f))(i:∃a b,Ef s.heap TO a b)
  (h1:s.heap.IsTupleIter d g k) (h2:s.heap.IsTupleIter f h k) (j:s.heap.IsTuple g xs) (l:s.heap.IsTuple h ys) (hx:xs[k]?=ba x) (hy:ys[k]?=ba y)
  (hQ:∀h',wo h' z TI TO->(∃a b,Ef h' TO a b)->h'.IsTupleIter d g (k+1)->h'.IsTupleIter f h (k+1)->Ef h' s.heap.objs.size x y->
   (∀c o,c≠z->c≠TO->c≠d->c≠f->s.heap.get? c=ba o->h'.get? c=ba o)->Q (.ref s.heap.objs.size) {s with heap:=h'}):
  ra (Ea prog w) A (Builtin.«zip.__next__» ⟨[.ref z],[]⟩) (λfin s'=>∃v,fin= .done (.ret v)/\Q v s') E s:=by
 obtain⟨f0,f1,hz,m,hf1⟩:=hz;obtain⟨a,b,i⟩:=i;obtain⟨⟨TIz,n,p,q⟩,⟨TITO,TIi1,TIi2,r,t,u⟩,⟨B,l1TO,l1i1,l1i2⟩,⟨C,l2TO,F,l2i2⟩⟩:=D;show ra _ _ (qp (.ref z) 2>>=_) _ _ _;refine wpAny_bind (Ni (x:= .bool ma) hz rfl rfl ?_);show ra _ _ (qp (.ref z) 3>>=_) _ _ _;refine wpAny_bind (Ni (x:= .ref TI) hz rfl rfl (wpAny_bind (xj hTI rfl ?_)));show ra _ _ (nH (.ref z)>>=_) _ _ _;refine wpAny_bind (LJ hz m hf1 ?_ λhf hzf hsf=>?_)
 .simp only[Ld];refine wpAny_bind (fy (wpAny_bind (Ni (x:= .ref TO) hz rfl rfl (wpAny_bind (xu hz (by simp) λha G H=>?_)))))
  replace G:Oj ha z TI TO .ellipsis f1:=G
  refine wpAny_bind ?_;simp only[Y_,Z_,gu,Uq];refine wpAny_bind (wpAny_bind (oH ?_));show ra _ _ (ql (.ref d)>>=_) _ _ _;refine wpAny_bind (cq (Jg h1 λo e=>H.extBut _ _ p e) (Wk j λo e=>H.extBut _ _ B e) hx λhb I J=>wpAny_pure ?_);have kb:∀c o,c≠z->c≠d->s.heap.get? c=ba o->hb.get? c=ba o:=λc o K L e=>J.extBut _ _ L (H.extBut _ _ K e);refine wpAny_bind (xj (kb _ _ n r i) rfl (wpAny_bind (bS (kb _ _ n r i) λhc M N=>wpAny_bind (jr (wpAny_pure ?_)))))
  replace M:Ef hc TO x b:=M
  have kc:∀c o,c≠z->c≠d->c≠TO->s.heap.get? c=ba o->hc.get? c=ba o:=λc o K L O e=>N.extBut _ _ O (kb c o K L e);refine wpAny_bind (wpAny_bind (oH ?_));show ra _ _ (ql (.ref f)>>=_) _ _ _;refine wpAny_bind (cq (Jg h2 λo e=>kc _ _ q (Gc u) (Gc t) e) (Wk l λo e=>kc _ _ C F l2TO e) hy λhd P R=>wpAny_pure ?_);have S:Ef hd TO x b:=R.extBut _ _ t M;refine wpAny_bind (xj S rfl (wpAny_bind (bS S λT U V=>wpAny_bind (jr (wpAny_pure (wpAny_pure ?_))))))
  replace U:Ef T TO x y:=U
  refine wpAny_bind (xj U rfl (wpAny_bind (cS ?_)));have W:T.objs.size=s.heap.objs.size:=by rw[V.1,R.1,N.1,J.1,H.1]
  have ke:∀c o,c≠z->c≠d->c≠TO->c≠f->s.heap.get? c=ba o->T.get? c=ba o:=λc o K L O c4 e=>V.extBut _ _ O (R.extBut _ _ c4 (kc c o K L O e));have hze:Oj T z TI TO .ellipsis f1:=V.extBut _ _ (Gc n) (R.extBut _ _ (Gc q) (N.extBut _ _ (Gc n) (J.extBut _ _ (Gc p) G)));have h1e:T.IsTupleIter d g (k+1):=Jg I λo e=>V.extBut _ _ (Gc r) (R.extBut _ _ u (N.extBut _ _ (Gc r) e));have h2e:T.IsTupleIter f h (k+1):=Jg P λo e=>V.extBut _ _ (Gc t) e;have X:z< T.objs.size:=cc hze;show ra _ _ (c' (.ref z) (.ref T.objs.size)>>=_) _ _ _;refine wpAny_bind ?_;unfold c';have hzp:Oj (T.push {cls:= .type "tuple",data:= .seq #[x,y]}) z TI TO .ellipsis f1:=Qb _ hze;refine wpAny_bind (xu hzp (by simp) λhg Y hsg=>?_)
  replace Y:Oj hg z TI TO (Qg T.objs.size) f1:=Y
  refine xu Y (by simp) λhk Z hsk=>wpAny_pure {_,rfl,?_}
  replace Z:Oj hk z TI TO (Qg T.objs.size) (.bool ma):=Z
  have up:∀c o,c≠z->T.get? c=ba o->hk.get? c=ba o:=λc o K e=>hsk.extBut _ _ K (hsg.extBut _ _ K (Qb _ e));have hT:Ef hk T.objs.size x y:=hsk.extBut _ _ (fm X) (hsg.extBut _ _ (fm X) (Uc _ rfl));show Q (.ref T.objs.size) _;rw[W] at hT Z⊢;exact hQ hk {_,_,Z,.inr {_,_,rfl},_,rfl} {x,y,up _ _ n U} (Jg h1e λo e=>up _ _ p e) (Jg h2e λo e=>up _ _ q e) hT λc o K L O c4 e=>up c o K (ke c o K O L c4 e)
 .simp only[yc,Ub];have kf:∀c o,c≠z->s.heap.get? c=ba o->hf.get? c=ba o:=λc o K e=>hsf.extBut _ _ K e;refine wpAny_bind ?_;simp only[f',gu,Uq];refine wpAny_bind (wpAny_bind (ng ?_));show ra _ _ (ql (.ref d)>>=_) _ _ _;refine wpAny_bind (cq (Jg h1 λo e=>kf _ _ p e) (Wk j λo e=>kf _ _ B e) hx λhb I J=>wpAny_pure (wpAny_pure ?_));refine wpAny_bind (wpAny_bind (ng ?_));show ra _ _ (ql (.ref f)>>=_) _ _ _;refine wpAny_bind (cq (Jg h2 λo e=>J.extBut _ _ (Gc u) (kf _ _ q e)) (Wk l λo e=>J.extBut _ _ F (kf _ _ C e)) hy λhd P R=>wpAny_pure (wpAny_pure (wpAny_pure ?_)));refine wpAny_bind (cS (wpAny_pure {_,rfl,?_}) (by show 2<=sizeLine;decide));have W:hd.objs.size=s.heap.objs.size:=by rw[R.1,J.1,hsf.1]
  have kd:∀c o,c≠z->c≠d->c≠f->s.heap.get? c=ba o->(hd.push {cls:= .type "tuple",data:= .seq #[x,y]}).get? c=ba o:=λc o K L O e=>Qb _ (R.extBut _ _ O (J.extBut _ _ L (kf c o K e)));have hzd:Oj (hd.push {cls:= .type "tuple",data:= .seq #[x,y]}) z TI TO f0 (.bool da):=Qb _ (R.extBut _ _ (Gc q) (J.extBut _ _ (Gc p) hzf));have hT:Ef (hd.push {cls:= .type "tuple",data:= .seq #[x,y]}) hd.objs.size x y:=Uc _ rfl;show Q (.ref hd.objs.size) _;rw[W] at hT⊢;exact hQ _ {_,_,hzd,m,_,rfl} {a,b,kd _ _ n r t i} (Jg I λo e=>Qb _ (R.extBut _ _ u e)) (Jg P λo e=>Qb _ e) hT λc o K L O c4 e=>kd c o K O c4 e
theorem R4{z TI TO d f l1 l2:Addr}{xs ys:Array Value}{Q:Fin->ja->Prop}(g:A.handled=ia)(D:Ls z TI TO d f l1 l2)(hz:wo s.heap z TI TO)(hTI:Ef s.heap TI (.ref d) (.ref f))(h:∃a b,Ef s.heap TO a b)
  (i:s.heap.IsTupleIter d l1 k) (h2:s.heap.IsTupleIter f l2 k) (j:s.heap.IsTuple l1 xs) (l:s.heap.IsTuple l2 ys) (m:xs[k]?=ia\/ys[k]?=ia)
  (n:∀h' e,(∀c o,c≠z->c≠TO->c≠d->c≠f->s.heap.get? c=ba o->h'.get? c=ba o)->(∃o,h'.get? e=ba o/\o.cls= .type "StopIteration")->E (.ref e) {s with heap:=h'}):
  ra (Ea prog w) A (Builtin.«zip.__next__» ⟨[.ref z],[]⟩) Q E s:=by
 obtain⟨f0,f1,hz,hf0,hf1⟩:=hz;obtain⟨a,b,h⟩:=h;obtain⟨⟨TIz,p,r,t⟩,⟨TITO,TIi1,TIi2,u,v,y⟩,⟨B,l1TO,l1i1,l1i2⟩,⟨C,F,G,l2i2⟩⟩:=D;show ra _ _ (qp (.ref z) 2>>=_) _ _ _;refine wpAny_bind (Ni (x:= .bool ma) hz rfl rfl ?_);show ra _ _ (qp (.ref z) 3>>=_) _ _ _;refine wpAny_bind (Ni (x:= .ref TI) hz rfl rfl (wpAny_bind (xj hTI rfl ?_)));show ra _ _ (nH (.ref z)>>=_) _ _ _;refine wpAny_bind (LJ hz hf0 hf1 ?_ λhf hzf hsf=>?_)
 .simp only[Ld];refine wpAny_bind (fy (wpAny_bind (Ni (x:= .ref TO) hz rfl rfl (wpAny_bind (xu hz (by simp) λha H I=>?_)))))
  replace H:Oj ha z TI TO .ellipsis f1:=H
  refine wpAny_bind ?_;simp only[Y_,Z_,gu,Uq];refine wpAny_bind (wpAny_bind (oH ?_));show ra _ _ (ql (.ref d)>>=_) _ _ _;cases J:xs[k]? with
  |none=>
   refine wpAny_bind (Ax g (Jg i λo e=>I.extBut _ _ r e) (Wk j λo e=>I.extBut _ _ B e) J λK e L M=>?_);obtain⟨oe,N,O⟩:=M;have P:Oj K z TI TO .ellipsis f1:=L _ _ (Gc r) H;have R:e≠z:=λq=>by subst q;rw[P] at N;cases N;simp at O
   exact xu P (by simp) λhc _ S=>n hc e (λc o T _ U _ q=>S.extBut _ _ T (L _ _ U (I.extBut _ _ T q))) {oe,S.extBut _ _ R N,O}
  |some x=>
   have hy:ys[k]?=ia:=by
    rcases m with q|q
    .rw[J] at q;cases q
    .exact q
   refine wpAny_bind (cq (Jg i λo e=>I.extBut _ _ r e) (Wk j λo e=>I.extBut _ _ B e) J λK h1b L=>wpAny_pure ?_);have kb:∀c o,c≠z->c≠d->s.heap.get? c=ba o->K.get? c=ba o:=λc o T V e=>L.extBut _ _ V (I.extBut _ _ T e);refine wpAny_bind (xj (kb _ _ p u h) rfl (wpAny_bind (bS (kb _ _ p u h) λhc hTOc S=>wpAny_bind (jr (wpAny_pure ?_)))));have kc:∀c o,c≠z->c≠d->c≠TO->s.heap.get? c=ba o->hc.get? c=ba o:=λc o T V U e=>S.extBut _ _ U (kb c o T V e);refine wpAny_bind (wpAny_bind (oH ?_));show ra _ _ (ql (.ref f)>>=_) _ _ _;refine wpAny_bind (Ax g (Jg h2 λo e=>kc _ _ t (Gc y) (Gc v) e) (Wk l λo e=>kc _ _ C G F e) hy λhd e W M=>?_);obtain⟨oe,N,O⟩:=M;have X:Oj hd z TI TO .ellipsis f1:=W _ _ (Gc t) (S.extBut _ _ (Gc p) (L.extBut _ _ (Gc r) H));have R:e≠z:=λq=>by subst q;rw[X] at N;cases N;simp at O
   exact xu X (by simp) λhg _ Y=>n hg e (λc o T V U c4 q=>Y.extBut _ _ T (W _ _ c4 (kc c o T U V q))) {oe,Y.extBut _ _ R N,O}
 .simp only[yc,Ub];have Z:∀c o,c≠z->s.heap.get? c=ba o->hf.get? c=ba o:=λc o T e=>hsf.extBut _ _ T e;refine wpAny_bind ?_;simp only[f',gu,Uq];refine wpAny_bind (wpAny_bind (ng ?_));show ra _ _ (ql (.ref d)>>=_) _ _ _;cases J:xs[k]? with
  |none=>
   refine wpAny_bind (Ax g (Jg i λo e=>Z _ _ r e) (Wk j λo e=>Z _ _ B e) J λK e L M=>?_);exact n K e (λc o T _ U _ q=>L _ _ U (Z c o T q)) M
  |some x=>
   have hy:ys[k]?=ia:=by
    rcases m with q|q
    .rw[J] at q;cases q
    .exact q
   refine wpAny_bind (cq (Jg i λo e=>Z _ _ r e) (Wk j λo e=>Z _ _ B e) J λK h1b L=>wpAny_pure (wpAny_pure ?_));refine wpAny_bind (wpAny_bind (ng ?_));show ra _ _ (ql (.ref f)>>=_) _ _ _;refine wpAny_bind (Ax g (Jg h2 λo e=>L.extBut _ _ (Gc y) (Z _ _ t e)) (Wk l λo e=>L.extBut _ _ G (Z _ _ C e)) hy λhd e W M=>?_);exact n hd e (λc o T _ U c4 q=>W _ _ c4 (L.extBut _ _ U (Z c o T q))) M
theorem lY{z TI TO d e f g:Addr}{xs ys:Array Value}{x y:Value}{Q:Option Value->ja->Prop}(D:Ls z TI TO d e f g)(hz:wo s.heap z TI TO)(h:Ef s.heap TI (.ref d) (.ref e))(i:∃a b,Ef s.heap TO a b)
  (j:s.heap.IsTupleIter d f k) (l:s.heap.IsTupleIter e g k) (m:s.heap.IsTuple f xs) (n:s.heap.IsTuple g ys) (p:xs[k]?=ba x) (r:ys[k]?=ba y)
  (t:∀h',wo h' z TI TO->(∃a b,Ef h' TO a b)->h'.IsTupleIter d f (k+1)->h'.IsTupleIter e g (k+1)->Ef h' s.heap.objs.size x y->
   (∀c o,c≠z->c≠TO->c≠d->c≠e->s.heap.get? c=ba o->h'.get? c=ba o)->Q (ba (.ref s.heap.objs.size)) {s with heap:=h'}):ra (Ea prog w) A (Pg (.ref z)) Q E s:=by
 have u:s.TypeIs (.ref z) "zip":=by obtain⟨v,B,q,_⟩:=hz;exact{_,q,rfl}
 unfold Pg;exact wpAny_bind (Yx (qm (name:=uf "__next__") u VB (Rg VB u j'
  (Y3 D hz h i j l m n p r λh' C G H I J K=>wpAny_pure (t h' C G H I J K)) (k' _))))
theorem FU{z TI TO d f g h:Addr}{xs ys:Array Value}{Q:Option Value->ja->Prop}(i:A.handled=ia)(D:Ls z TI TO d f g h)(hz:wo s.heap z TI TO)(j:Ef s.heap TI (.ref d) (.ref f))(l:∃a b,Ef s.heap TO a b)
  (m:s.heap.IsTupleIter d g k) (n:s.heap.IsTupleIter f h k) (p:s.heap.IsTuple g xs) (r:s.heap.IsTuple h ys) (t:xs[k]?=ia\/ys[k]?=ia)
  (u:∀h',(∀c o,c≠z->c≠TO->c≠d->c≠f->s.heap.get? c=ba o->h'.get? c=ba o)->Q ia {s with heap:=h'}):ra (Ea prog w) A (Pg (.ref z)) Q E s:=by
 have v:s.TypeIs (.ref z) "zip":=by obtain⟨x,y,q,_⟩:=hz;exact{_,q,rfl}
 unfold Pg;refine wpAny_bind (Yx (qm (name:=uf "__next__") v VB (Rg VB v j'
  (R4 i D hz j l m n p r t λh' e B C=>?_) (k' _))))
 obtain⟨o,G,H⟩:=C;exact wpAny_bind (wpAny_isInstance (T:="StopIteration") (b:=da) ⟨o,G,H⟩ isSubtype_stop (wpAny_pure (u _ B)))
noncomputable abbrev Rj(h:Heap)(a:Addr):Heap:=h.push {cls:= .type "tuple_iterator",data:= .fields #[.ref a,.int 0 0]}
noncomputable abbrev Wz(h:Heap)(a b:Addr):Heap:=(Rj (Rj h a) b).push {cls:= .type "tuple",data:= .seq #[.ref h.objs.size,.ref (Rj h a).objs.size]}
noncomputable abbrev dv(h:Heap)(a b:Addr):Heap:=(Wz h a b).push {cls:= .type "tuple",data:= .seq #[.none,.none]}
noncomputable abbrev wt(h:Heap)(a b:Addr):Heap:=(dv h a b).push {cls:= .type "zip",data:= .fields #[.none,.bool ma,.bool ma,.ref (Rj (Rj h a) b).objs.size,.ref (Wz h a b).objs.size]}
theorem E3(a b:Addr)(xs ys:Array Value):
  IB (Builtin.«zip.__new__» ⟨[.type "zip",.ref a,.ref b],[]⟩) (λ_ R s=>s.heap.IsTuple a xs/\s.heap.IsTuple b ys/\R (.ok (.ret (.ref (dv s.heap a b).objs.size))) {s with heap:=wt s.heap a b}):=
 .of_wp λc w A R s h=>by
  obtain⟨f,g,d,i,j⟩:=s;obtain⟨k,l,h⟩:=h;have m:=sub_zip;have n:WR (Shared.heap ⟨f,g,d,i,j⟩) a xs:=k;have p:WR (Shared.heap {Rj f a,g,d,i,j}) b ys:=Wk l λo e=>Qb _ e
  wp_walk using uB n,uB p
  exact{_,rfl,h}
theorem V7{a b:Addr}{xs ys:Array Value}(d:s.heap.IsTuple a xs)(f:s.heap.IsTuple b ys)
  (h:∀h',wo h' (s.heap.objs.size+4) (s.heap.objs.size+2) (s.heap.objs.size+3)->Ef h' (s.heap.objs.size+2) (.ref s.heap.objs.size) (.ref (s.heap.objs.size+1))->
   Ef h' (s.heap.objs.size+3) .none .none->h'.IsTupleIter s.heap.objs.size a 0->h'.IsTupleIter (s.heap.objs.size+1) b 0->(∀c o,s.heap.get? c=ba o->h'.get? c=ba o)->Q (.ref (s.heap.objs.size+4)) {s with heap:=h'}):
  ra (Ea prog w) A (call (.type "zip") [.ref a,.ref b]) Q E s:=by
 refine V_ F.called_zip (by decide) (F.typeCall_zip_2 _ _) (F.newCall_zip_2 _ _) (λg=>F.args_object_init_3 g _ _) F.entry_zip_new (E3 a b xs ys) {d,f,?_};have i:(Rj s.heap a).objs.size=s.heap.objs.size+1:=lh ..;have j:(Rj (Rj s.heap a) b).objs.size=s.heap.objs.size+2:=by rw[lh,i]
 have k:(Wz s.heap a b).objs.size=s.heap.objs.size+3:=by rw[lh,j]
 have l:(dv s.heap a b).objs.size=s.heap.objs.size+4:=by rw[lh,k]
 have m:(wt s.heap a b).get? (dv s.heap a b).objs.size=ba _:=Uc _ rfl;have n:(wt s.heap a b).get? (Wz s.heap a b).objs.size=ba _:=Qb _ (Uc _ rfl);have p:(wt s.heap a b).get? (Rj (Rj s.heap a) b).objs.size=ba _:=Qb _ (Qb _ (Uc _ rfl));have q:(wt s.heap a b).get? (Rj s.heap a).objs.size=ba _:=Qb _ (Qb _ (Qb _ (Uc _ rfl)));have r:(wt s.heap a b).get? s.heap.objs.size=ba _:=Qb _ (Qb _ (Qb _ (Qb _ (Uc _ rfl))));rw[l,k,j] at m;rw[j,i] at p;rw[k] at n;rw[i] at q;refine{{_,Uc _ rfl,rfl},?_};show Q (.ref (dv s.heap a b).objs.size) _;rw[l];exact h _ {_,_,m,.inl rfl,_,rfl} p n {_,r,rfl,rfl} {_,q,rfl,rfl} λc o e=>Qb _ (Qb _ (Qb _ (Qb _ (Qb _ e))))
end HT
namespace L2
def Qy(K:xa)(a b:Addr):It:=
 ⟨λi H=>∃(xs ys:List V)(x y:V),Ba K H a xs/\Ba K H b ys/\xs[i]?=ba x/\ys[i]?=ba y,
  λi H v H'=>∃T x y,v= .ref T/\H T=ia/\H'=upd H T (.tup [x,y])/\(∀xs,Ba K H a xs->xs[i]?=ba x)/\∀ys,Ba K H b ys->ys[i]?=ba y,
  λi H=>∃xs ys:List V,Ba K H a xs/\Ba K H b ys/\(xs.length<=i\/ys.length<=i)⟩
theorem uV{nm:Str}{d:La}{z TI TO f g:Addr}(D:HT.Ls z TI TO f g a b):
  Turn P w K (.Name nm d) (Qy K a b) [z,TI,TO,f,g] z (λi h=>HT.wo h z TI TO/\Ef h TI (.ref f) (.ref g)/\(∃x y,Ef h TO x y)/\h.IsTupleIter f a i/\h.IsTupleIter g b i) where
 mem:=by simp
 obj:=λi h j c m=>by
  obtain⟨⟨n,f1,r,_⟩,t,⟨x,y,B⟩,⟨o1,e1,_,d1⟩,⟨o2,e2,_,d2⟩⟩:=j;have e':c=z\/c=TI\/c=TO\/c=f\/c=g:=by simpa using m
  rcases e' with q|q|q|q|q
  .rw[q];exact{_,r,λv q=>nomatch q}
  .rw[q];exact{_,t,λv q=>nomatch q}
  .rw[q];exact{_,B,λv q=>nomatch q}
  .rw[q];exact{o1,e1,λv q=>by rw[d1] at q;cases q}
  .rw[q];exact{o2,e2,λv q=>by rw[d2] at q;cases q}
 keep:=λi h C j k=>by
  obtain⟨⟨n,f1,r,hf⟩,t,⟨x,y,B⟩,G,J⟩:=j;exact{{n,f1,k z (by simp) _ r,hf},k TI (by simp) _ t,{x,y,k TO (by simp) _ B},HT.Jg G λo q=>k f (by simp) o q,HT.Jg J λo q=>k g (by simp) o q}
 item:=by
  intro X hP hw hK m i L s σ H E I hf j hg;subst hP hw hK;obtain⟨r,t,B,G,J⟩:=j;obtain⟨xs,ys,x,y,M,N,hx,hy⟩:=hg;obtain⟨O,rv,p,_⟩:=I.tuple M;obtain⟨R,S,p2,_⟩:=I.tuple N;obtain⟨u,hu,ru⟩:=rv.get hx;obtain⟨u2,hu2,ru2⟩:=S.get hy;refine HT.lY D r t B G J p p2 (x:=u) (y:=u2) (by simpa using hu) (by simpa using hu2) λC z' TO' h1' h2' T U=>?_;refine{_,rfl,wpAny_pure ?_};have new:Cd X.prog X.w (upd H s.heap.objs.size (.tup [x,y])) C s.heap.objs.size (.tup [x,y]):=
   {by show 2<=sizeLine;decide,[u,u2],.cons ru (.cons ru2 .nil),{_,T,rfl,_,rfl},_,T,rfl}
  have I1:Inv X L σ (upd H s.heap.objs.size (.tup [x,y])) {s with heap:=C}:=
   I.RE (t':=s.toks) (ch:=[z,TI,TO,f,g]) (λc o V q=>U c o (λW=>V (by simp[W])) (λW=>V (by simp[W])) (λW=>V (by simp[W])) (λW=>V (by simp[W])) q) hf (rb _) new
  refine{.ref s.heap.objs.size,_,I1,rfl,{_,x,y,rfl,I.vb.fresh (rb _),rfl,λl hl=>by rw[I.DA hl M];exact hx,λl hl=>by rw[I.DA hl N];exact hy},{z',?_,TO',h1',h2'},λc Y=>?_}
  .exact U _ _ D.a1.1 D.a2.1 D.a2.2.1 D.a2.2.2.1 t
  .have hlt:c< s.heap.objs.size:=by
    have e':c=z\/c=TI\/c=TO\/c=f\/c=g:=by simpa using Y
    rcases e' with q|q|q|q|q
    .rw[q];obtain⟨_,_,e,_⟩:=r;exact cc e
    .rw[q];exact cc t
    .rw[q];obtain⟨_,_,e⟩:=B;exact cc e
    .rw[q];obtain⟨_,e,_⟩:=G;exact cc e
    .rw[q];obtain⟨_,e,_⟩:=J;exact cc e
   rw[Ja (Kd hlt)];exact(hf c Y).1
 done:=by
  intro X hP hw hK m i L s σ H E I hf j hg;subst hP hw hK;obtain⟨r,t,B,G,J⟩:=j;obtain⟨xs,ys,M,N,Z⟩:=hg;obtain⟨O,rv,p,_⟩:=I.tuple M;obtain⟨R,S,p2,_⟩:=I.tuple N;have l1:=rv.length;have l2:=S.length;have he:O.toArray[i]?=ia\/R.toArray[i]?=ia:=by
   rcases Z with q|q
   .exact .inl (by simp;omega)
   .exact .inr (by simp;omega)
  exact HT.FU (I.ok.hd m) D r t B G J p p2 he λC U=>⟨rfl,I.wL (t':=s.toks) (ch:=[z,TI,TO,f,g]) (λc o V q=>
   U c o (λW=>V (by simp[W])) (λW=>V (by simp[W])) (λW=>V (by simp[W])) (λW=>V (by simp[W])) q) hf⟩
 self:=λA i s Q E j h=>by
  obtain⟨⟨n,f1,r,_⟩,_⟩:=j;have T:s.TypeIs (.ref z) "zip":={_,r,rfl};refine OB T l' (Rg l' T F.entry_zip_iter ?_ (F.args_zip_iter_1 _));show ra _ _ (ret (.ref z)) _ _ s;exact wpAny_pure {_,rfl,"zip",_,T,VB.lookup,h}
def uL(K:xa)(ta:TA):TI:=λσ H R=>ta σ H λvs H1=>∃a b xs ys,vs=[.ref a,.ref b]/\Ba K H1 a xs/\Ba K H1 b ys/\R (Qy K a b) H1
theorem qY{d:ua}{f:TA}{p pos g:La}{nm:Str}(i:Gl X "zip")(j:X.mg "zip"=ia)(k:PA X [e,d] f)
  (l:autoParam (Jc [e,d] X.env=(ma,Ic e X.env)::Jc [d] X.env) ZQ0._auto_1) (m:autoParam ((Ye pos (Jc [d] X.env)).any (·.1)=ma) ZQ0._auto_1):
  PI X (.Name nm g) (.Call (.Name "zip" p) [e,d] [] pos) (uL X.K f):=by
 intro n s o H R I h;refine Call_ (xq I i j jL (LG (Gb (k pos n s o H _ I h) λt u ⟨vs,H1,I1,r1,q1⟩=>?_) l m));obtain⟨a,b,v,w,x,y,z,q⟩:=q1;subst x;cases r1 with
 |cons r A=>
  cases A with
  |cons B A=>
   cases A;cases r;cases B;obtain⟨C,D,E,_⟩:=I1.tuple y;obtain⟨F,G,J,_⟩:=I1.tuple z;have K:a< u.heap.objs.size:=E.lt;have L:b< u.heap.objs.size:=J.lt;refine HT.V7 E J λM N O P Q S U=>?_;have V:Inv X n o H1 {u with heap:=M}:=I1.kept (t':=u.toks) U;have T:Turn X.prog X.w X.K (.Name nm g) (Qy X.K a b) [u.heap.objs.size+4,u.heap.objs.size+2,u.heap.objs.size+3,u.heap.objs.size,u.heap.objs.size+1] (u.heap.objs.size+4) _:=uV (HT.JZ u.heap.objs.size a b K L);refine T.self _ 0 _ _ _ {N,O,{_,_,P},Q,S} ?_;refine{u.heap.objs.size+4,[u.heap.objs.size+4,u.heap.objs.size+2,u.heap.objs.size+3,u.heap.objs.size,u.heap.objs.size+1],_,_,H1,rfl,V,T,{N,O,{_,_,P},Q,S},λc W=>?_,q};have Y:u.heap.objs.size<=c:=by
    have Z:c=u.heap.objs.size+4\/c=u.heap.objs.size+2\/c=u.heap.objs.size+3\/c=u.heap.objs.size\/c=u.heap.objs.size+1:=by simpa using W
    rcases Z with q|q|q|q|q<;>rw[q]<;>first|exact Zo _ _|exact rb _
   exact I1.Xp Y (I1.vb.fresh Y)
end L2
namespace Tl
def Se(t:Ka):List PyData:=t.map Gn
theorem Gq:∀t:Ka,Ll K H (jd t) (Se t)
 |[]=> .nil
 |x::t=> .cons (.int _) (Gq t)
theorem jw:∀t:Ka,oi (Se t)=da
 |[]=>by simp[Se,oi]
 |x::t=>by
  show oi (Gn x::Se t)=da;simp only[oi,wm,jw t,my]
theorem Xy:∀t:Ka,Dg (Se t)<=1
 |[]=>by simp[Se,Dg]
 |x::t=>by
  have a:=Xy t;show Dg (Gn x::Se t)<=1;simp only[Dg,ip];omega
theorem BJ(t:Ka):Oi (.tuple (Se t))=da:=by
 unfold Oi;have a:=Xy t;rw[Kc];constructor
 .simp only[wm,jw]
 .simp only[ip];exact Xc (by omega:Dg (Se t)+1<=_)
theorem mz:∀a b:Ka,wj (Se a) (Se b)=decide (a=b)
 |[],[]=>by simp[Se,wj]
 |[],_::_=>by simp[Se,wj]
 |_::_,[]=>by simp[Se,wj]
 |x::a,y::b=>by
  have c:=mz a b;show wj (Gn x::Se a) (Gn y::Se b)=_;simp only[wj,og,c];by_cases e:x=y
  .subst e;simp
  .simp[e]
noncomputable def Ul(ts:List Ka):List PyData:=ts.map λt=>ir (Se t)
theorem KN:∀{ps:List Addr}{ts:List Ka},Bf H ps ts->Ll K H (ps.map V.ref) (Ul ts)
 |_,_,.nil=> .nil
 |_,_,.cons a r=> .cons (.tup (Ba.of a) (Gq _)) (KN r)
theorem zC:∀ts:List Ka,oi (Ul ts)=da
 |[]=>by simp[Ul,oi]
 |t::ts=>by
  show oi (ir (Se t)::Ul ts)=da;simp only[oi,wm,jw,zC ts,my]
theorem PK:∀ts:List Ka,Dg (Ul ts)<=2
 |[]=>by simp[Ul,Dg]
 |t::ts=>by
  have a:=PK ts;have b:=Xy t;show Dg (ir (Se t)::Ul ts)<=2;simp only[Dg,ip];omega
theorem aO(t:Ka):∀ts:List Ka,((Ul ts).countP λy=>og y (.tuple (Se t)))=ts.count t
 |[]=>rfl
 |u::ts=>by
  show List.countP (λy=>og y (.tuple (Se t))) (ir (Se u)::Ul ts)=_;rw[y',aO t ts,pH];simp only[og,mz]
  congr 1
  by_cases h:u=t
  .subst h;simp
  .rw[Rf h,lp h]
inductive Zu(K:xa)(x:V)(y:V)(H:Hp)(Q:VK):Prop|mk:∀a b t u,x= .ref a->y= .ref b->Ba K H a (jd t)->Ba K H b (jd u)->Q (.bl (decide (t=u))) H->Zu K x y H Q
theorem CC(c:X.K=K)(d:X.A.units+64< Wc):zd X (ee .Eq) (Zu K):=by
 subst c;intro e s f H x y v u Q I g i h;obtain⟨a,b,t,w,rfl,rfl,j,k,q⟩:=h;refine Wv d e s f H _ _ v u Q I g i {_,_,.tup j (Gq t),.tup k (Gq w),BJ t,BJ w,?_};simp only[og,mz];exact q
inductive WC(x:V)(xs:List V)(H:Hp)(Q:VK):Prop|mk:∀(a:Addr)(t:Ka)(c:Int),x=V.ref a->xs=[.int c]->H a=ba (.tup (jd t))->Q (.int ((t.count c:Nat):Int)) H->WC x xs H Q
theorem MQ:∀t:Ka,(jd t).all ph=da
 |[]=>rfl
 |_::t=>by
  show(da&&(jd t).all ph)=da;rw[MQ t];rfl
theorem WJ(c:Int):∀{t:Ka}{us:List Value},yb (jd t) us->us.countP (Hg (.int c))=t.count c
 |[],us,r=>by cases r;rfl
 |x::t,us,r=>by
  have r:yb (V.int x::jd t) us:=r;cases r with
  |cons h q=>
   rw[y',pH,WJ c q,Bv h rfl];rfl
theorem tW:mx X "tuple.count" WC:=by
 intro b s d H x e v f Q I g i h;obtain⟨a,t,c,rfl,rfl,j,q⟩:=h;cases g;cases i with
 |cons k l=>
  rename_i m o
  cases l;obtain⟨p,r,⟨⟨u,w,y,z⟩,A,B,n,hd⟩,C⟩:=I.tuple (Ba.of j);simp only at B hd;subst B hd;refine eu B' {_,A,rfl} PySem.F.entry_tuple_count (PySem.F.args_tuple_count_2 _ _)
   (SeqAt.tuple_countAt a p.toArray n w z m (Hg (.int c))) {A,λD E=>yq k rfl r (MQ t) D (by simpa using E),?_}
  refine{.int ((t.count c:Nat):Int),H,I.tok _,{s.toks,?_},q};rw[WJ c r]
inductive iF(K:xa)(x:V)(xs:List V)(H:Hp)(Q:VK):Prop|mk:∀(l b:Addr)(ps:List Addr)(ts:List Ka)(t:Ka),x=V.ref l->xs=[.ref b]->H l=ba (.lst (ps.map V.ref))->Bf H ps ts->Ba K H b (jd t)->Q (.int ((ts.count t:Nat):Int)) H->iF K x xs H Q
theorem XW(a:X.A.units+64< Wc):MA X "list.count" (iF X.K):=by
 intro c s d H x f v g Q I i j h;obtain⟨l,b,k,m,t,rfl,rfl,o,p,r,q⟩:=h;cases i;cases j with
 |cons u w=>
  rename_i y z
  cases w;obtain⟨A,B⟩:=Dp.reads I (.tuple (Se t)) _ y (.tup r (Gq t)) u;obtain⟨C,D⟩:=Dp.reads I (.list (Ul m)) _ (.ref l) (.lst (Ia.of o) (KN p)) rfl;obtain⟨_,E,n,F,G⟩:=(show Cd X.prog X.w H s.heap l (.lst (k.map V.ref)) from I.vb l _ o);cases D with
  |list J K L M=>
   rw[G] at J;cases J;cases L;have N:=PK m;refine eu C' {_,G,rfl} PySem.F.entry_list_count (PySem.F.args_list_count_2 _ _)
    (SeqAt.list_countAt l E.toArray n ia #[] y _) {G,SeqAt.items_eqAt M B (zC m) (by simp only[wm,jw]) (by omega),?_}
   refine{.int ((m.count t:Nat):Int),H,I.tok _,{s.toks,?_},q};have e:=aO t m;have O:=SeqAt.readsAll_map _ _ _ (zC m) M;rw[<-O,List.countP_map] at e;rw[<-e];rfl
abbrev Ent:=Text×Text
abbrev Ih(H:Hp)(kvs:List (List Key×V))(x:List Ent):Prop:=Paired (λa f=>a.1=key f.1/\∃b,a.2=V.ref b/\H b=ba (.tup (txt f.2))) kvs x
theorem Ih.Xa{a:Hp}{x:List Ent}(h:Ih H kvs x)(s:Fe H a):Ih a kvs x:=Paired.wh h λ_ _ ⟨e,b,h1,h2⟩=>{e,b,h1,s _ _ h2}
def DictAt(H:Hp)(d:Addr)(x:List Ent):Prop:=∃kvs,H d=ba (.dT kvs)/\Ih H kvs x
noncomputable def ff(d:Addr):List (Str×V):=Bd "files" (.ref d) []
theorem Me(d:Addr):(ff d).lookup ("files":Str)=ba (.ref d):=by
 unfold ff;rw[Ah,qa rfl]
theorem ND(d e:Addr):Bd "files" (.ref e) (ff d)=ff e:=by
 show(if("files":Str)="files" then [(("files":Str),V.ref e)] else _)=([("files",V.ref e)]:List (Str×V));rw[qa rfl]
structure uc(C:Addr)(H:Hp)(p d:Addr)(x:List Ent):Prop where
 ins:∃dx,H p=ba (.ins C dx (ff d))
 W7:DictAt H d x
noncomputable def look(x:List Ent)(q:Text):Option Text:=(x.find? λf=>decide (f.1=q)).map (·.2)
noncomputable def md(x:List Ent)(q d:Text):List Ent:=if(x.any λf=>decide (f.1=q))=da then x.map (λf=>if f.1=q then(f.1,d) else f) else x++[(q,d)]
theorem bG{a b:Text}:key a=key b↔a=b:={gA,λe=>by rw[e]}
theorem Mj{q:Text}:∀{kvs:List (List Key×V)}{x:List Ent},Ih H kvs x->(look x q=ia/\jf kvs (key q)=ia)\/∃d b,look x q=ba d/\jf kvs (key q)=ba (.ref b)/\H b=ba (.tup (txt d))
 |_,_,.nil=> .inl ⟨rfl,rfl⟩
 |kv::kvs,f::x,.cons ⟨e,b,a,c⟩ r=>by
  by_cases g:f.1=q
  .refine .inr {f.2,b,?_,?_,c}
   .unfold look;rw[qH (by simpa using g)];rfl
   .rw[Ot (by rw[e,g]),a]
  .have h:¬kv.1=key q:=by rw[e,bG];exact g
   have i:look (f::x) q=look x q:=by
    unfold look;rw[rH (by simpa using g)]
   rw[Tt h,i];exact Mj r
theorem vN{q:Text}:∀{kvs:List (List Key×V)}{x:List Ent},Ih H kvs x->(kvs.any λa=>decide (a.1=key q))=x.any λf=>decide (f.1=q)
 |_,_,.nil=>rfl
 |a::kvs,f::x,.cons ⟨e,b,c,d⟩ r=>by
  rw[ji,ji,vN r]
  congr 1
  rw[e];exact mh.mpr bG
theorem lQ{q d:Text}(a:H b=ba (.tup (txt d))):∀{kvs:List (List Key×V)}{x:List Ent},Ih H kvs x->
  Ih H (kvs.map λc=>if c.1=key q then(c.1,V.ref b) else c) (x.map λf=>if f.1=q then(f.1,d) else f)
 |_,_,.nil=> .nil
 |c::kvs,f::x,.cons ⟨e,g,h,i⟩ r=>by
  rw[Nb,Nb];refine .cons ?_ (lQ a r);by_cases j:f.1=q
  .rw[qa (by rw[e,j]),qa j];exact⟨e,b,rfl,a⟩
  .rw[oa (by rw[e,bG];exact j),oa j];exact⟨e,g,h,i⟩
theorem qw{x:List Ent}{q d:Text}(h:Ih H kvs x)(a:H b=ba (.tup (txt d))):Ih H (putK kvs (key q) (.ref b)) (md x q d):=by
 unfold putK md;rw[vN h];split
 .exact lQ a h
 .exact Yu h ⟨rfl,b,rfl,a⟩
theorem Pr:∀{kvs:List (List Key×V)}{x:List Ent}{i:Nat}{k:List Key}{v:V},Ih H kvs x->kvs[i]?=ba (k,v)->∃f,x[i]?=ba f/\k=key f.1/\∃b,v= .ref b/\H b=ba (.tup (txt f.2))
 |_,_,_,_,_,.nil,h=>by simp at h
 |_,f::_,0,_,_,.cons e r,h=>by
  simp at h;subst h;exact⟨f,rfl,e⟩
 |_,_,i+1,_,_,.cons _ r,h=>Pr (i:=i) r h
structure Lk(H H':Hp)(d:Addr)(kvs:List (List Key×V)):Prop where
 ne:∀b u,b≠d->H b=ba u->H' b=ba u
 fz:∃od,H' d=ba (.qc od (.dT kvs))
theorem Lk.at_{a:Hp}(l:Lk H a d kvs)(hd:H d=ba (.dT kvs)){u:HO}(h:H b=ba u)(c:u≠ .dT kvs):a b=ba u:=l.ne b u (Vb h hd c) h
theorem Lk.txt{a:Hp}(l:Lk H a d kvs)(hd:H d=ba (.dT kvs)){xs:List V}(h:H b=ba (.tup xs)):a b=ba (.tup xs):=l.at_ hd h (by intro z;cases z)
theorem Lk.Xa{a:Hp}(l:Lk H a d kvs)(hd:H d=ba (.dT kvs)):Fe H a:=λb c h=>l.txt hd h
theorem Lk.same{a c:Hp}(l:Lk H a d kvs)(s:ka a c):Lk H c d kvs:={λb u e h=>s b u (l.ne b u e h),by obtain⟨f,h⟩:=l.fz;exact{f,s _ _ h}}
theorem oM(a:Obj):Lk H (upd H d (.qc a (.dT kvs))) d kvs:={λb u c h=>by rw[Ja c];exact h,a,wa}
theorem FE{a:Hp}(l:Lk H a d kvs)(hd:H d=ba (.dT kvs)):ka H (upd a d (.dT kvs)):=λb u h=>by
 by_cases c:b=d
 .subst c;rw[wa,<-hd];exact h
 .rw[Ja c];exact l.ne b u c h
theorem gv{a:Hp}{c:Obj}(h:a d=ba (.qc c (.dT kvs))){o:HO}:Fe a (upd a d o):=λb f e=>by
 rw[Ja (Vb e h)];exact e
theorem tw{p:Addr}{x:List Ent}{j:Nat}{tt:TT}{a:TE}{Q:VK}{c:Type}(cl:dh K C)(g:Gh K C "files")(h:uc C H p d x)(l:σ[i]?=ba (ba (.ref p)))
  (m:V->c->Hp->Prop) (n:List (Option c)) (s:n.length=x.length) (t:∀y b H1 H2,Fe H1 H2->m y b H1->m y b H2) (hz:x.length< sizeLine) (hw:∀v,wipe ((wipe σ [j]).set j (ba v)) [j]=wipe σ [j])
  (u:∀(kvs:List (List Key×V))(k:Nat)(q:Addr)(f:Ent)(o:Option c)(H':Hp),H d=ba (.dT kvs)->Ih H kvs x->Lk H H' d kvs->x[k]?=ba f->n[k]?=ba o->H' q=ba (.tup (txt f.1))->∀(w:Hp->Prop)(z:VK),(∀A,o=ia->ka H' A->w A)->(∀y b B,o=ba b->ka H' B->m y b B->z y B)->
   tt ((wipe σ [j]).set j (ba (.ref q))) H' λb A=>if b=da then a ((wipe σ [j]).set j (ba (.ref q))) A z else w A)
  (hd:∀acc H' D,ka H H'->H D=ia->H' D=ba (.lst acc)->Paired (λy b=>m y b H') acc (n.filterMap id)->Q (.ref D) H'):
  Ss (Jk (Qz (zt K (Ua i) "files")) (Le j) tt a [j]) σ H Q:=by
 obtain⟨⟨E,F⟩,kvs,G,I⟩:=h;have J:p≠d:=Vb F G;have L:kvs.length=x.length:=bf I;refine{d,.dT kvs,G,trivial,λM=>?_};refine{_,l,p,C,E,ff d,.ref d,rfl,by rw[Ja J];exact F,cl,g,Me d,d,M,rfl,.inr {kvs,wa,λD N=>?_}};have O:Lk H (upd H d (.qc M (.dT kvs))) d kvs:=oM M;have P:D≠d:=λe=>by rw[e,wa] at N;cases N
 refine Sm (qx kvs) m n (by rw[s,L]) t (λH' R=>R _ _ wa) N (by rw[L];exact hz) hw (λk y o H' hk S r R w z T U=>?_) (λacc H' R h1 h2=>?_)
 .obtain⟨kk,v,q,W,rfl,X⟩:=r;obtain⟨f,hf,e,_⟩:=Pr I W;rw[e,Xe] at X;exact u kvs k q f o H' G I (O.same R) hf S X w z T U
 .have Y:=R _ _ (show upd H d (.qc M (.dT kvs)) d=ba (.qc M (.dT kvs)) from wa);have Z:H D=ia:=by rw[Ja P] at N;exact N
  refine{Y,hd acc _ D (FE (O.same R) G) Z (by rw[Ja P];exact h1) (Paired.wh h2 λy b q=>t y b _ _ (gv Y) q)}
end Tl
variable{x:List Tl.Ent}
namespace Tl
theorem CV{p:Text}(h:Bg p=da):∀c∈p,ik c=da:=by
 unfold Bg at h;simp only[Kc,Df] at h;exact h.2.2.1
theorem eL(c:Nat):∀(t:Text)(x:Nat),x∈t->x=c\/∃p∈Za c t,x∈p
 |[],x,h=>by simp at h
 |y::r,x,h=>by
  have a:=eL c r x;unfold Za;by_cases b:y=c
  .rw[qa b];rcases jc.mp h with e|h
   .exact .inl (e.trans b)
   .rcases a h with e|⟨p,d,f⟩
    .exact .inl e
    .exact .inr {p,sf _ d,f}
  .rw[oa b];cases e:Za c r with
   |nil=>exact absurd e (Ki c r)
   |cons z l=>
    show x=c\/∃p∈(y::z)::l,x∈p;rcases jc.mp h with g|h
    .exact .inr {y::z,by simp,by simp[g]}
    .rcases a h with g|⟨p,d,f⟩
     .exact .inl g
     .rw[e] at d;rcases jc.mp d with i|d
      .exact .inr {y::z,by simp,by rw[i] at f;simp[f]}
      .exact .inr {p,by simp[d],f}
theorem CW{t:Text}(h:gb t=da):∀c∈t,c=47\/ik c=da:=by
 intro c a;rw[Jw] at h;split at h
 .cases h
 .simp only[Kc,Df] at h;rcases eL 47 t c a with e|⟨p,b,d⟩
  .exact .inl e
  .exact .inr (CV (h.2 p b) c d)
theorem Mg{t:Text}(h:gb t=da):t≠[]:=by
 intro e;subst e
 revert h
 decide
theorem mq{t:Text}(h:gb t=da):t.length<=96:=by
 rw[Jw] at h;split at h
 .cases h
 .omega
theorem uN{t:Text}(h:gb t=da):58∉t:=λm=>by
 rcases CW h 58 m with e|e
 .cases e
 .revert e;decide
theorem F8{r:Text}:gb (47::r)=ma:=by
 rw[Jw];split
 .rfl
 .have e:Za 47 (47::r)=[]::Za 47 r:=by
   conv=>lhs;unfold Za
   rw[qa rfl]
  rw[e,du];have:Bg []=ma:=by decide
  rw[this,kh,LB]
theorem split_len(c:Nat):∀(t:Text)(x:Text),x∈Za c t->x.length<=t.length
 |[],x,h=>by
  simp[Za] at h;subst h;exact rb _
 |y::r,x,h=>by
  have a:=split_len c r;unfold Za at h;by_cases b:y=c
  .rw[qa b] at h;rcases jc.mp h with e|h
   .subst e;exact Pd _
   .exact En (a x h)
  .rw[oa b] at h;cases e:Za c r with
   |nil=>exact absurd e (Ki c r)
   |cons z l=>
    rw[e] at h;have h:x∈(y::z)::l:=h;rw[e] at a;rcases jc.mp h with d|h
    .rw[d];exact D' (a z (by simp))
    .exact En (a x (by simp[h]))
theorem ot(c:Nat):∀(a b:Text),Za c (a++c::b)=Za c a++Za c b
 |[],b=>by
  show Za c (c::b)=[[]]++Za c b
  conv=>lhs;unfold Za
  rw[qa rfl];rfl
 |x::a,b=>by
  have d:=ot c a b;show Za c (x::(a++c::b))=Za c (x::a)++Za c b
  conv=>lhs;unfold Za
  conv=>rhs;arg 1;unfold Za
  by_cases h:x=c
  .rw[qa h,qa h,d];rfl
  .rw[oa h,oa h,d];cases e:Za c a with
   |nil=>exact absurd e (Ki c a)
   |cons y l=>rfl
theorem dz{t:Text}(h:gb t=da):∀p∈Za 47 t,Bg p=da:=by
 rw[Jw] at h;split at h
 .cases h
 .simp only[Kc,Df] at h;exact h.2
theorem pO{p:Text}(h:Bg p=da):p≠[]:=λe=>by
 subst e
 revert h
 decide
theorem fW{p:Text}(h:Bg p=da):p.length<=32:=by
 unfold Bg at h;simp only[Kc,decide_eq_true_eq] at h;exact h.2.1
theorem zq:vm "//"=[47,47]:=by decide
theorem Zy(t:Text):(Qh t).isSome=(if !decide (t.take 2=[47,47])|| !t.contains 58 then ma else xf ((t.take (t.findIdx (·==58))).drop 2)&&gb (t.drop (t.findIdx (·==58)+1)))/\
  ∀l,Qh t=ba l->vp l=t:=by
 unfold Qh;rw[zq];by_cases h:t.take 2=[47,47]
 .obtain⟨r,rfl⟩:∃r,t=47::47::r:=by
   match t,h with
   |[],h=>simp at h
   |[_],h=>simp at h
   |x::y::r,h=>
    simp at h;exact{r,by rw[h.1,h.2]}
  have a:(47::47::r).drop 2=r:=rfl;have b:(47::47::r).findIdx (·==58)=r.findIdx (·==58)+2:=by
   rw[dS,dS];simp
  have d:(47::47::r).contains 58=r.contains 58:=by simp
  have e:(λc=> !(c != 58))=(λc:Nat=>c==58):=by
   funext c
   simp[bne]
  have f:r.takeWhile (λc=>c != 58)=r.take (r.findIdx (·==58)):=by
   rw[List.takeWhile_eq_take_findIdx_not,e]
  have g:r.dropWhile (λc=>c != 58)=r.drop (r.findIdx (·==58)):=by
   rw[List.dropWhile_eq_drop_findIdx_not,e]
  simp only[a,b,d,f,g];have i:((47::47::r).take (r.findIdx (·==58)+2)).drop 2=r.take (r.findIdx (·==58)):=by simp
  have j:(47::47::r).drop (r.findIdx (·==58)+2+1)=r.drop (r.findIdx (·==58)+1):=by simp
  rw[i,j];by_cases k:58∈r
  .have m:r.findIdx (·==58)< r.length:=mH.mpr {58,k,by simp};have n:r.contains 58=da:=by simpa using k
   have o:(r.drop (r.findIdx (·==58))).isEmpty=ma:=by
    rw[List.isEmpty_eq_false_iff];intro z;have:=wc He z;simp at this;omega
   have p:(r.drop (r.findIdx (·==58))).drop 1=r.drop (r.findIdx (·==58)+1):=by rw[Hn]
   rw[o,p,n];have q:r[r.findIdx (·==58)]=58:=dk (ZR (w:=m));constructor
   .by_cases s:xf (r.take (r.findIdx (·==58)))=da<;>by_cases u:gb (r.drop (r.findIdx (·==58)+1))=da<;>simp[s,u]
   .intro l v;split at v
    .cases v;unfold vp;rw[zq];show [47,47]++(r.take _++58::r.drop _)=_;have A:r.take (r.findIdx (·==58))++58::r.drop (r.findIdx (·==58)+1)=r:=by
      have:=gy m;rw[q] at this;rw[this,Ph]
     rw[A];rfl
    .cases v
  .have n:r.contains 58=ma:=by simpa using k
   have B:r.findIdx (·==58)=r.length:=by
    rw[E'];intro x C;simp;intro z;subst z;exact k C
   rw[n,B];have:(r.drop r.length).isEmpty=da:=by simp
   rw[this];simp
 .simp[h]
noncomputable def Np(p t:Text):Option Text:=(sH p t).map vp
theorem FN(p t:Text):Np p t=(if(Qh t).isSome then ba t else if decide (t.take 2=[47,47])&&gb (t.drop 2) then ba ([47,47]++t.drop 2++[58]++((Za 47 (t.drop 2)).getLastD []))
  else if decide (t.take 1=[58])&&gb (t.drop 1) then ba ([47,47]++p++[58]++t.drop 1) else if gb t then ba ([47,47]++p++[58]++t) else ia):=by
 unfold Np sH;cases e:Qh t with
 |some l=>
  have:=(Zy t).2 l e;simp[this]
 |none=>
  simp only[Option.isSome_none,yc,Ub];rw[zq];by_cases a:t.take 2=[47,47]
  .obtain⟨r,rfl⟩:∃r,t=47::47::r:=by
    match t,a with
    |[],h=>simp at h
    |[_],h=>simp at h
    |x::y::r,h=>
     simp at h;exact{r,by rw[h.1,h.2]}
   have b:(47::47::r).drop 2=r:=rfl;rw[b];by_cases c:gb r=da
   .have d:r≠[]:=Mg c;have f:(uu r).getLast?.getD []=(Za 47 r).getLastD []:=by
     unfold uu gp;cases r with
     |nil=>exact absurd rfl d
     |cons x l=>
      show((Za 47 (x::l)).getLast?).getD []=_;rw[F']
    simp[c,vp,zq,f]
   .have g:gb (47::47::r)=ma:=F8;simp[c,g]
  .rw[oa a];have i:decide (t.take 2=[47,47])=ma:=Rf a;rw[i,kh];simp only[yc,Ub];by_cases j:t.head?=ba 58
   .obtain⟨r,rfl⟩:∃r,t=58::r:=by
     match t,j with
     |[],h=>simp at h
     |x::r,h=>
      simp at h;exact{r,by rw[h]}
    have b:(58::r).drop 1=r:=rfl;have k:decide ((58::r).take 1=[58])=da:=by simp
    rw[qa j,b,k,gr];by_cases m:gb r=da
    .simp[m,vp,zq]
    .have n:gb (58::r)=ma:=by
      cases q:gb (58::r) with
      |false=>rfl
      |true=>exact absurd (Mh) (uN q)
     simp[m,n]
   .have k:decide (t.take 1=[58])=ma:=by
     match t,j with
     |[],_=>rfl
     |x::r,h=>
      simp at h;simp[h]
    rw[oa j,k,kh];simp only[yc,Ub];by_cases m:gb t=da
    .simp[m,vp,zq]
    .simp[m]
theorem pX{p t l:Text}(h:Np p t=ba l):l.length<=p.length+2*t.length+3:=by
 rw[FN] at h;split at h
 .cases h;omega
 .split at h
  .cases h;have a:=Ki 47 (t.drop 2);have b:(Za 47 (t.drop 2)).getLastD []∈Za 47 (t.drop 2):=by
    rw[F',List.getLast?_eq_some_getLast a];exact List.getLast_mem a
   have:=split_len 47 (t.drop 2) _ b;simp at this⊢;omega
  .split at h
   .cases h;simp;omega
   .split at h
    .cases h;simp;omega
    .cases h
structure Zr(K:xa)(mg:Str->Option Value):Prop where
 Qm:bc mg "COLON_labels" (.int 58)
 rF:∃r,bc mg "ROOT" (.ref r)/\∀H:Hp,Ba K H r (txt [47,47])
 PATH:bc mg "PATH" (.int (-1))
 LABEL:bc mg "LABEL_refusals" (.int (-8))
 list:mg "list"=ia
def nums(l:List Int):List V:=l.map V.int
inductive SA(K:xa)(vs:List V)(H:Hp)(Q:VK)(X3:XK):Prop|mk:∀a b u n,vs=[.ref a,.ref b]->H a=ba (.tup (txt u))->H b=ba (.tup (txt n))->u.length<=100000->n.length<=100000->(∀H' p,ka H H'->Ba K H' p (txt ([47,47]++u++[58]++n))->Q (.ref p) H')->SA K vs H Q X3
inductive yD(K:xa)(vs:List V)(H:Hp)(Q:VK)(X3:XK):Prop|mk:∀a b u t,vs=[.ref a,.ref b]->H a=ba (.tup (txt u))->H b=ba (.tup (txt t))->u.length<=100000->t.length<=100000->(∀H',ka H H'->match Np u t with
  |none=>Q .Tb H'
  |some l=>∀p,Ba K H' p (txt l)->Q (.ref p) H')->yD K vs H Q X3
inductive Xr(g:Text->Text->List Int)(vs:List V)(H:Hp)(Q:VK)(X3:XK):Prop|mk:∀a b t u,vs=[.ref a,.ref b]->H a=ba (.tup (txt t))->H b=ba (.tup (txt u))->t.length<=100000->u.length<=100000->(∀H' l,ka H H'->H' l=ba (.lst (nums (g t u)))->Q (.ref l) H')->Xr g vs H Q X3
theorem Xf{n:Nat}(h:n<=1000000):n<=sizeLine:=Bc h (by decide)
theorem VX(G:GF K mg "absolute_label" KL ["package","name"])(T:Zr K mg):Aa P w K mg base 1 "absolute_label" (SA K):=by
 obtain⟨r,c,d⟩:=T.rF;refine G.go (N:=["package","name"]) ?_;rintro f e A g s H h Q E i j X D ⟨a,b,u,n,rfl,l,m,o,p,k⟩;refine{_,Ca (Oa (Fc vF (Fc vF (Fc vF (Wa c) (pv 0)) (Mf (la (Wa T.Qm) pa))) (pv 1))),?_};refine{_,rfl,r,a,[47,47],u,rfl,rfl,d H,Ba.of l,Xf (by simp;omega),λt v x y=>{Lc,λq z=>{t,q,_,[58],rfl,rfl,Rn (Qa z) y,Ba.of wa,Xf (by simp;omega),λB C F I=>?_}}};have J:ka H C:=x.trans ((Qa z).trans F);exact{_,rfl,B,b,_,n,rfl,rfl,I,Ba.of (J _ _ m),Xf (by simp;omega),λL M O R=>k M L (J.trans O) R}
theorem i3{H0:Hp}{r:Addr}{t:Text}(i n:Nat)(u:Text)(b:σ[i]?=ba (ba (.ref a)))(c:H0 a=ba (.tup (txt t)))(d:∀H:Hp,Ba K H r (txt u)):
  Pb H0 (Ed (Vc (Ip K) (Ft Ms (Ua i) Ys (Xt (tC (.int (n:Nat))))) (tC (.ref r)))) σ (!decide (t.take n=u)):=λH Q s q=>by
 refine{_,b,_,rfl,a,t,rfl,s _ _ c,λp e f g=>{p,r,_,_,rfl,rfl,Ba.of g,d e,_,rfl,?_}};rw[Nt];exact q e (s.trans f)
theorem uX{H0:Hp}{r:Addr}{t:Text}(i n:Nat)(u:Text)(b:σ[i]?=ba (ba (.ref a)))(c:H0 a=ba (.tup (txt t)))(d:∀H:Hp,Ba K H r (txt u)):
  Pb H0 (Ed (Vc (Vm K) (Ft Ms (Ua i) Ys (Xt (tC (.int (n:Nat))))) (tC (.ref r)))) σ (decide (t.take n=u)):=λH Q s q=>by
 refine{_,b,_,rfl,a,t,rfl,s _ _ c,λp e f g=>{p,r,_,_,rfl,rfl,Ba.of g,d e,_,rfl,?_}};rw[Nt];exact q e (s.trans f)
theorem BX{H0:Hp}{t:Text}{b:TA}(i n:Nat)(u:Text)(c:σ[i]?=ba (ba (.ref a)))(d:H0 a=ba (.tup (txt t)))(e:∀H Q,Q (txt u) H->b σ H Q)(f:autoParam (u.length<=1000) ZQ1._auto_1):
  Pb H0 (Ed (Vc (Vm K) (Ft Ms (Ua i) Ys (Xt (tC (.int (n:Nat))))) (Kp b))) σ (decide (t.take n=u)):=λH Q s q=>by
 refine{_,c,_,rfl,a,t,rfl,s _ _ d,λp g h j=>e g _ {?_,λk l=>{p,k,_,_,rfl,rfl,Rn (Qa l) (Ba.of j),Ba.of wa,_,rfl,?_}}}
 .rw[gc];exact Ag (Jd f)
 .rw[Nt];exact q _ ((s.trans h).trans (Qa l))
theorem BO{H0:Hp}{t:Text}(i c:Nat)(b:σ[i]?=ba (ba (.ref a)))(d:H0 a=ba (.tup (txt t))):
  Pb H0 (Ed (Vc (Ut K da) (tC (.int (c:Nat))) (Ua i))) σ (!t.contains c):=λH Q s q=>by
 refine{_,b,a,_,rfl,.inr (Ba.of (s _ _ d)),rfl,bw t,_,rfl,?_};show Q (!gh (.int ((c:Nat):Int)) (txt t)) H;rw[aB];exact q H s
theorem SK{H0:Hp}{t:Text}{g:Text->Bool}(i n:Nat)(b:σ[i]?=ba (ba (.ref a)))(c:H0 a=ba (.tup (txt t))):
  Pb H0 (tB (me (spT g) [] E0 (Kb (Ft Ms (Ua i) (Xt (tC (.int (n:Nat)))) Ys) Xb))) σ (g (t.drop n)):=λH Q s q=>by
 refine{_,b,_,rfl,a,t,rfl,s _ _ c,λp d e f=>{p,_,rfl,f,λh j=>{_,rfl,?_}}};rw[Km];exact q h ((s.trans e).trans j)
theorem sF{H0:Hp}{t:Text}{g:Text->Bool}(i:Nat)(b:σ[i]?=ba (ba (.ref a)))(c:H0 a=ba (.tup (txt t))):
  Pb H0 (tB (me (spT g) [] E0 (Kb (Ua i) Xb))) σ (g t):=λH Q s q=>
 {_,b,a,t,rfl,s _ _ c,λd e=>{_,rfl,q d (s.trans e)}}
theorem Yj{H0:Hp}{t:Text}{g:Text->Bool}(i:Nat)(b:σ[i]?=ba (ba (.ref a)))(c:H0 a=ba (.tup (txt t))):
  Pb H0 (Ol (tB (me (spT g) [] E0 (Kb (Ua i) Xb)))) σ (!g t):=(sF i b c).not
theorem p8(G:GF K mg "is_absolute_label" WK ["text"])(T:Zr K mg)(b:Aa P w K mg base 4 "is_empty_or_path" (spT xf))(c:Aa P w K mg base 3 "is_path" (spT gb)):
  Aa P w K mg base 5 "is_absolute_label" (spT λt=>(Qh t).isSome):=by
 obtain⟨r,d,g⟩:=T.rF;refine G.go (N:=["text","colon"]) ?_;rintro f h A j s H l Q E m n X D ⟨a,t,rfl,o,k⟩;have q:=n.units;refine⟨_,Ga (Lb (PW.pt (vh (fc (yx q) (Oe Ff (pv 0) Gg (Ud Sb)) (Wa d) (Yb _)) (ij (fc oO (Wa T.Qm) (pv 0) (by with_unfolding_all rfl))))) (Ca (Oa xi)) Ob)
  (Ga (nc (i:=1) (oz uH lH eS DF (pv 0) (la (Wa T.Qm) pa)))
  (Ca (Oa (lO (Ya b n (la (Oe Ff (pv 0) (Ud Sb) (Ud (pv 1))) pa)) (Lm (Ya c n (la (Oe Ff (pv 0) (Ud (Fc We (pv 1) Sb)) Gg) pa))))))),?_⟩
 have e:=(Zy t).1;refine((i3 (K:=K) 0 2 [47,47] rfl o g).or λ_=>BO 0 58 rfl o) H _ (ka.refl H) λu v=>?_;refine cb (λx=>?_) (λx=>?_)
 .rw[qa x] at e;show Q (.bl ma) u;rw[<-e];exact k u v
 .rw[oa x] at e;have y:58∈t:=by
   rw[ki,not_or] at x;simpa using x.2
  refine{_,rfl,{a,_,rfl,v _ _ o},a,t,58,rfl,rfl,v _ _ o,y,?_};refine{_,rfl,_,rfl,_,rfl,_,rfl,a,t,rfl,v _ _ o,λp z B C=>{p,_,rfl,C,λF I=>{_,rfl,?_}}};have J:cut t (ba 2) (ba ((t.findIdx (·==58):Nat):Int))=(t.take (t.findIdx (·==58))).drop 2:=mv t 2 _;rw[J];have L:ka H F:=v.trans (B.trans I);refine cb (λhd=>?_) (λhd=>?_)
  .rw[hd,gr] at e;refine{_,rfl,_,rfl,_,_,rfl,rfl,_,rfl,a,t,rfl,L _ _ o,λM O R S=>{M,_,rfl,S,λU V=>?_}};have W:cut t (ba ((t.findIdx (·==58):Nat)+1)) ia=t.drop (t.findIdx (·==58)+1):=Km t _;rw[W,<-e];exact k U (L.trans (R.trans V))
  .rw[show xf ((t.take (t.findIdx (·==58))).drop 2)=ma by simpa using hd,kh] at e;rw[<-e];exact k F L
theorem JU(G:GF K mg "told_label" ZI ["package","text"])(T:Zr K mg)(h0:Aa P w K mg base 5 "is_absolute_label" (spT λt=>(Qh t).isSome))(c:Aa P w K mg base 3 "is_path" (spT gb))
  (h3:Aa P w K mg base 1 "parts_of" Mo) (h4:Aa P w K mg base 1 "absolute_label" (SA K)):Aa P w K mg base 6 "told_label" (yD K):=by
 obtain⟨r,hr1,hr2⟩:=T.rF;refine G.go (N:=["package","text","path"]) ?_;rintro f cdv A outer s H vs Q E nd d X D ⟨a,b,u,t,rfl,ha,h,j,hzt,k⟩;have hu:=d.units;have m:Ad 1 _:=d.mono (by decide);have n:Ad 3 _:=d.mono (by decide);refine⟨_,Ga (Lb (Nd (Ya h0 d (la (pv 1) pa))) (Ca (Oa (pv 1))) Ob)
  (Ga (Lb (PW.pt (Er (fc (Ei hu) (Oe Ff (pv 1) Gg (Ud Sb)) (Wa hr1) (Yb _)) (ft (Nd (Ya c n (la (Oe Ff (pv 1) (Ud Sb) Gg) pa))))))
   (Ga (nc (i:=2) (Oe Ff (pv 1) (Ud Sb) Gg))
    (Ca (Oa (Ya h4 m (la (pv 2) (la (Yl lq (Ya h3 m (la (pv 2) pa)) (u1 TZ Sb) (λ_ _=>rfl)) pa)))))) Ob)
  (Ga (Lb (PW.pt (Er (fc (Ei hu) (Oe Ff (pv 1) Gg (Ud Sb)) (Mf (la (Wa T.Qm) pa)) (Yb _)) (ft (Nd (Ya c n (la (Oe Ff (pv 1) (Ud Sb) Gg) pa))))))
   (Ca (Oa (Ya h4 m (la (pv 0) (la (Oe Ff (pv 1) (Ud Sb) Gg) pa))))) Ob)
  (Ga (Lb (Nd (Ya c n (la (pv 1) pa))) (Ca (Oa (Ya h4 m (la (pv 0) (la (pv 1) pa))))) Ob)
   (Ca (Oa uG))))),?_⟩
 have e:=FN u t;refine(sF (g:=λt=>(Qh t).isSome) 1 rfl h) H _ (ka.refl H) λH1 s1=>cb (λhc=>?_) (λhc=>?_)
 .rw[qa hc] at e;have q:=k H1 s1;rw[e] at q;exact{_,rfl,q b (Ba.of (s1 _ _ h))}
 rw[oa hc] at e;refine((uX (K:=K) 1 2 [47,47] rfl h hr2).and λ_=>SK 1 2 rfl h) H1 _ s1 λH2 s2=>cb (λhd=>?_) (λhd=>?_)
 .rw[qa hd] at e;refine{_,rfl,_,rfl,b,t,rfl,s2 _ _ h,λp H3 o v=>?_};have e1:cut t (ba 2) ia=t.drop 2:=Km t 2;rw[e1] at v;have y:(t.drop 2).length<=100000:=by rw[ue];omega
  refine{_,rfl,_,rfl,p,_,rfl,v,y,λB l ps C hl tx=>?_};obtain⟨F,q,x,I,J,L⟩:∃F q x I,ps=F++[q]/\Za 47 (t.drop 2)=I++[x]:=by
   have M:Za 47 (t.drop 2)≠[]:=Ki 47 _;have O:=tx.len;have R:ps≠[]:=by
    intro z;rw[z] at O;exact M (zm.mp O.symm)
   exact{ps.dropLast,ps.getLast R,(Za 47 (t.drop 2)).getLast M,(Za 47 (t.drop 2)).dropLast,(G' R).symm,(G' M).symm}
  have hq:B q=ba (.tup (txt x)):=by
   have O:=tx.len;rw[J,L] at tx O;have h1:(F++[q])[F.length]?=ba q:=by simp
   obtain⟨x',S,hq'⟩:=Wb.get tx h1;have c:F.length=I.length:=by simpa using O
   rw[c] at S;simp at S;rw[S];exact hq'
  have hxl:x.length<=100000:=by
   have hm:x∈Za 47 (t.drop 2):=by rw[L];simp
   have:=split_len 47 (t.drop 2) x hm;omega
  refine{1,rfl,l,_,_,.ref q,rfl,rfl,Ia.of hl,by rw[J,vf];exact X4 _ _,?_};refine{p,q,_,x,rfl,C _ _ v,hq,y,hxl,λU V W Y=>?_};have Z:=k U (s2.trans (o.trans (C.trans W)));rw[e] at Z;refine Z V ?_;rw[L];have:(I++[x]).getLastD []=x:=by simp
  rw[this];exact Y
 rw[oa hd] at e;refine((BX (K:=K) 1 1 [58] rfl h (λ_ _ q=>q)).and λ_=>SK 1 1 rfl h) H2 _ s2 λH3 o=>cb (λhf=>?_) (λhf=>?_)
 .rw[qa hf] at e;refine{_,rfl,_,rfl,_,rfl,b,t,rfl,o _ _ h,λp B C v=>?_};have e1:cut t (ba 1) ia=t.drop 1:=Km t 1;rw[e1] at v;refine{a,p,u,_,rfl,C _ _ (o _ _ ha),v,j,by rw[ue];omega,λU V W Y=>?_};have Z:=k U (o.trans (C.trans W));rw[e] at Z;exact Z V Y
 rw[oa hf] at e;refine(sF (g:=gb) 1 rfl h) H3 _ o λB C=>cb (λhg=>?_) (λhg=>?_)
 .rw[qa hg] at e;refine{_,rfl,_,rfl,a,b,u,t,rfl,C _ _ ha,C _ _ h,j,hzt,λU V W Y=>?_};have Z:=k U (C.trans W);rw[e] at Z;exact Z V Y
 .rw[oa hg] at e;have Z:=k B C;rw[e] at Z;exact Z
theorem a6(G:GF K mg "label_in" IJ ["package","text"])(T:Zr K mg)(c:Aa P w K mg base 4 "is_empty_or_path" (spT xf))(d:Aa P w K mg base 6 "told_label" (yD K)):
  Aa P w K mg base 7 "label_in" (Xr λp t=>Fd (yp p t)):=by
 refine G.go (N:=["package","text","told"]) ?_;rintro f h A j s H m Q E o q X D ⟨a,b,u,t,rfl,r,v,x,y,k⟩;refine⟨_,Ga (Lb (Yf (Nd (Ya c q (la (pv 0) pa)))) (Ca (Oa (ic (la (Wa T.PATH) pa)))) Ob)
  (Ga (nc (i:=2) (Ya d q (la (pv 0) (la (pv 1) pa))))
  (Ga (Lb (Ck (fB (pv 2))) (Ca (Oa (ic (la (Wa T.LABEL) pa)))) Ob)
  (Ca (Oa (Fc dj (ic (la Sb pa)) (Ij As (by rfl) T.list (by rfl) (la (pv 2) pa))))))),?_⟩
 refine Zb (Yj (g:=xf) 0 rfl r) (ka.refl H) λz B=>?_;refine cb (λC=>?_) (λC=>?_)
 .have e:xf u=ma:=by simpa using C
  refine{Lc,λl F=>k _ l (B.trans (Qa F)) ?_};rw[wa];show _=ba (HO.lst (nums (Fd (yp u t))));unfold yp;rw[e];rfl
 .have e:xf u=da:=by simpa using C
  refine{_,rfl,_,rfl,a,b,u,t,rfl,B _ _ r,B _ _ v,x,y,λH2 I=>?_};cases J:Np u t with
  |none=>
   refine{_,rfl,_,rfl,wg {Lc,λl F=>k _ l ((B.trans I).trans (Qa F)) ?_}};rw[wa];show _=ba (HO.lst (nums (Fd (yp u t))));unfold yp;rw[e];unfold Np at J;cases L:sH u t with
   |none=>rfl
   |some l=>rw[L] at J;cases J
  |some l=>
   intro p M;refine{_,rfl,_,rfl,bj {Lc,λO R=>{_,rfl,p,_,rfl,.inr (Rn (Qa R) M),λS U=>?_}}};have W:O≠S:=de wa U;refine{O,S,_,_,rfl,rfl,by rw[Ja W];exact wa,wa,?_,λY Z=>?_}
   .rw[gc];have:=pX J;exact Xf (by simp;omega)
   .refine k _ Y ((B.trans I).trans ((Qa R).trans ((Qa U).trans (Qa Z)))) ?_;rw[wa];show _=ba (HO.lst (nums (Fd (yp u t))));unfold yp;rw[e];unfold Np at J;cases L:sH u t with
    |none=>rw[L] at J;cases J
    |some lb=>
     rw[L] at J;cases J;show ba (HO.lst (V.int 0::txt (vp lb)))=ba (HO.lst (V.int 0::nums ((vp lb).map λ(n:Nat)=>(n:Int))));rw[Gv];rfl
structure ig(K:xa)(mg:Str->Option Value)(C:Addr):Prop where
 cl:dh K C
 nF:Gh K C "files"
 MV:bc mg "MOST_FILES" (.int 64)
 O6:bc mg "MOST_FILE_BYTES" (.int 4096)
 B5:bc mg "MOST_TREE_BYTES" (.int 8192)
 PATH:bc mg "PATH" (.int (-1))
 LONG:bc mg "LONG" (.int (-2))
 CLASH:bc mg "CLASH" (.int (-3))
 FULL:bc mg "FULL" (.int (-4))
 ABSENT:bc mg "ABSENT" (.int (-5))
 WITHIN:bc mg "WITHIN" (.int (-6))
 any:mg "any"=ia
 sum:mg "sum"=ia
 zip:mg "zip"=ia
theorem eY(a:X.K=K)(b:X.A.units+64< Wc):zd X (ee .Eq) (Vm K):=by
 subst a;exact Ei b
theorem KJ(a:X.K=K)(b:X.A.units+64< Wc):zd X (ee .NotEq) (Ip K):=by
 subst a;exact yx b
theorem eB(a:X.K=K):cg X (.builtin "len") (λxs H Q=>∃p ys,xs=[V.ref p]/\(Ia K H p ys\/Ba K H p ys)/\Q (.int ys.length) H):=by
 subst a;exact je
theorem T7{f:Str}{pos:La}{a:TE}(b:X.K=K)(c:PE X e a)(d:BB e f X.env (Ic e X.env)=Ic e X.env):PE X (.Attribute e f pos) (zt K a f):=by
 subst b;exact vc c d
theorem YI{t:TE}{D:Ends}(h:Ss t σ H λv H'=>D.nx (σ.set i (ba v)) H'):fL (Co t (Le i)) D σ H:=let⟨d,u,a,b,c⟩:=h;⟨d,u,a,b,c⟩
theorem G4{H0:Hp}{t u:Text}(i j:Nat)(c:σ[i]?=ba (ba (.ref a)))(d:σ[j]?=ba (ba (.ref b)))(e:H0 a=ba (.tup (txt t)))(f:H0 b=ba (.tup (txt u))):
  Pb H0 (Ed (Vc (Vm K) (Ua i) (Ua j))) σ (decide (t=u)):=λH Q s q=>{_,c,_,d,a,b,t,u,rfl,rfl,Ba.of (s _ _ e),Ba.of (s _ _ f),_,rfl,q H s}
theorem ZW{H0:Hp}{t u:Text}(i j:Nat)(c:σ[i]?=ba (ba (.ref a)))(d:σ[j]?=ba (ba (.ref b)))(e:H0 a=ba (.tup (txt t)))(f:H0 b=ba (.tup (txt u))):
  Pb H0 (Ed (Vc (Ip K) (Ua i) (Ua j))) σ (!decide (t=u)):=λH Q s q=>{_,c,_,d,a,b,t,u,rfl,rfl,Ba.of (s _ _ e),Ba.of (s _ _ f),_,rfl,q H s}
theorem qz{H0:Hp}{t u:Text}{g:Text->Text->Bool}(i j:Nat)(c:σ[i]?=ba (ba (.ref a)))(d:σ[j]?=ba (ba (.ref b)))(e:H0 a=ba (.tup (txt t)))(f:H0 b=ba (.tup (txt u)))(hz:u.length<=100000):
  Pb H0 (tB (me (Sj g) [] E0 (Kb (Ua i) (Kb (Ua j) Xb)))) σ (g t u):=λH Q s q=>{_,c,_,d,a,b,t,u,rfl,s _ _ e,s _ _ f,hz,λh k=>{_,rfl,q h (s.trans k)}}
noncomputable def gf(p q:Text):Bool:=decide (q=p)||Af q p
theorem Bs(c:α->Bool):∀l:List α,(l.map λa=>if c a=da then ba a else ia).filterMap id=l.filter c
 |[]=>rfl
 |a::l=>by
  rw[Nb,jk];cases h:c a with
  |true=>simp[Bs c l]
  |false=>simp[Bs c l]
inductive Wj(y:V)(t:Text)(H:Hp):Prop|mk:∀q,y= .ref q->H q=ba (.tup (txt t))->Wj y t H
theorem Bo(y:V)(t:Text)(a b:Hp)(s:Fe a b)(h:Wj y t a):Wj y t b:=by
 obtain⟨q,e,h⟩:=h;exact{q,e,s _ _ h}
theorem yn:∀{acc:List V}{ts:List Text},Paired (λy b=>Wj y b H) acc ts->∃ps,acc=ps.map V.ref/\Wb H ps ts
 |_,_,.nil=>{[],rfl,.nil}
 |_,_,.cons ⟨q,e,h⟩ r=>by
  obtain⟨ps,a,t⟩:=yn r;exact{q::ps,by rw[e,a];rfl,.cons h t}
inductive QA(C:Addr)(vs:List V)(H:Hp)(Q:VK)(X3:XK):Prop|mk:∀tp d x a p,vs=[.ref tp,.ref a]->uc C H tp d x->H a=ba (.tup (txt p))->p.length<=100000->x.length<=1000->(∀H' l ps,ka H H'->H l=ia->H' l=ba (.lst (ps.map V.ref))->Wb H' ps ((x.map (·.1)).filter (gf p))->Q (.ref l) H')->QA C vs H Q X3
theorem J4(G:GF K mg "paths_at" pC ["tree","path"])(T:ig K mg C)(b:Aa P w K mg base 1 "is_within" (Sj Af)):Aa P w K mg base 2 "paths_at" (QA C):=by
 refine G.go (N:=["tree","path","other"]) ?_;rintro f c A h s H vs Q E j l X D ⟨tp,d,x,a,p,rfl,m,n,r,t,k⟩;have u:=l.units;refine⟨_,Ca (Oa (Xw (Yh (own:=[("other",2)]) rfl j (Um (vc (pv 0) rfl)) (Wf (N:=["tree","path","other"]) (sc:=Qc pC) (by decide+kernel)) (λ_ _ _ _ _=>Md (i:=2))
  (λ_ _ _ _ _=>Pm (PW.pt (vh (fc (eY (K:=K) rfl u) (pv 2) (pv 1) (Yb _)) (ij (Nd (Ya b l (la (pv 2) (la (pv 1) pa)))))))) (λ_ _ _ _ _=>pv 2)))),?_⟩
 refine tw T.cl T.nF m rfl Wj ((x.map (·.1)).map λq=>if gf p q=da then ba q else ia) (by rw[Na,Na]) Bo (Jd t) (λv=>rfl) (λy kk q f o z hd en L hf B F kn ky I J=>?_) (λM z D O R b S=>?_)
 .rw[Ac,Ac,hf] at B;have B:=Dd B;refine((G4 (K:=K) 2 1 rfl rfl F (L.txt hd n)).or λ_=>qz (g:=Af) 2 1 rfl rfl F (L.txt hd n) r) z _ (ka.refl z) λU V=>cb (λW=>?_) (λW=>?_)
  .exact{_,rfl,J _ f.1 U (by rw[<-B];exact qa W) V {q,rfl,V _ _ F}}
  .exact I U (by rw[<-B];exact oa W) V
 .rw[Bs] at S;obtain⟨Y,e,Z⟩:=yn S;rw[e] at b;exact k z D Y O R b Z
def Xg(t u:Text):Bool:=Af t u||Af u t
inductive Zv(g:Text->Text->Bool)(vs:List V)(H:Hp)(Q:VK)(X3:XK):Prop|mk:∀a b t u,vs=[.ref a,.ref b]->H a=ba (.tup (txt t))->H b=ba (.tup (txt u))->t.length<=100000->u.length<=100000->(∀H',ka H H'->Q (.bl (g t u)) H')->Zv g vs H Q X3
theorem U7(G:GF K mg "either_within" RO ["one","other"])(c:Aa P w K mg base 1 "is_within" (Sj Af)):Aa P w K mg base 2 "either_within" (Zv Xg):=by
 refine G.go (N:=["one","other"]) ?_;rintro f d A g s H h Q E i j X D ⟨a,b,t,u,rfl,l,m,n,o,k⟩;refine{_,Ca (Oa (fq (Ya c j (la (pv 0) (la (pv 1) pa))) (Lm (Ya c j (la (pv 1) (la (pv 0) pa)))))),?_};refine{_,rfl,_,rfl,a,b,t,u,rfl,l,m,o,λp q=>{_,rfl,cb (λr=>?_) (λr=>?_)}}
 .have e:Xg t u=da:=by unfold Xg;rw[r];rfl
  rw[<-e];exact k p q
 .have e:Xg t u=Af u t:=by unfold Xg;rw[show Af t u=ma by simpa using r];rfl
  refine{_,rfl,_,rfl,b,a,u,t,rfl,q _ _ m,q _ _ l,n,λv x=>?_};rw[<-e];exact k v (q.trans x)
noncomputable def others(x:List Ent)(p:Text):List Ent:=x.filter λf=> !decide (f.1=p)
noncomputable def xk(x:List Ent)(p b:Text):Bool:=decide (64< ((others x p).length:Int)+1)||decide (8192< ((others x p).map λf=>((f.2.length:Nat):Int)).sum+(b.length:Int))
structure Small(x:List Ent):Prop where
 n:x.length<=1000
 path:∀f∈x,gb f.1=da
 b:∀f∈x,f.2.length<=100000
 nd:(x.map (·.1)).Nodup
theorem Small.sq(h:Small x):∀f∈x,f.1.length<=96:=λf hf=>mq (h.path f hf)
theorem Small.ne(h:Small x):∀f∈x,f.1≠[]:=λf hf=>Mg (h.path f hf)
theorem Small.p(h:Small x):∀f∈x,f.1.length<=100000:=λf hf=>Bc (h.sq f hf) (by decide)
theorem Fj:∀{x:List Ent},(x.map (·.1)).Nodup->∀{f:Ent},f∈x->look x f.1=ba f.2
 |[],_,f,h=>by simp at h
 |g::x,a,f,h=>by
  obtain⟨b,c⟩:=tj.mp (show(g.1::x.map (·.1)).Nodup from a);unfold look;rcases jc.mp h with e|h
  .rw[e,qH (by simp)];rfl
  .have d:¬g.1=f.1:=λe=>b (e▸Mb.mpr ⟨f,h,rfl⟩);rw[rH (by simpa using d)];exact Fj c h
inductive Rw(C:Addr)(vs:List V)(H:Hp)(Q:VK)(X3:XK):Prop|mk:∀tp d x a p c b,vs=[.ref tp,.ref a,.ref c]->uc C H tp d x->H a=ba (.tup (txt p))->H c=ba (.tup (txt b))->Small x->(∀H',ka H H'->Q (.bl (xk x p b)) H')->Rw C vs H Q X3
theorem gq{b:Type}(c:α->Bool)(g:α->b):∀l:List α,(l.map λa=>if c a=da then ba (g a) else ia).filterMap id=(l.filter c).map g
 |[]=>rfl
 |a::l=>by
  rw[Nb,jk];cases h:c a with
  |true=>simp[gq c g l]
  |false=>simp[gq c g l]
def outI(y:V)(z:Int)(_:Hp):Prop:=y= .int z
theorem Az:∀{acc:List V}{zs:List Int},Paired (λy b=>outI y b H) acc zs->acc=zs.map V.int
 |_,_,.nil=>rfl
 |_,_,.cons e r=>by rw[Nb,<-Az r,<-e]
theorem G6(G:GF K mg "would_be_full" ZD ["tree","path","data"])(T:ig K mg C)(Tl:mg "len"=ia):Aa P w K mg base 1 "would_be_full" (Rw C):=by
 refine G.go (N:=["tree","path","data","sizes","other"]) ?_;rintro f cdv A g s H vs Q E nd hr X D ⟨tp,d,x,a,p,c,b,rfl,Tr,ha,hc,hx,k⟩;have hu:=hr.units;have j:=ei hr;refine⟨_,Ga (mw (Qp (i:=3) (own:=[("other",4)]) rfl nd rfl rfl (Cq rfl rfl rfl (by decide+kernel)) (Um (vc (pv 0) rfl)) (Wf (N:=["tree","path","data","sizes","other"]) (sc:=Qc ZD) (by decide+kernel)) (λ_ _ _ _ _=>Md (i:=4))
  (λ_ _ _ _ _=>Pm (fc (KJ (K:=K) rfl hu) (pv 4) (pv 1) (Yb _))) (λ_ _ _ _ _=>Cc (eB (K:=K) rfl) (by rfl) Tl Sd (la (qk j (T7 (K:=K) rfl (pv 0) rfl) (pv 4) (λ_ _=>rfl)) pa))))
  (Ca (Oa (fq (oh Rl (Fc We (Cc je (by rfl) Tl Sd (la (pv 3) pa)) Sb) (Wa T.MV) (Yb _))
   (Lm (oh Rl (Fc We (Cc (A1 rfl) (by rfl) T.sum (by rfl) (la (pv 3) pa)) (Cc je (by rfl) Tl Sd (la (pv 2) pa))) (Wa T.B5) (Yb _)))))),?_⟩
 refine YI (tw T.cl T.nF Tr rfl outI (x.map λf=>if(!decide (f.1=p))=da then ba ((f.2.length:Nat):Int) else ia) (by rw[Na]) (λ_ _ _ _ _ h=>h) (Jd hx.n) (λv=>rfl) (λl kk q f o m hd en L hf n hq kn ky r t=>?_) (λacc m D u hD y h2=>?_))
 .rw[Ac,hf] at n;have n:=Dd n;refine(ZW (K:=K) 4 1 rfl rfl hq (L.txt hd ha)) m _ (ka.refl m) λB F=>cb (λI=>?_) (λI=>?_)
  .obtain⟨dx,hp⟩:=Tr.ins;have J:=L.same F;obtain⟨od,M⟩:=J.fz;have O:=J.at_ hd hp (by intro z;cases z);have R:Ih B l x:=en.Xa (J.Xa hd);have S:f∈x:=vd hf;have U:=Fj hx.nd S;rcases Mj (q:=f.1) R with⟨V,_⟩ |⟨dat1,b1,V,hv,W⟩
   .rw[U] at V;cases V
   .rw[U] at V;cases V;refine{_,rfl,tp,C,dx,ff d,.ref d,rfl,O,T.cl,T.nF,Me d,_,rfl,d,.ref b1,rfl,.inr {l,key f.1,q,.inr ⟨od,M⟩,rfl,by rw[Xe];exact F _ _ hq,hv.symm},b1,_,rfl,.inr (Ba.of W),?_};rw[gc];exact t _ _ B (by rw[<-n];exact qa I) F rfl
  .exact r B (by rw[<-n];exact oa I) F
 .rw[gq] at h2;have e:=Az h2;rw[e] at y;refine{_,rfl,D,_,rfl,.inl (Ia.of y),_,_,rfl,rfl,_,_,rfl,rfl,_,rfl,?_};rw[Na,Na];refine cb (λY=>?_) (λY=>?_)
  .have Z:xk x p b=da:=by unfold xk others;rw[Y];rfl
   rw[<-Z];exact k m u
  .have Z:xk x p b=decide (8192< ((others x p).map λf=>((f.2.length:Nat):Int)).sum+(b.length:Int)):=by
    unfold xk;rw[show decide (64< ((others x p).length:Int)+1)=ma from J'.mpr Y,ll]
   refine{_,rfl,D,_,rfl,Ia.of y,_,rfl,c,_,rfl,.inr (Ba.of (u _ _ hc)),_,_,rfl,rfl,_,_,rfl,rfl,?_};rw[gc];have q:=k m u;rw[Z] at q;exact q
end Tl
namespace HT
structure Fp(h:Heap)(l:Addr)(its:Array Value)(ln:Nat->Nat)(I S:Addr):Prop where
 lst:h.IsList l its
 tup:∀i(hi:i< its.size),∃p arr,its[i]= .ref p/\qj h p arr/\arr.size=ln i/\(arr.size:Int)< 2^63/\p≠I/\p≠S
 nI:l≠I
 nS:l≠S
theorem Fp.keep{h':Heap}{l:Addr}{its:Array Value}{ln:Nat->Nat}{I S:Addr}(x:Fp h l its ln I S)(k:∀b o,b≠I->b≠S->h.get? b=ba o->h'.get? b=ba o):Fp h' l its ln I S:=by
 refine{?_,λi a=>?_,x.nI,x.nS}
 .obtain⟨o,c,r⟩:=x.lst;exact{o,k _ _ x.nI x.nS c,r}
 .obtain⟨p,d,e,⟨o,c,r⟩,f,g,j,m⟩:=x.tup i a;exact{p,d,e,{o,k _ _ j m c,r},f,g,j,m}
theorem j7{d:List (Str×Value)}{R:xb->ja->Prop}(e:A.handled=ia){l I S:Addr}{its:Array Value}{ln:Nat->Nat}(f:I≠S):
  ∀(k j:Nat)(s:ja)(b:Nat)(tb:pj),its.size - j=k->j<=its.size->(g:b< its.size)->(∀i,i< j->ln i<=ln b)->Fp s.heap l its ln I S->s.heap.IsListIter I l j->
   (∃c,s.heap.get? S=ba {cls:= .type "list",dict:=ia,data:= .seq #[its[b],.int (ln b:Nat) tb] c,slots:=#[]})->
   (∀(b:Nat)(g:b< its.size)(h':Heap)(tk:Nat),(∀i,i< its.size->ln i<=ln b)->(∀a o,a≠I->a≠S->s.heap.get? a=ba o->h'.get? a=ba o)->R (.ok (.ret its[b])) {s with heap:=h',toks:=tk})->
   jm (Ea prog w) A (.builtin "max.loop" ⟨[.ref I,.builtin "len",.ref S],d⟩) R s:=by
 have m:(Uo "max"++Uo ".loop":String)="max.loop":=by decide
 intro k
 induction k with
 |zero=>
  intro j s b tb hk hj g n M q ⟨c,t⟩ u;have v:its[j]?=ia:=by simp;omega
  refine Jn vH ?_;rw[zp Ap _];show ra _ A.in1 (ny (.ref S)>>=_) _ _ s;refine wpAny_bind (xj t rfl ?_);show ra _ A.in1 (yu (Pg (.ref I)) _>>=_) _ _ s;refine wpAny_bind (zu (ZQ e q M.lst v λx y=>?_));have z:=y S _ (Gc f) t;show ra _ A.in1 (updateSeq S (λ_=>#[])>>=_) _ _ _;refine wpAny_bind (kH z rfl (wpAny_bind (jr (wpAny_pure ?_))));refine u b g _ s.toks (λi B=>n i (by omega)) λa o x C D=>?_;exact(SG _ _ (Gc C)).trans (y a o x D)
 |succ k E=>
  intro j s b tb hk hj g n M q ⟨c,t⟩ u;have G:j< its.size:=by omega
  have hx:its[j]?=ba its[j]:=by simp[G]
  refine Jn vH ?_;rw[zp Ap _];show ra _ A.in1 (ny (.ref S)>>=_) _ _ s;refine wpAny_bind (xj t rfl ?_);show ra _ A.in1 (yu (Pg (.ref I)) _>>=_) _ _ s;refine wpAny_bind (zu (YQ q M.lst hx λx H sb=>?_));have J:∀a o,a≠I->s.heap.get? a=ba o->x.get? a=ba o:=λa o h D=>(sb.2 a h).trans D;have K:Fp x l its ln I S:=M.keep λa o h _ D=>J a o h D;obtain⟨p,L,N,hp,O,P,hpI,hpS⟩:=K.tup j G;have z:=J S _ (Gc f) t;rw[N];show ra _ A.in1 (yu (To [.ref p] (call (.builtin "len") [.ref p])) _>>=_) _ _ _;refine wpAny_bind (zu (ng (K' hp P ?_)));show ra _ A.in1 (yu (To [.ref p,.int L.size _] (T9 .Gt (.int L.size _) (.int (ln b:Nat) tb)>>=_)) _>>=_) _ _ _;refine wpAny_bind (zu (ng (wpAny_bind (show ra _ _ (ee .Gt (.int L.size _) (.int (ln b:Nat) tb)) _ _ _ from gt_int ?_))));refine wpAny_bind (ng (il ?_));refine wpAny_bind (jr (wpAny_pure ?_));by_cases Q:ln b< ln j
  .rw[show decide ((L.size:Int)>((ln b:Nat):Int))=da by rw[O];exact Xc (by omega)];simp only[Ld];refine wpAny_bind (kH z rfl (wpAny_bind (jr ?_)));rw[m];have T:=ou (Wo λ_=>#[Bb p,.int L.size (s.toks+1)]) z rfl;have U:∀a o,a≠S->x.get? a=ba o->(x.update S (Wo λ_=>#[Bb p,.int L.size (s.toks+1)])).get? a=ba o:=λa o h D=>(SG _ _ (Gc h)).trans D;refine wpAny_pure {kr Ap _,E (j+1) _ j (s.toks+1) (by omega) G G (λi B=>?_) (K.keep λa o _ h D=>U a o h D) ?_ ?_ λV W h' tk X Y=>?_}
   .rcases Sg i j with h|h
    .exact Ag (Qi (n i h) Q)
    .have:i=j:=by omega
     rw[this];exact rb _
   .obtain⟨o,D,r⟩:=H;exact{o,U I o f D,r}
   .rw[N,<-O];exact{_,T}
   .exact u V W h' tk X λa o C Z D=>Y a o C Z (U a o Z (J a o C D))
  .rw[show decide ((L.size:Int)>((ln b:Nat):Int))=ma by rw[O];exact Rf (by omega)];simp only[yc,Ub];refine wpAny_bind (jr ?_);rw[m];refine wpAny_pure {kr Ap _,E (j+1) _ b tb (by omega) G g (λi B=>?_) K H ⟨c,z⟩ λV W h' tk X Y=>?_}
   .rcases Sg i j with h|h
    .exact n i h
    .have:i=j:=by omega
     rw[this];omega
   .exact u V W h' tk X λa o C Z D=>Y a o C Z (J a o C D)
theorem S2{d:List (Str×Value)}{R:xb->ja->Prop}(e:A.handled=ia){l I S:Addr}{its:Array Value}{ln:Nat->Nat}(f:I≠S)(g:0< its.size)(M:Fp s.heap l its ln I S)(j:s.heap.IsListIter I l 0)
  (k:∃c,s.heap.get? S=ba {cls:= .type "list",dict:=ia,data:= .seq #[] c,slots:=#[]})
  (m:∀(b:Nat)(n:b< its.size)(h':Heap)(tk:Nat),(∀i,i< its.size->ln i<=ln b)->(∀a o,a≠I->a≠S->s.heap.get? a=ba o->h'.get? a=ba o)->R (.ok (.ret its[b])) {s with heap:=h',toks:=tk}):
  jm (Ea prog w) A (.builtin "max.loop" ⟨[.ref I,.builtin "len",.ref S],d⟩) R s:=by
 have q:(Uo "max"++Uo ".loop":String)="max.loop":=by decide
 obtain⟨c,k⟩:=k;have t:its[0]?=ba its[0]:=by simp[g]
 refine Jn vH ?_;rw[zp Ap _];show ra _ A.in1 (ny (.ref S)>>=_) _ _ s;refine wpAny_bind (xj k rfl ?_);show ra _ A.in1 (yu (Pg (.ref I)) _>>=_) _ _ s;refine wpAny_bind (zu (YQ j M.lst t λu v x=>?_));have y:∀a o,a≠I->s.heap.get? a=ba o->u.get? a=ba o:=λa o h z=>(x.2 a h).trans z;have B:Fp u l its ln I S:=M.keep λa o h _ z=>y a o h z;obtain⟨p,C,D,E,G,H,J,K⟩:=B.tup 0 g;have L:=y S _ (Gc f) k;rw[D];show ra _ A.in1 (yu (To [.ref p] (call (.builtin "len") [.ref p])) _>>=_) _ _ _;refine wpAny_bind (zu (ng (K' E H ?_)));show ra _ A.in1 (updateSeq S (λ_=>#[.ref p,.int C.size _])>>=_) _ _ _;refine wpAny_bind (kH L rfl ?_);rw[q];have N:=ou (Wo λ_=>#[Bb p,.int C.size (s.toks+1)]) L rfl;have O:∀a o,a≠S->u.get? a=ba o->(u.update S (Wo λ_=>#[Bb p,.int C.size (s.toks+1)])).get? a=ba o:=λa o h z=>(SG _ _ (Gc h)).trans z;refine wpAny_pure {kr Ap _,j7 e f _ 1 _ 0 (s.toks+1) rfl g g (λi P=>?_) (B.keep λa o _ h z=>O a o h z) ?_ ?_ λQ T h' tk U V=>?_}
 .have:i=0:=by omega
  rw[this];exact rb _
 .obtain⟨o,z,r⟩:=v;exact{o,O I o f z,r}
 .rw[D,<-G];exact{_,N}
 .exact m Q T h' tk U λa o W X z=>V a o W X (O a o X (y a o W z))
theorem ZT{b:List (Str×Value)}{R:xb->ja->Prop}(e:A.handled=ia){l I S:Addr}{its:Array Value}{nm:Str}{d:Value}(f:I≠S)(g:its.size=0)(h:s.heap.IsList l its)(i:s.heap.IsListIter I l 0)
  (j:∃c,s.heap.get? S=ba {cls:= .type "list",dict:=ia,data:= .seq #[] c,slots:=#[]})
  (k:∀(h':Heap)(tk:Nat),(∀a o,a≠I->a≠S->s.heap.get? a=ba o->h'.get? a=ba o)->R (.ok (.ret d)) {s with heap:=h',toks:=tk}):
  jm (Ea prog w) A (.builtin "max.loop" ⟨[.ref I,.builtin "len",.ref S],(nm,d)::b⟩) R s:=by
 obtain⟨c,j⟩:=j;have m:its[0]?=ia:=Yo (by omega);refine Jn vH ?_;rw[zp Ap _];show ra _ A.in1 (ny (.ref S)>>=_) _ _ s;refine wpAny_bind (xj j rfl ?_);show ra _ A.in1 (yu (Pg (.ref I)) _>>=_) _ _ s;refine wpAny_bind (zu (ZQ e i h m λn p=>?_));show ra _ A.in1 (rule _>>=_) _ _ _;refine wpAny_bind (fy (wpAny_pure ?_));exact k _ s.toks λa o n q r=>p a o n r
theorem N4(a v d:Value):Au "max" ⟨[a],[(uf "key",v),(uf "default",d)]⟩:=by unfold Au;kernel_rfl
theorem B4{l:Addr}{its:Array Value}{ln:Nat->Nat}{d:Value}(c:A.handled=ia)(f:s.heap.IsList l its)
  (g:∀i(hi:i< its.size),∃p arr,its[i]= .ref p/\qj s.heap p arr/\arr.size=ln i/\(arr.size:Int)< 2^63)
  (j:its.size=0->∀(h':Heap)(tk:Nat),(∀a o,s.heap.get? a=ba o->h'.get? a=ba o)->Q d {s with heap:=h',toks:=tk})
  (h:∀(b:Nat)(k:b< its.size)(h':Heap)(tk:Nat),(∀i,i< its.size->ln i<=ln b)->(∀a o,s.heap.get? a=ba o->h'.get? a=ba o)->Q its[b] {s with heap:=h',toks:=tk}):
  ra (Ea prog w) A (call (.builtin "max") [.ref l] [(uf "key",.builtin "len"),(uf "default",d)]) Q E s:=by
 have m:(Uo "max"++Uo ".loop":String)="max.loop":=by decide
 have n:l< s.heap.objs.size:=by obtain⟨o,q,_⟩:=f;exact cc q
 refine JG (L' F.plain_max F.entry_max ?_);have t:fS "max" {[.ref l],[(uf "key",.builtin "len"),(uf "default",d)]}=pd ():=by
  simp only[fS,F.kind_max];cases u:Manifest.signature? "max" with
  |none=>rfl
  |some sig=>
   have v:=N4 (.ref l) (.builtin "len") d;simp only[Au,u] at v;exact v
 rw[t];refine wpAny_pure ?_;show ra _ A.in1 (vj.Builtins.bindParams "max" ["key","default"] 0 {[],[(uf "key",.builtin "len"),(uf "default",d)]}>>=_) _ _ s;refine wpAny_bind (PB (a:=[ba (Value.builtin "len"),ba d]) (by rfl) ?_);refine wpAny_bind (wpAny_pure ?_);refine wpAny_bind (aR f ?_);refine wpAny_bind (wpAny_newObj_type ?_);rw[m];have x:(s.heap.push {cls:= .type "list_iterator",data:= .fields #[.ref l,.int 0 0]}).objs.size=s.heap.objs.size+1:=lh ..;have y:s.heap.objs.size≠(s.heap.push {cls:= .type "list_iterator",data:= .fields #[.ref l,.int 0 0]}).objs.size:=by rw[x];omega
 have z:∀a o,s.heap.get? a=ba o->a≠s.heap.objs.size/\a≠(s.heap.push {cls:= .type "list_iterator",data:= .fields #[.ref l,.int 0 0]}).objs.size:=λa o q=>by
  have B:=cc q;exact{Kd B,by rw[x];exact Kd (Wq B)}
 by_cases C:0< its.size
 .refine wpAny_pure {kr Ap _,S2 (ln:=ln) c y C {?_,λi hi=>?_,Kd n,by rw[x];exact Kd (Wq n)} {_,Qb _ (Uc _ rfl),rfl,rfl} {0,Uc _ rfl} λb k h' tk D G=>?_}
  .obtain⟨o,q,r⟩:=f;exact{o,Qb _ (Qb _ q),r}
  .obtain⟨p,arr,e,⟨o,q,r⟩,H,I⟩:=g i hi;exact{p,arr,e,{o,Qb _ (Qb _ q),r},H,I,(z p o q).1,(z p o q).2}
  .exact h b k h' tk D λa o q=>G a o (z a o q).1 (z a o q).2 (Qb _ (Qb _ q))
 .refine wpAny_pure {kr Ap _,ZT (l:=l) (its:=its) c y (by omega) ?_ {_,Qb _ (Uc _ rfl),rfl,rfl} {0,Uc _ rfl} λh' tk G=>?_}
  .obtain⟨o,q,r⟩:=f;exact{o,Qb _ (Qb _ q),r}
  .exact j (by omega) h' tk λa o q=>G a o (z a o q).1 (z a o q).2 (Qb _ (Qb _ q))
end HT
namespace Tl
inductive iD(K:xa)(vs:List V)(H:Hp)(Q:VK):Prop|mk:∀a ps ts,vs=[.ref a]->Ia K H a (ps.map V.ref)->Wb H ps ts->(ts=[]->Q .Tb H)->(∀q t,t∈ts->H q=ba (.tup (txt t))->(∀u∈ts,u.length<=t.length)->Q (.ref q) H)->iD K vs H Q
theorem j8{vs:List V}{us:List Value}{Q:VK}(c:X.calm=da)(I:Inv X pins σ H s)(r:yb vs us)(h:iD X.K vs H Q):
  ra (Ea X.prog X.w) X.A (call (.builtin "max") us [(uf "key",.builtin "len"),(uf "default",.none)]) (EP X pins σ Q) X.xe s:=by
 obtain⟨a,d,f,rfl,g,j,q0,q⟩:=h;obtain⟨k,l,m,_⟩:=I.list g;rw[yb.Ml r];have n:=j.len;have o:=l.length;rw[Na] at o;have v:∀i(w:i< k.toArray.size),∃p t,d[i]?=ba p/\f[i]?=ba t/\k.toArray[i]= .ref p/\H p=ba (.tup (txt t)):=λi w=>by
  have y:i< k.length:=by simpa using w
  have z:d[i]?=ba d[i]:=Wd (by omega);obtain⟨t,A,B⟩:=Wb.get j z;obtain⟨u,C,D⟩:=l.get (i:=i) (x:= .ref d[i]) (by rw[Ac,z];rfl);cases D;refine{_,t,z,A,?_,B};have:=(Cf.mp C).2;simpa using this
 refine HT.B4 (ln:=λi=>(f[i]?.getD []).length) (I.ok.hd c) m.isList (λi w=>?_) (λE F G J=>?_) λb K F G L J=>?_
 .obtain⟨p,t,M,N,O,P⟩:=v i w;obtain⟨R,S,T,E⟩:=I.tuple (Ba.of P);refine{p,_,O,T,?_,?_}
  .rw[Od,<-S.length,gc,N];rfl
  .rw[Od,<-S.length];rw[FG] at E;omega
 .rw[Od] at E;exact{.Tb,H,I.kept J,rfl,q0 (zm.mp (by omega))}
 .obtain⟨p,t,M,N,O,P⟩:=v b K;rw[O];refine{.ref p,H,I.kept J,rfl,q p t (vd N) P λu C=>?_};obtain⟨i,w,e⟩:=M' C;have:=L i (by rw[Od];omega);rw[N,Wd w,e] at this;exact this
theorem aV{t:TA}{a:Nat}{p b c pos d f:La}(g:X.calm=da)(i:Gl X "max")(j:X.mg "max"=ia)(k:Gl X "len")(l:X.mg "len"=ia)(m:PA X [e] t)
  (n:autoParam (Ye pos (Jc [e] X.env)=(ma,Ic e X.env)::Ye pos (Jc [] X.env)) ZQ0._auto_1) (o:autoParam ((Ye pos (Jc [e] X.env)).any (·.1)=ma) ZQ0._auto_1):
  PE X (.Call (.Name "max" p) [e] [⟨ba "key",.Name "len" b,d⟩,⟨ba "default",.Constant .none a c,f⟩] pos) (qh (iD X.K) t):=by
 intro q s r H Q I h;refine Lx (xq I i j (u:= .builtin "max") rfl ?_);refine callWith_kw (Gb (m pos q s r H _ I h) λw x ⟨vs,H1,I1,r1,q1⟩=>?_) n o;refine Gb (show ra _ X.A (evalAll ((Mx pos (Ox [{ba "key",.Name "len" b,d},{ba "default",.Constant .none a c,f}] X.env)).map (·.2))) (λy z=>y=[.builtin "len",.none]/\Inv X q r H1 z) X.xe x from ?_) λy z ⟨ek,I2⟩=>?_
 .show ra _ _ (evalAll [(do let v<-Ic (.Name "len" b) X.env;Fx pos;pd v),(do let v<-Ic (.Constant .none a c) X.env;Fx pos;pd v)]) _ _ x;refine N' (wpAny_bind (xq I1 k l (u:= .builtin "len") rfl (wpAny_bind (YG (wpAny_pure ?_)))));refine N' (wpAny_bind ?_);refine Gb (uG q x r H1 (λv A=>v= .Tb/\A=H1) I1 ⟨rfl,rfl⟩) λu z ⟨v,A,I2,rv,e1,e2⟩=>?_;subst e1 e2;cases rv;exact wpAny_bind (YG (wpAny_pure (wpAny_pure ⟨rfl,I2⟩)))
 .subst ek;exact j8 g I2 r1 q1
end Tl
namespace HT
open PySem PySem.W PyProof.Rows
open PyProof.Rows.G
theorem xW{o:Obj}{es:Array fb}{ep:Nat}(a:o.data= .dict es ep)(c:A.handled=ia)(I:Addr)(f:d≠I):
  NB prog w A I [I,d] [I] es.size (λi v=>∃g,es[i]?=ba g/\v=g.key) (λi h=>h.IsKeyIter I d i es.size ep/\h.get? d=ba o) where
 sub:=λb j=>by simp at j;simp[j]
 frame:=λi h k l m=>{l.1.at λn e=>m I (by simp) n e,m d (by simp) o l.2}
 item:=λi s Q E p l q=>by
  have r:es[i]?=ba es[i]:=by simp[p]
  refine L2.yJ l.1 l.2 a rfl r λk t u=>?_;exact q _ k s.toks {_,r,rfl} {t,(u.2 d f).trans l.2} λb n j e=>(u.2 b (λz=>j (by simp[z]))).trans e
 done:=λs Q E l q=>L2.CD c l.1 l.2 a rfl (rb _) λk x=>q k s.toks λb n j e=>x b n (λz=>j (by simp[z])) e
 self:=λi s Q E l q=>H_ l.1 q
theorem WZ{o:Obj}{es:Array fb}{ep:Nat}(hd:(d==Lh)=ma)(a:o.ExactDict)(b:o.data= .dict es ep):
  KdlSrc prog w "dict" d d es.size (λi v=>∃c,es[i]?=ba c/\v=c.key) (λh=>h.get? d=ba o) where
 type:=λs e=>⟨o,e,a.1⟩
 there:=λh e=>{cc e,cc e}
 keep:=λh f e k=>k d (.inl rfl) o e
 notList:=by decide
 notTuple:=by decide
 hint:=λA E s Q e q=>kdl_hint_dict ⟨o,e,a.1⟩ q
 iter:=λA s g e=>{{cls:= .type "dict_keyiterator",data:= .fields #[.ref d,.int 0 0,.int es.size 0,.int ep 0]},_,λE Q q=>L2.jE hd e a b q,
  xW (ep:=ep) b g s.heap.objs.size (Kd (cc e)),{_,Uc _ rfl,rfl,rfl},Qb _ e}
theorem MY{o:Obj}{es:Array fb}{ep:Nat}{R:List Value->ja->Prop}(hd:(d==Lh)=ma)(a:o.ExactDict)(f:o.data= .dict es ep)(g:s.heap.get? d=ba o)(j:A.handled=ia)(k:es.size<=sizeLine)
  (h:∀(h':Heap)(tk:Nat),(∀b ob,s.heap.get? b=ba ob->h'.get? b=ba ob)->s.heap.objs.size<=h'.objs.size->R (es.toList.map (·.key)) {s with heap:=h',toks:=tk}):ra (Ea prog w) A (Bu (.ref d)) R E s:=by
 have m:KdlSrc prog w "dict" d d es.size (λi v=>∃n,es[i]?=ba n/\v=n.key) (λh=>h.get? d=ba o):=WZ hd a f;have p:∀(h':Heap)(tk:Nat)(r:Array Value)(c:Nat),(∀b ob,s.heap.get? b=ba ob->h'.get? b=ba ob)->h'.get? s.heap.objs.size=ba {cls:= .type "list",dict:=ia,data:= .seq r c,slots:=#[]}->
   WB (λi v=>∃n,es[i]?=ba n/\v=n.key) r es.size->R r.toList {s with heap:=h',toks:=tk}:=λh' tk r c t u z=>by
  have e:r.toList=es.toList.map (·.key):=by
   refine O' λi=>?_;rw[Ac];by_cases B:i< es.size
   .have C:i< r.size:=by rw[z.1];exact B
    obtain⟨n,D,F⟩:=z.2 i r[i] (by simp[C]);rw[Tf,Tf,D,show r[i]?=ba r[i] by simp[C],F];rfl
   .rw[Tf,Tf,Yo (by rw[z.1];omega),Yo (by omega)];rfl
  rw[e];exact h h' tk t (Ag (cc u))
 unfold Bu;refine wpAny_bind (P' (Jn R' ?_));rw[zp S' _];show ra _ A.in1 (ZG []>>=λl=>again (.builtin "list.__iadd__" {[l,.ref d],[]})) _ _ s;refine wpAny_bind (wpAny_newObj_type (wpAny_pure {kr wH _,Jn T' ?_}));rw[zp wH _];show ra _ A.in1 (U' (.ref s.heap.objs.size) (.ref d) (.ref s.heap.objs.size)) _ _ _;have key:=kdl_extend (A:=A) (s:={s with heap:=s.heap.push {cls:= .type "list",data:= .seq ([]:List Value).toArray}})
  (R:=λ(q:xb)(G:ja)=>E4 λ(h':Heap) (tk:Nat) (H:Array Value) (I:Nat)=>A5 (q= .ok (.ret (.ref s.heap.objs.size))) (G={s with heap:=h',toks:=tk}) ((∀b ob,s.heap.get? b=ba ob->h'.get? b=ba ob)) (h'.get? s.heap.objs.size=ba {cls:= .type "list",dict:=ia,data:= .seq H I,slots:=#[]}) (WB (λi v=>∃n,es[i]?=ba n/\v=n.key) H es.size))
  m j (Qb _ g) s.heap.objs.size (fm (cc g)) (fm (cc g)) (.ref s.heap.objs.size) 0 (Uc _ rfl)
  (λh' tk H I t J z=>{h',tk,H,I,rfl,rfl,λb ob e=>t b ob (Kd (cc e)) (Qb _ e),J,z}) k
 refine jh key (λK G x=>?_) λe G x=>?_
 .cases K with
  |done ff=>
   obtain⟨h',tk,H,I,e,rfl,t,J,z⟩:=x;cases e;show ra _ A (load s.heap.objs.size>>=_) _ _ _;exact wpAny_bind (wpAny_load J (wpAny_pure (p h' tk H I t J z)))
  |again L=>
   refine{x.1,Pq x.2 λq M y=>?_};obtain⟨h',tk,H,I,rfl,rfl,t,J,z⟩:=y;show ra _ A (load s.heap.objs.size>>=_) _ _ _;exact wpAny_bind (wpAny_load J (wpAny_pure (p h' tk H I t J z)))
 .obtain⟨_,_,_,_,N,_⟩:=x;cases N
theorem Lz{κ:PyProof.Rows.KeyKind}{kd:pb}{r:Value}{vs:List Value}
  (a:∀(R:List Value->ja->Prop),(∀(h':Heap)(tk:Nat),(∀b o,s.heap.get? b=ba o->h'.get? b=ba o)->s.heap.objs.size<=h'.objs.size->R vs {s with heap:=h',toks:=tk})->ra (Ea prog w) A.in1 (Bu r) R E s)
  (c:KeysOf κ (Td vs)) (d:∀f:ja,KeepsTups s.heap f.heap->LtAt prog w f κ kd)
  (g:2<=vs.length->∀(A:bb)(E:Value->ja->Prop)(f:ja){Q:pb->ja->Prop},KeepsTups s.heap f.heap->Q kd f->ra (Ea prog w) A (xH vs.toArray) Q E f) (i:vs.length<=sizeLine)
  (h:∀(h':Heap)(tk:Nat)(D:Addr)(n:Nat)(st':Ha),(zb st').Perm (Td vs)->yj κ (zb st') (Td vs).size->(∀b o,s.heap.get? b=ba o->h'.get? b=ba o)->s.heap.objs.size<=D->h'.get? D=ba (nh "list" ((zb st').map (·.2)) n)->Q (.ref D) {s with heap:=h',toks:=tk}):
  ra (Ea prog w) A (call (.builtin "sorted") [r]) Q E s:=by
 refine gS kind_sorted plain_sorted entry_sorted (args_sorted1 _) ?_;unfold Builtin.«sorted»;refine wpAny_bind (m:=V' "sorted" 1 1 _) (wpAny_pure ?_);refine wpAny_bind (a _ λj tk k l=>?_);refine wpAny_bind (iS ?_ i);have p:(j.push (nh "list" vs.toArray 0)).get? j.objs.size=ba (nh "list" vs.toArray 0):=Uc _ rfl;have q:KeepsTups s.heap (j.push (nh "list" vs.toArray 0)):=λb o e _=>Qb _ (k b o e);have t:=q.trans (keeps_sort6 (vs:=vs) p);refine wpAny_bind (ng (Rg slot_list_sort {_,p,rfl} entry_list_sort (list_sort_treeG (κ:=κ) (kd:=kd) (s:={s with heap:=j.push (nh "list" vs.toArray 0),toks:=tk}) p c (d _ t) (λu _ v=>g u _ _ _ t v) i λst' x y z=>{_,rfl,?_}) (args_list_sort _)));obtain⟨e,B⟩:=W' (out:=(zb st').map (·.2)) p;refine wpAny_pure {_,rfl,h _ tk j.objs.size e st' x y (λb o C=>?_) l B};have F:=k b o C;have G:=cc F;rw[X' (Kd G) (by rw[yH];exact Wq G)];exact Qb _ F
end HT
namespace Tl
open PyProof.Rows.G (tupKindC tupKeyC KeepsTups tupC_ltAt tupKeys isTupObj)
def AD:V->Nat
 | .int i=>i.toNat
 |_=>0
theorem qO:∀t:Text,(txt t).map AD=t
 |[]=>rfl
 |x::t=>by
  show((x:Int)).toNat::(txt t).map AD=_;rw[qO t];rfl
noncomputable def cj(H:Hp)(q:Addr):Text:=match H q with
 |some (.tup xs)=>xs.map AD
 |_=>[]
theorem LQ{q:Addr}{t:Text}(h:H q=ba (.tup (txt t))):cj H q=t:=by
 unfold cj;rw[h];exact qO t
theorem mP:∀{ps:List Addr}{ts:List Text},Wb H ps ts->ts=ps.map (cj H)
 |_,_,.nil=>rfl
 |_,_,.cons a r=>by rw[Nb,<-mP r,LQ a]
theorem Jr:∀{ps:List Addr}{ts:List Text}{q:Addr},Wb H ps ts->q∈ps->H q=ba (.tup (txt (cj H q)))
 |_,_,_,.nil,h=>by simp at h
 |_,_,q,.cons a r,h=>by
  rcases jc.mp h with e|h
  .rw[e,LQ a];exact a
  .exact Jr r h
theorem tJ:∀{a:List Addr},(∀q∈a,H q=ba (.tup (txt (cj H q))))->Wb H a (a.map (cj H))
 |[],_=> .nil
 |q::a,h=> .cons (h q (by simp)) (tJ λr b=>h r (by simp[b]))
noncomputable def Aj(t:Text):List (Int ⊕ List Nat):=t.map λn=>Ce ((n:Nat):Int)
theorem YE:∀a b:Text,lexLt jS (Aj a) (Aj b)=Si a b
 |[],[]=>rfl
 |[],_::_=>rfl
 |_::_,[]=>rfl
 |x::a,y::b=>by
  have c:=YE a b;show lexLt jS (Ce (x:Int)::Aj a) (Ce (y:Int)::Aj b)=_;rw[lex_cons,c];show(decide ((x:Int)< (y:Int))||(!decide ((y:Int)< (x:Int))&&Si a b))=(decide (x< y)||(x==y&&Si a b));by_cases d:x< y
  .have:((x:Int)< (y:Int)):=by omega
   rw[Xc d,Xc this];rfl
  .have e:¬((x:Int)< (y:Int)):=by omega
   rw[Rf d,Rf e,ll,ll]
   congr 1
   by_cases f:x=y
   .subst f;simp
   .have:((y:Int)< (x:Int)):=by omega
    rw[Xc this,lp f];rfl
theorem fF:∀(t:Text)(i:Nat)(its:List Value),yb (txt t) its->tupItems (λ_=>ma) i its=ba (Aj t)
 |[],i,its,r=>by
  cases r;rfl
 |x::t,i,its,r=>by
  rw[vo] at r;cases r with
  |cons h q=>
   obtain⟨a,rfl⟩:=h;unfold tupItems;rw[oa se,fF t (i+1) _ q];rfl
abbrev Ve:Nat->Bool:=λ_=>ma
theorem Uw(I:Inv X pins σ H s){q:Addr}{t:Text}(h:H q=ba (.tup (txt t))):tupKeyC s.heap Ve (.ref q)=ba (Aj t):=by
 obtain⟨a,r,⟨o,b,c,n,hd⟩,d⟩:=I.tuple (Ba.of h);unfold tupKeyC;have e:isTupObj s.heap (.ref q)=da:=by simp[isTupObj,b,c]
 rw[qa e];simp only[tupKey,b,hd];exact fF t 0 _ r
theorem yA(I:Inv X pins σ H s):∀{ps:List Addr}{ts:List Text},Wb H ps ts->(∀t∈ts,t≠[])->∃b,TupsOf s.heap Ve (ps.map Bb) b
 |_,_,.nil,_=>{[],.nil}
 |p::ps,t::ts,.cons a r,c=>by
  obtain⟨b,h⟩:=yA I r λu d=>c u (by simp[d]);obtain⟨f,g,⟨o,i,j,n,hd⟩,k⟩:=I.tuple (Ba.of a);obtain⟨x,l,rfl⟩:∃x l,t=x::l:=by
   cases t with
   |nil=>exact absurd rfl (c [] (by simp))
   |cons x l=>exact⟨x,l,rfl⟩
  rw[vo] at g;cases g with
  |cons m q=>
   obtain⟨v,rfl⟩:=m;exact{_::b,.cons {p,o,_,n,rfl,i,j,hd,rfl,λ_=>{_,_,rfl},λe=>absurd e se} h}
theorem zF:∀{ps:List Addr}{us:List Value},yb (ps.map V.ref) us->us=ps.map Bb
 |[],_,r=>by cases r;rfl
 |p::ps,_,r=>by
  rw[Nb] at r;cases r with
  |cons h t=>
   cases h;rw[Nb,zF t]
theorem gD:∀a:List Addr,yb (a.map V.ref) (a.map Bb)
 |[]=> .nil
 |q::a=> .cons rfl (gD a)
def iw:Value->Addr
 | .ref a=>a
 |_=>0
theorem FL(I:Inv X pins σ H s){ps:List Addr}(c:Wb H ps ts){st':Ha}(d:(zb st').Perm (Td (ps.map Bb)))(f:yj (tupKindC s.heap Ve) (zb st') (Td (ps.map Bb)).size):
  ∃g,((zb st').map (·.2))=(g.map Bb).toArray/\g.length=ps.length/\Wb H g (g.map (cj H))/\(g.map (cj H)).Perm ts/\(g.map (cj H)).Pairwise λa b=>Si b a=ma:=by
 have h:(zb st').toList.Perm ((ps.map Bb).zip (ps.map Bb)):=by
  have e:=kS.mp d;rw[lS] at e;exact e
 have l:(ps.map Bb).zip (ps.map Bb)=ps.map λp=>(Bb p,Bb p):=by
  rw[List.zip_map']
 rw[l] at h
 let g:List Addr:=(zb st').toList.map λm=>iw m.2
 have n:g.Perm ps:=by
  have:=h.map λm=>iw m.2;rw[yd] at this;have o:ps.map ((λm:Value×Value=>iw m.2)∘λp=>(Bb p,Bb p))=ps:=by
   have:((λm:Value×Value=>iw m.2)∘λp=>(Bb p,Bb p))=id:=by funext p;rfl
   rw[this,Cu]
  rw[o] at this;exact this
 have r:(zb st').toList=g.map λp=>(Bb p,Bb p):=by
  show _=((zb st').toList.map λm=>iw m.2).map _;rw[yd];refine(Cu _).symm.trans (Am λm t=>?_);obtain⟨p,_,e⟩:=Mb.mp (h.mem_iff.mp t);rw[<-e];rfl
 have u:∀q∈g,H q=ba (.tup (txt (cj H q))):=λq v=>Jr c (n.mem_iff.mp v);refine{g,?_,n.length_eq,tJ u,?_,?_}
 .apply Y'
  rw[zH,r,yd];rfl
 .rw[mP c];exact n.map _
 .rw[Ti,AH];intro i j w x y;have z:(Td (ps.map Bb)).size=g.length:=by rw[mS,Na,n.length_eq]
  have A:=f i j (Ag y) (by rw[z];exact x);have B:∀(k:Nat)(B:k< g.length),KK (tupKindC s.heap Ve) (zb st') k=Aj (cj H g[k]):=λk B=>by
   have e:(zb st')[k]?=ba (Bb g[k],Bb g[k]):=by
    rw[<-Tf,r,Ac,Wd B];rfl
   unfold KK;rw[e];show(tupKeyC s.heap Ve (.ref g[k])).getD []=_;rw[Uw I (u _ (BH B))];rfl
  rw[B i w,B j x] at A;have C:lexLt jS (Aj (cj H g[j])) (Aj (cj H g[i]))=ma:=A;rw[YE] at C;exact C
def Es(H:Hp)(ts:List Text)(Q:VK):Prop:=∀c d p,d.Perm ts->(d.Pairwise λa b=>Si b a=ma)->Wb H c d->H p=ia->Q (.ref p) (upd H p (.lst (c.map V.ref)))
inductive iM(K:xa)(vs:List V)(H:Hp)(Q:VK):Prop|mk:∀a ps ts,vs=[.ref a]->Ia K H a (ps.map V.ref)->Wb H ps ts->(∀t∈ts,t≠[])->ts.length<=1000->Es H ts Q->iM K vs H Q
theorem ZF(I:Inv X pins σ H s){Q:VK}{ps:List Addr}(a:Wb H ps ts)(hz:ts.length<=1000)(q:Es H ts Q){h':Heap}{tk:Nat}{D:Addr}{n:Nat}{st':Ha}(c:(zb st').Perm (Td (ps.map Bb)))
  (d:yj (tupKindC s.heap Ve) (zb st') (Td (ps.map Bb)).size) (f:∀b o,s.heap.get? b=ba o->h'.get? b=ba o) (g:s.heap.objs.size<=D) (h:h'.get? D=ba (nh "list" ((zb st').map (·.2)) n)):
  EP X pins σ Q (.ref D) {s with heap:=h',toks:=tk}:=by
 obtain⟨i,e,j,k,l,m⟩:=FL I a c d;rw[e] at h;have p:=a.len;exact{.ref D,upd H D (.lst (i.map V.ref)),I.laid (t':=tk) f g {by rw[Na];exact Ag (Jd (by omega)),i.map Bb,n,gD i,h},rfl,q i _ D l m k (I.vb.fresh g)}
theorem lK(c:X.calm=da):cg X (.builtin "sorted") (iM X.K):=by
 intro d s f H g i Q I r h;obtain⟨a,j,l,rfl,m,t,u,w,q⟩:=h;obtain⟨x,y,z,_⟩:=I.list m;have e:=zF y;subst e;rw[yb.Ml r];obtain⟨A,B⟩:=yA I t u;have C:=t.len;have E:(j.map Bb).length<=sizeLine:=by rw[Na];exact Ag (Jd (by omega))
 refine HT.Lz (κ:=tupKindC s.heap Ve) (kd:=lr da) (vs:=j.map Bb) (λR F=>?_) (tupKeys λv G=>?_) (λJ k=>tupC_ltAt (s:=J) da k) (λK _ _ J _ k L=>oS (s:=J) (by rw[pS B];omega) (qS k B) L) E
  (λM N D n O P S T U V=>ZF I t w q P S T U V)
 .refine Z' z.isList (F _ s.toks (λb o W=>?_) ?_) E
  .rw[aaa _ _ _ _ (Kd (cc W))];exact Qb _ W
  .rw[aab,yH];exact KG _
 .obtain⟨p,P,e⟩:=Mb.mp G;subst e;exact{_,Uw I (Jr t P)}
inductive zI(vs:List V)(H:Hp)(Q:VK):Prop|mk:∀d x,vs=[.ref d]->DictAt H d x->(∀f∈x,f.1≠[])->x.length<=1000->Es H (x.map (·.1)) Q->zI vs H Q
theorem HF(a:X.calm=da):cg X (.builtin "sorted") zI:=by
 intro b s σ H c us Q I r h;obtain⟨d,x,rfl,⟨g,hd,i⟩,j,l,q⟩:=h;rw[yb.Ml r];obtain⟨m,u,xs,pr,o,w,ep,ho,hx,z,A,B⟩:=(show Cd X.prog X.w H s.heap d (.dT g) from I.vb d _ hd);clear m B;have C:∃E,w.toList.map (·.key)=E.map Bb/\Wb H E (x.map (·.1)):=by
  refine{xs.map λy=>y.2.1,?_,?_}
  .rw[A,yd,yd];rfl
  .clear A hd l j q
   induction pr generalizing x with
   |nil=>
    cases i;exact .nil
   |cons hh _ ih=>
    cases i with
    |cons e1 e2=>
     refine .cons ?_ (ih _ e2);rw[<-Xe,<-e1.1];exact hh.2.1
 obtain⟨E,F,G⟩:=C;have J:∀t∈x.map (·.1),t≠[]:=λt K=>by
  obtain⟨f,hf,e⟩:=Mb.mp K;subst e;exact j f hf
 obtain⟨fs,K⟩:=yA I G J;have L:=G.len;rw[Na] at L;have M:(x.map (·.1)).length<=1000:=by rw[Na];exact l
 have N:(E.map Bb).length<=sizeLine:=by rw[Na];exact Ag (Jd (by omega))
 have O:w.size<=sizeLine:=by
  have:=wc He F;rw[Na,Ng] at this;rw[this];exact N
 refine HT.Lz (κ:=tupKindC s.heap Ve) (kd:=lr da) (vs:=E.map Bb) (λR hR=>?_) (tupKeys λv hv=>?_) (λP k=>tupC_ltAt (s:=P) da k) (λh2 _ _ P _ k hq=>oS (s:=P) (by rw[pS K];omega) (qS k K) hq) N
  (λS T D n st' U V W hD Y=>ZF I G M q U V W hD Y)
 .refine HT.MY u hx z ho (I.ok.hd a) O λS T W Z=>?_;rw[F];exact hR S T W Z
 .obtain⟨p,U,e⟩:=Mb.mp hv;subst e;exact{_,Uw I (Jr G U)}
theorem uc.same{a:Hp}{p:Addr}(T:uc C H p d x)(s:ka H a):uc C a p d x:=by
 obtain⟨⟨b,c⟩,e,hd,f⟩:=T;exact{{b,s _ _ c},e,s _ _ hd,f.Xa (ka.Xa s)}
def Ny(H H':Hp)(p d:Addr):Prop:=∀b u,H b=ba u->b≠p->b≠d->H' b=ba u
theorem ka.lz{a:Hp}(s:ka H a)(p d:Addr):Ny H a p d:=λb u h _ _=>s b u h
noncomputable def Vd(x:List Ent)(p b:Text):List Int×List Ent:=
 if gb p=ma then([-1],x) else if 4096< b.length then([-2],x) else if(x.any λf=>Xg p f.1)=da then([-3],x) else if xk x p b=da then([-4],x) else([if(look x p).isSome=da then 0 else 1],md x p b)
inductive Ho(C:Addr)(g:List Ent->Text->Text->List Int×List Ent)(vs:List V)(H:Hp)(Q:VK)(X3:XK):Prop|mk:∀tp d x a p c b,vs=[.ref tp,.ref a,.ref c]->uc C H tp d x->Small x->H a=ba (.tup (txt p))->H c=ba (.tup (txt b))->p.length<=100000->b.length<=100000->(∀H' l d',Ny H H' tp d->uc C H' tp d' (g x p b).2->(d'=d\/H d'=ia)->H l=ia->H' l=ba (.lst (nums (g x p b).1))->Q (.ref l) H')->Ho C g vs H Q X3
inductive uv(C:Addr)(g:List Ent->Text->List Int×List Ent)(vs:List V)(H:Hp)(Q:VK)(X3:XK):Prop|mk:∀tp d x a p,vs=[.ref tp,.ref a]->uc C H tp d x->Small x->H a=ba (.tup (txt p))->p.length<=100000->(∀H' l d',Ny H H' tp d->uc C H' tp d' (g x p).2->(d'=d\/H d'=ia)->H l=ia->H' l=ba (.lst (nums (g x p).1))->Q (.ref l) H')->uv C g vs H Q X3
def IF(y:V)(z:Bool)(_:Hp):Prop:=y= .bl z
theorem RD:∀{acc:List V}{zs:List Bool},Paired (λy b=>IF y b H) acc zs->acc=zs.map V.bl
 |_,_,.nil=>rfl
 |_,_,.cons e r=>by rw[Nb,<-RD r,<-e]
theorem Iw:∀l:List α,(l.map ba).filterMap id=l
 |[]=>rfl
 |a::l=>by
  show a::(l.map ba).filterMap id=a::l;rw[Iw l]
theorem SX{C H0 tp d}{p:Text}{g:Text->Text->Bool}(i j m:Nat)(cl:dh K C)(b:Gh K C "files")(c:uc C H0 tp d x)(e:Small x)(k:H0 a=ba (.tup (txt p)))(l:p.length<=100000)
  (n:σ[i]?=ba (ba (.ref tp))) (r:∀v,((wipe σ [m]).set m (ba v))[j]?=ba (ba (.ref a))) (t:∀v,((wipe σ [m]).set m (ba v))[m]?=ba (ba v)) (hw:∀v,wipe ((wipe σ [m]).set m (ba v)) [m]=wipe σ [m]):
  Pb H0 (tB (qh (gx K) (Kb (Ss (Jk (Qz (zt K (Ua i) "files")) (Le m) so (me (Zv g) [] E0 (Kb (Ua j) (Kb (Ua m) Xb))) [m])) Xb))) σ (x.any λf=>g p f.1):=λH Q s q=>by
 refine tw cl b (c.same s) n IF ((x.map λf=>g p f.1).map ba) (by rw[Na,Na]) (λ_ _ _ _ _ h=>h) (Jd e.n) hw (λu w y f o z hd A L hf E F G I J M=>?_) (λN z D O P R S=>?_)
 .rw[Ac,Ac,hf] at E;have E:=Dd E;exact wg (B:=G z) {_,r _,_,t _,a,y,p,f.1,rfl,L.txt hd (s _ _ k),F,l,e.p f (vd hf),λT U=>M _ _ T E.symm U rfl}
 .rw[Iw] at S;rw[RD S] at R;refine{D,_,rfl,Ia.of R,_,rfl,?_};rw[Tx];exact q z (s.trans O)
theorem j1{H0:Hp}{g:Int->Int->Bool}{t:Text}{n:Int}(i:Nat)(b:σ[i]?=ba (ba (.ref a)))(c:H0 a=ba (.tup (txt t))):
  Pb H0 (Ed (Vc (pf λi j=> .bl (g i j)) (qh (λxs H Q=>∃p ys,xs=[V.ref p]/\(Ia K H p ys\/Ba K H p ys)/\Q (.int ys.length) H) (Kb (Ua i) Xb)) (tC (.int n)))) σ (g (t.length:Int) n):=tz b c
theorem k8(G:GF K mg "put_file" eG ["tree","path","data"])(T:ig K mg C)(Tl:mg "len"=ia)(h1:Aa P w K mg base 3 "is_path" (spT gb))(h2:Aa P w K mg base 2 "either_within" (Zv Xg))
  (h3:Aa P w K mg base 1 "would_be_full" (Rw C)):Aa P w K mg base 4 "put_file" (Ho C Vd):=by
 refine G.go (N:=["tree","path","data","new","other"]) ?_;rintro f cdv A outer s H vs Q E nd h X D ⟨j,d,x,a,p,c,b,rfl,Tr,hx,ha,hc,hzp,hzb,k⟩;have hu:=h.units;have m:=ei h;refine⟨_,Ga (Lb (Yf (Nd (Ya h1 h (la (pv 1) pa)))) (Ca (Oa (ic (la (Wa T.PATH) pa)))) Ob)
  (Ga (Lb (fc Rl (Cc je (by rfl) Tl Sd (la (pv 2) pa)) (Wa T.O6) (Yb _)) (Ca (Oa (ic (la (Wa T.LONG) pa)))) Ob)
  (Ga (Lb (Nd (Cc (uA rfl) (by rfl) T.any (by rfl) (la (Xw (Yh (own:=[("other",4)]) rfl nd (Um (vc (pv 0) rfl)) (Wf (N:=["tree","path","data","new","other"]) (sc:=Qc eG) (by decide+kernel)) (λ_ _ _ _ _=>Md (i:=4)) (λ_ _ _ _ _=>nj)
   (λ_ _ _ _ _=>Ya h2 h (la (pv 1) (la (pv 4) pa))))) pa))) (Ca (Oa (ic (la (Wa T.CLASH) pa)))) Ob)
  (Ga (Lb (Nd (Ya h3 h (la (pv 0) (la (pv 1) (la (pv 2) pa))))) (Ca (Oa (ic (la (Wa T.FULL) pa)))) Ob)
  (Ga (nc (i:=3) (PD (Ck (BP m (pv 1) (vc (pv 0) rfl))) Sb Sb))
  (Ga (Cr m (vc (pv 0) rfl) (pv 1) (pv 2) rfl)
  (Ca (Oa (ic (la (pv 3) pa))))))))),?_⟩
 have r:∀(t:Hp)(n:Int),ka H t->Vd x p b=([n],x)->jo (Kb (tC (.int n)) Xb) [] t Q:=λt n v e=>by
  refine{Lc,λl y=>k _ l d (ka.lz (v.trans (Qa y)) _ _) ?_ (.inl rfl) (v.free y) ?_}
  .rw[e];exact Tr.same (v.trans (Qa y))
  .rw[e,wa];rfl
 refine Zb (Yj (g:=gb) 1 rfl ha) (ka.refl H) λt v=>cb (λz=>?_) (λz=>?_)
 .have e:gb p=ma:=by simpa using z
  exact r t (-1) v (by unfold Vd;rw[qa e])
 have e1:¬gb p=ma:=by simpa using z
 refine Zb (j1 2 rfl hc) v λH2 s2=>cb (λB=>?_) (λB=>?_)
 .have e:4096< b.length:=by simp at B;omega
  exact r H2 (-2) s2 (by unfold Vd;rw[oa e1,qa e])
 have e2:¬4096< b.length:=by simp at B;omega
 refine Zb (SX (g:=Xg) 0 1 4 T.cl T.nF Tr hx ha hzp rfl (λ_=>rfl) (λ_=>rfl) (λ_=>rfl)) s2 λH3 s3=>cb (λF=>?_) (λF=>?_)
 .exact r H3 (-3) s3 (by unfold Vd;rw[oa e1,oa e2,qa F])
 have t4:Pb H (tB (me (Rw C) [] E0 (Kb (Ua 0) (Kb (Ua 1) (Kb (Ua 2) Xb))))) [ba (.ref j),ba (.ref a),ba (.ref c),ia,ia] (xk x p b):=λI Q4 J q4=>
  {_,rfl,_,rfl,_,rfl,j,d,x,a,p,c,b,rfl,Tr.same J,J _ _ ha,J _ _ hc,hx,λH5 s5=>{_,rfl,q4 H5 (J.trans s5)}}
 refine Zb t4 s3 λI J=>cb (λL=>?_) (λL=>?_)
 .exact r I (-4) J (by unfold Vd;rw[oa e1,oa e2,oa F,qa L])
 have e:Vd x p b=([if(look x p).isSome=da then 0 else 1],md x p b):=by unfold Vd;rw[oa e1,oa e2,oa F,oa L]
 obtain⟨⟨dx,M⟩,O,R,S⟩:=Tr.same J;have ha4:=J _ _ ha;have U:=J _ _ hc;have V:I a=ba (.tup ((key p).map kV)):=by rw[Xe];exact ha4
 have W:(jf O (key p)).isSome=(look x p).isSome:=by
  rcases Mj (q:=p) S with⟨h5,h6⟩ |⟨d5,b5,h5,h6,_⟩<;>rw[h5,h6]<;>rfl
 have hpd:j≠d:=Vb M R;have hlen:O.length< sizeLine:=by
  have:O.length=x.length:=bf S;rw[this];exact Jd hx.n
 have Y:∀n:Int,([if(look x p).isSome=da then(0:Int) else 1])=[n]->yo (zL (zt K (Ua 0) "files") (Ua 1) (Ua 2)) (pD (jo (Kb (Ua 3) Xb))) {nx:=λ_ H'=>Q .Tb H',rt:=Q} [ba (.ref j),ba (.ref a),ba (.ref c),ba (.int n),ia] I:=λn hn=>by
  refine{_,rfl,_,rfl,j,C,dx,ff d,.ref d,rfl,M,T.cl,T.nF,Me d,_,rfl,d,_,rfl,ej.tt (k:=key p) R V hlen,?_};refine{_,rfl,Lc,λl y=>?_};have s5:Fe I (upd I d (.dT (putK O (key p) (.ref c)))):=λb ys e5=>by
   rw[Ja (Vb e5 R)];exact e5
  have sn:=Qa (o:= .lst [.int n]) y;have hlH:H l=ia:=by
   by_cases hld:l=d
   .rw[hld,wa] at y;cases y
   .rw[Ja hld] at y;exact J.free y
  refine k _ l d (λb u hb h6 h7=>sn _ _ (by rw[Ja h7];exact J _ _ hb)) ?_ (.inl rfl) hlH (by rw[e,hn,wa];rfl);rw[e];exact uc.same {{dx,by rw[Ja hpd];exact M},_,wa,qw (S.Xa s5) (s5 _ _ U)} sn
 refine{_,rfl,_,rfl,j,C,dx,ff d,.ref d,rfl,M,T.cl,T.nF,Me d,d,_,rfl,yg.tt (k:=key p) R V,_,rfl,cb (λZ=>?_) (λZ=>?_)}
 .exact Y 0 (by rw[<-W,Z];rfl)
 .exact Y 1 (by rw[<-W,show(jf O (key p)).isSome=ma by simpa using Z];rfl)
noncomputable def without(x:List Ent)(ts:List Text):List Ent:=x.filter λf=> !ts.contains f.1
theorem jJ{q d:Text}(h:q∉x.map (·.1)):md x q d=x++[(q,d)]:=by
 unfold md;rw[oa];intro e;obtain⟨f,hf,e⟩:=Ze.mp e;exact h (Mb.mpr {f,hf,by simpa using e})
theorem uU{q:Text}(h:q∈(without x ts).map (·.1)):q∈x.map (·.1):=by
 obtain⟨f,hf,e⟩:=Mb.mp h;exact Mb.mpr {f,(Mc.mp hf).1,e}
theorem jQ{f:Ent}(a:(x.map (·.1)).Nodup)(h:x[i]?=ba f):f.1∉(x.take i).map (·.1):=by
 intro m;obtain⟨g,b,e⟩:=Mb.mp m;obtain⟨j,c,d⟩:=M' b;rw[rd] at c;rw[rS] at d;have k:i< x.length:=(Cf.mp h).1;have hf:x[i]=f:=(Cf.mp h).2;have l:(x.map (·.1))[j]?=ba f.1:=by
  rw[Ac,Wd (by omega),d];exact wc ba e
 have n:(x.map (·.1))[i]?=ba f.1:=by
  rw[Ac,h];rfl
 have:=tX a l n;omega
theorem mO{f:Ent}(h:x[i]?=ba f):without (x.take (i+1)) ts=if ts.contains f.1=da then without (x.take i) ts else without (x.take i) ts++[f]:=by
 unfold without;rw[ni,h,aac];cases a:ts.contains f.1 with
 |true=>simp[jk];simpa using a
 |false=>simp[jk];simpa using a
theorem pG:∀{kvs:List (List Key×V)}{x:List Ent},Ih H kvs x->kvs.map (·.1)=(x.map (·.1)).map key
 |_,_,.nil=>rfl
 |_,_,.cons ⟨e,_⟩ r=>by rw[Nb,Nb,Nb,pG r,e]
theorem BE:∀{l:List Text},l.Nodup->(l.map key).Nodup
 |[],_=>Yq
 |t::l,h=>by
  obtain⟨a,b⟩:=tj.mp h;refine tj.mpr {λm=>?_,BE b};obtain⟨u,c,e⟩:=Mb.mp m;exact a (gA e▸c)
theorem BF:∀{kvs:List (List Key×V)}{i:Nat}{k:List Key}{v:V},(kvs.map (·.1)).Nodup->kvs[i]?=ba (k,v)->jf kvs k=ba v
 |[],_,_,_,_,h=>by simp at h
 |p::r,0,k,v,_,h=>by
  simp at h;subst h;exact Ot rfl
 |p::r,i+1,k,v,a,h=>by
  obtain⟨b,c⟩:=tj.mp (show(p.1::r.map (·.1)).Nodup from a);have d:r[i]?=ba (k,v):=h;rw[Tt (λe=>b (e▸Mb.mpr {(k,v),vd d,rfl}))];exact BF c d
theorem DictAt.Xa{a:Hp}(h:DictAt H d x)(s:Fe H a)(hd:a d=H d):DictAt a d x:=by
 obtain⟨b,c,e⟩:=h;exact{b,hd.trans c,e.Xa s}
theorem DictAt.same{a:Hp}(h:DictAt H d x)(s:ka H a):DictAt a d x:=by
 obtain⟨b,c,e⟩:=h;exact{b,s _ _ c,e.Xa (ka.Xa s)}
inductive aw(C:Addr)(vs:List V)(H:Hp)(Q:VK)(X3:XK):Prop|mk:∀tp d x pl ps ts,vs=[.ref tp,.ref pl]->uc C H tp d x->Small x->H pl=ba (.lst (ps.map V.ref))->Wb H ps ts->(∀H' e,ka H H'->H e=ia->DictAt H' e (without x ts)->Q (.ref e) H')->aw C vs H Q X3
theorem qX(G:GF K mg "files_without" yN ["tree","paths"])(T:ig K mg C):Aa P w K mg base 1 "files_without" (aw C):=by
 refine G.go (N:=["tree","paths","files","path"]) ?_;rintro f cdv A outer s H vs Q E nd hr X D ⟨a,d,x,pl,ps,g,rfl,Tr,hx,h,tx,k⟩;have hu:=hr.units;have j:=ei hr;refine⟨_,Ga (nc (i:=2) cE)
  (Ga (mw (Ji qi rfl (Um (vc (pv 0) rfl)) (Md (i:=3))
   (Ca (Lb (fc (fD hu) (pv 3) (pv 1) (by with_unfolding_all rfl)) (Ca (Cr j (pv 2) (pv 3) (qk j (vc (pv 0) rfl) (pv 3) (λ_ _=>rfl)) rfl)) Ob))))
  (Ca (Oa (pv 2)))),?_⟩
 intro e l;obtain⟨⟨dx,hp⟩,m,hd,en⟩:=Tr;have sE:ka H (upd H e (.dT [])):=Qa l;have n:a≠d:=Vb hp hd;have o:e≠d:=λz=>by rw[z,hd] at l;cases l
 have p:m.length=x.length:=bf en;refine{d,.dT m,sE _ _ hd,trivial,λod=>?_};refine{_,rfl,a,C,dx,ff d,.ref d,rfl,by rw[Ja n];exact sE _ _ hp,T.cl,T.nF,Me d,d,od,rfl,.inr {m,wa,?_}};refine sk (qx m) (λi σ r=>∃v,σ=[ba (.ref a),ba (.ref pl),ba (.ref e),v]/\(∀b u,H b=ba u->b≠d->r b=ba u)/\r d=ba (.qc od (.dT m))/\DictAt r e (without (x.take i) g))
  {ia,rfl,λb u t B=>by rw[Ja B];exact sE _ _ t,wa,[],by rw[Ja o];exact wa,.nil} (λi σ r _ ⟨_,_,_,h4,_⟩=>h4) ?_ ?_
 .rintro i y σ r hi ⟨kk,v,q,F,rfl,hq⟩ ⟨v0,rfl,I,J,L⟩;obtain⟨f,hf,ek,b1,rfl,hb1⟩:=Pr en F;rw[ek,Xe] at hq;have tH:Fe H r:=λb xs t=>I b _ t (Vb t hd);have M:=I _ _ h (Vb h hd);have hp':=I _ _ hp n;have O:f∈x:=vd hf;have R:jf m (key f.1)=ba (.ref b1)/\r b1=ba (.tup (txt f.2)):=by
   have hlk:=Fj hx.nd O;have S:(m.map (·.1)).Nodup:=by
    have e1:m.map (·.1)=(x.map (·.1)).map key:=pG en;rw[e1];exact BE hx.nd
   refine{?_,tH _ _ hb1};have:=BF S F;rw[ek] at this;exact this
  refine Fz (c:= !g.contains f.1) (H0:=r) (λH3 Q3 U q3=>{_,rfl,_,rfl,q,f.1,pl,ps,g,rfl,rfl,Ba.of (U _ _ hq),Ia.of (U _ _ M),(tx.Xa tH).Xa (ka.Xa U),_,rfl,q3 H3 U}) (ka.refl r) λH3 U=>cb (λhc=>?_) (λhc=>?_)
  .obtain⟨V,W,Y⟩:=L.same U;have hl2:V.length< sizeLine:=by
    have:V.length=(without (x.take i) g).length:=bf Y;rw[this];unfold without;exact Qi (xl _ _) (Jd (Bc (by rw[rd];exact MG _ _) hx.n))
   refine{_,rfl,a,C,dx,ff d,.ref d,rfl,U _ _ hp',T.cl,T.nF,Me d,_,rfl,d,.ref b1,rfl,.inr {m,key f.1,q,.inr {od,U _ _ J},rfl,by rw[Xe];exact U _ _ hq,R.1.symm},?_};refine{_,rfl,_,rfl,e,_,rfl,ej.tt (k:=key f.1) W (by rw[Xe];exact U _ _ hq) hl2,?_};have t5:Fe H3 (upd H3 e (.dT (putK V (key f.1) (.ref b1)))):=λb ys e5=>by
    rw[Ja (Vb e5 W)];exact e5
   refine{ba (.ref q),rfl,λb u t B=>?_,?_,?_}
   .rw[Ja (λz=>by rw[z,l] at t;cases t)];exact U _ _ (I b u t B)
   .rw[Ja (Gc o)];exact U _ _ J
   .refine{_,wa,?_};rw[mO hf,oa (by simpa using hc)];have hnk:f.1∉(without (x.take i) g).map (·.1):=λz=>jQ hx.nd hf (uU z);rw[<-jJ hnk];exact qw (Y.Xa t5) (t5 _ _ (U _ _ R.2))
  .refine{ba (.ref q),rfl,λb u t B=>U _ _ (I b u t B),U _ _ J,?_};rw[mO hf,qa (by simpa using hc)];exact L.same U
 .rintro σ r ⟨v0,rfl,I,J,L⟩;refine{J,_,rfl,k _ e (λb u t=>?_) l ?_}
  .by_cases Z:b=d
   .subst Z;rw[wa,<-hd];exact t
   .rw[Ja Z];exact I b u t Z
  .rw[p,Cg] at L;exact L.Xa (gv J) (by rw[Ja o])
theorem YV{j:Nat}{a:TE}{tt:TT}{c:TE}{Q:VK}{g:Type}(h:DictAt H d x)(i:∀kvs H' R,Lk H H' d kvs->R (.ref d) H'->a σ H' R)
  (l:V->g->Hp->Prop) (m:List (Option g)) (n:m.length=x.length) (p:∀y b H1 H2,Fe H1 H2->l y b H1->l y b H2) (hz:x.length< sizeLine) (hw:∀v,wipe ((wipe σ [j]).set j (ba v)) [j]=wipe σ [j])
  (s:∀(kvs:List (List Key×V))(k:Nat)(q:Addr)(f:Ent)(o:Option g)(H':Hp),H d=ba (.dT kvs)->Ih H kvs x->Lk H H' d kvs->x[k]?=ba f->m[k]?=ba o->H' q=ba (.tup (txt f.1))->∀(t:Hp->Prop)(u:VK),(∀w,o=ia->ka H' w->t w)->(∀y b z,o=ba b->ka H' z->l y b z->u y z)->
   tt ((wipe σ [j]).set j (ba (.ref q))) H' λb w=>if b=da then c ((wipe σ [j]).set j (ba (.ref q))) w u else t w)
  (hd:∀acc H' D,ka H H'->H D=ia->H' D=ba (.lst acc)->Paired (λy b=>l y b H') acc (m.filterMap id)->Q (.ref D) H'):
  Ss (Jk (Qz a) (Le j) tt c [j]) σ H Q:=by
 obtain⟨kvs,A,B⟩:=h;have C:kvs.length=x.length:=bf B;refine{d,.dT kvs,A,trivial,λE=>?_};have F:Lk H (upd H d (.qc E (.dT kvs))) d kvs:=oM E;refine i kvs _ _ F {d,E,rfl,.inr {kvs,wa,λD G=>?_}};have I:D≠d:=λe=>by rw[e,wa] at G;cases G
 refine Sm (qx kvs) l m (by rw[n,C]) p (λH' J=>J _ _ wa) G (by rw[C];exact hz) hw (λk y o H' K L r J t u M N=>?_) (λacc H' J O P=>?_)
 .obtain⟨S,v,q,T,rfl,U⟩:=r;obtain⟨f,hf,e,_⟩:=Pr B T;rw[e,Xe] at U;exact s kvs k q f o H' A B (F.same J) hf L U t u M N
 .have W:=J _ _ (show upd H d (.qc E (.dT kvs)) d=ba (.qc E (.dT kvs)) from wa);have X:H D=ia:=by rw[Ja I] at G;exact G
  refine{W,hd acc _ D (FE (F.same J) A) X (by rw[Ja I];exact O) (Paired.wh P λy b q=>p y b _ _ (gv W) q)}
noncomputable def Bj(x:List Ent)(p:Text):List Int×List Ent:=
 if gb p=ma then([-1],x) else if(x.map (·.1)).filter (gf p)=[] then([-5],x) else([(((x.map (·.1)).filter (gf p)).length:Int)],without x ((x.map (·.1)).filter (gf p)))
theorem Y8(G:GF K mg "remove_files" bN ["tree","path"])(T:ig K mg C)(Tl:mg "len"=ia)(h1:Aa P w K mg base 3 "is_path" (spT gb))(h2:Aa P w K mg base 2 "paths_at" (QA C))
  (h3:Aa P w K mg base 1 "files_without" (aw C)):Aa P w K mg base 4 "remove_files" (uv C Bj):=by
 refine G.go (N:=["tree","path","leaving"]) ?_;rintro f cdv A c s H vs Q E nd h X D ⟨j,d,x,a,p,rfl,o,hx,ha,q,k⟩;have hu:=h.units;refine⟨_,Ga (Lb (Yf (Nd (Ya h1 h (la (pv 1) pa)))) (Ca (Oa (ic (la (Wa T.PATH) pa)))) Ob)
  (Ga (nc (i:=2) (Ya h2 h (la (pv 0) (la (pv 1) pa))))
  (Ga (Lb (fc (UE hu) (pv 2) (ic pa) (Yb _)) (Ca (Oa (ic (la (Wa T.ABSENT) pa)))) Ob)
  (Ga (Rh (pv 0) (Ya h3 h (la (pv 0) (la (pv 2) pa))) rfl)
  (Ca (Oa (ic (la (Cc je (by rfl) Tl Sd (la (pv 2) pa)) pa))))))),?_⟩
 have r:∀(t:Hp)(n:Int),ka H t->Bj x p=([n],x)->jo (Kb (tC (.int n)) Xb) [] t Q:=λt n v e=>by
  refine{Lc,λl y=>k _ l d (ka.lz (v.trans (Qa y)) _ _) ?_ (.inl rfl) (v.free y) ?_}
  .rw[e];exact o.same (v.trans (Qa y))
  .rw[e,wa];rfl
 refine Zb (Yj (g:=gb) 1 rfl ha) (ka.refl H) λt v=>cb (λB=>?_) (λB=>?_)
 .have e:gb p=ma:=by simpa using B
  exact r t (-1) v (by unfold Bj;rw[qa e])
 have e1:¬gb p=ma:=by simpa using B
 refine{_,rfl,_,rfl,j,d,x,a,p,rfl,o.same v,v _ _ ha,q,hx.n,λH2 l ps s2 hl0 y F=>?_};refine Zb (ME (K:=K) 2 rfl y F) (ka.refl H2) λH3 I=>cb (λJ=>?_) (λJ=>?_)
 .exact r H3 (-5) (v.trans (s2.trans I)) (by unfold Bj;rw[oa e1,qa (Qe J)])
 have e2:¬(x.map (·.1)).filter (gf p)=[]:=λz=>J (Xc z);have L:ka H H3:=v.trans (s2.trans I);have e:Bj x p=([(((x.map (·.1)).filter (gf p)).length:Int)],without x ((x.map (·.1)).filter (gf p))):=by unfold Bj;rw[oa e1,oa e2]
 refine{_,rfl,_,rfl,j,d,x,l,ps,_,rfl,o.same L,hx,I _ _ y,F.Xa (ka.Xa I),λH4 M O he De=>?_};obtain⟨R,S⟩:=(o.same (L.trans O)).ins;refine{_,rfl,j,C,R,_,rfl,S,T.cl,T.nF,(by show 1< 1000;decide),?_};have U:=O _ _ (I _ _ y);have V:l≠j:=Vb U S;refine{_,rfl,l,_,rfl,.inl (Ia.of (by rw[Ja V];exact U)),Lc,λm W=>?_};have t4:Fe H4 (upd H4 j (.ins C R (Bd "files" (.ref M) (ff d)))):=λb ys e5=>by
  rw[Ja (Vb e5 S)];exact e5
 have Y:M≠j:=by
  obtain⟨kv,h5,_⟩:=De;exact Vb h5 S
 have Z:m≠j:=λz=>by rw[z,wa] at W;cases W
 refine k _ m M (λb u hb h6 h7=>?_) ?_ (.inr (L.free he)) ?_ ?_
 .exact Qa W _ _ (by rw[Ja h6];exact O _ _ (L _ _ hb))
 .rw[e];refine uc.same {{R,by rw[wa,ND]},De.Xa t4 (by rw[Ja Y])} (Qa W)
 .rw[Ja Z] at W;exact(L.trans O).free W
 .rw[e,wa,Na,F.len];rfl
noncomputable def Xh(p:Text)(y:List Ent):Bool:=(look y p).isSome||y.any λf=>Xg p f.1
inductive cB(vs:List V)(H:Hp)(Q:VK)(X3:XK):Prop|mk:∀a p d y,vs=[.ref a,.ref d]->H a=ba (.tup (txt p))->DictAt H d y->p.length<=100000->Small y->(∀H',ka H H'->Q (.bl (Xh p y)) H')->cB vs H Q X3
theorem f9(G:GF K mg "clashes_with_any" EE ["path","others"])(T:ig K mg C)(b:Aa P w K mg base 2 "either_within" (Zv Xg)):Aa P w K mg base 3 "clashes_with_any" cB:=by
 refine G.go (N:=["path","others","other"]) ?_;rintro f c A g s H vs Q E j l X D ⟨a,p,d,y,rfl,m,n,t,u,k⟩;have x:=ei l;refine⟨_,Ca (Oa (fq (IV (BP x (pv 0) (pv 1))) (Lm (Cc (uA rfl) (by rfl) T.any (by rfl) (la (Xw (Yh (own:=[("other",2)]) rfl j (Um (pv 1)) (Wf (N:=["path","others","other"]) (sc:=Qc EE) (by decide+kernel)) (λ_ _ _ _ _=>Md (i:=2)) (λ_ _ _ _ _=>nj)
   (λ_ _ _ _ _=>Ya b l (la (pv 0) (la (pv 2) pa))))) pa))))),?_⟩
 obtain⟨z,hd,F⟩:=id n;have I:H a=ba (.tup ((key p).map kV)):=by rw[Xe];exact m
 have J:(jf z (key p)).isSome=(look y p).isSome:=by
  rcases Mj (q:=p) F with⟨M,O⟩ |⟨d5,b5,M,O,_⟩<;>rw[M,O]<;>rfl
 refine{_,rfl,_,rfl,d,_,rfl,yg.tt (k:=key p) hd I,_,rfl,cb (λS=>?_) (λS=>?_)}
 .have e:Xh p y=da:=by unfold Xh;rw[<-J,S];rfl
  rw[<-e];exact k H (ka.refl H)
 .have e:Xh p y=y.any λf=>Xg p f.1:=by unfold Xh;rw[<-J,show(jf z (key p)).isSome=ma by simpa using S];rfl
  refine YV n (λz U R L r=>{_,rfl,r}) IF ((y.map λf=>Xg p f.1).map ba) (by rw[Na,Na]) (λ_ _ _ _ _ h=>h) (Jd u.n) (λv=>rfl) (λz kk V f o U hd F L hf W hq kn ky hkn Y=>?_) (λacc U D s' hD Z b=>?_)
  .rw[Ac,Ac,hf] at W;have W:=Dd W;exact wg (B:=kn U) {_,rfl,_,rfl,a,V,p,f.1,rfl,L.txt hd m,hq,t,u.p f (vd hf),λH4 s4=>Y _ _ H4 W.symm s4 rfl}
  .rw[Iw] at b;rw[RD b] at Z;refine{D,_,rfl,Ia.of Z,?_};rw[Tx];show Q (.bl (y.any λf=>Xg p f.1)) U;rw[<-e];exact k U s'
end Tl
namespace L2
theorem j0{xs ys:List V}{p q:Nat}{tb:TS}{D:Ends}(c:ys.length=xs.length)(d:Nat->L2.St->Hp->Prop)(f:d 0 σ H)(g:∀i σ H,i<=xs.length->d i σ H->Ia K H a xs/\Ia K H b ys)
  (h:∀i x y σ H T,xs[i]?=ba x->ys[i]?=ba y->d i σ H->H T=ia->tb {D with nx:=d (i+1),ct:=d (i+1),bk:=D.nx} ((σ.set p (ba x)).set q (ba y)) (upd H T (.tup [x,y])))
  (hd:∀σ H,d xs.length σ H->D.nx σ H):
  ∃W:Nat->Nat->L2.St->Hp->Prop,(∃m,W 0 m σ H)/\∀i m σ H,W i m σ H->
   ((Sw K a b).stop i H/\D.nx σ H)\/((Sw K a b).go i H/\∃N:L2.St->Hp->Prop,(∀j H',N j H'->∃k,k< m/\W (i+1) k j H')/\∀x H',(Sw K a b).Gj i H x H'->rA K 2 (Ht (Le p) (Ht (Le q) FF)) x σ H' λl H2=>tb {D with nx:=N,ct:=N,bk:=D.nx} l H2):=by
 refine{λi m σ H=>m=xs.length - i/\i<=xs.length/\d i σ H,{xs.length,by simp,Pd _,f},?_};rintro i m σ H ⟨rfl,n,pv⟩;obtain⟨o,r⟩:=g i σ H n pv;by_cases s:i< xs.length
 .refine .inr {{xs,ys,xs[i],ys[i],o,r,Wd s,Wd (by omega)},d (i+1),λj H' t=>{xs.length - (i+1),by omega,rfl,s,t},λv H' y=>?_};obtain⟨T,x,z,rfl,u,rfl,w,A⟩:=y;exact{T,_,rfl,Ba.of wa,rfl,_,_,rfl,_,_,rfl,rfl,h i x z σ H T (w xs o) (A ys r) pv u}
 .have e:i=xs.length:=by omega
  subst e;exact .inl {{xs,ys,o,r,.inl (rb _)},hd σ H pv}
end L2
namespace Tl
theorem Small.filter(h:Small x)(c:Ent->Bool):Small (x.filter c):=
 {Bc (xl _ _) h.n,λf hf=>h.path f (Mc.mp hf).1,λf hf=>h.b f (Mc.mp hf).1,aad.sublist (DH _ zl) h.nd}
noncomputable def fv(x:List Ent)(a b:List Text)(y:List Ent):List Ent:=(a.zip b).foldl (λz c=>md z c.2 ((look x c.1).getD [])) y
noncomputable def Ek(x:List Ent)(a b:Text):List Int×List Ent:=
 if gb a=ma\/gb b=ma then([-1],x) else
 if(x.map (·.1)).filter (gf a)=[] then([-5],x) else
 if Af b a=da then([-6],x) else
 if(((x.map (·.1)).filter (gf a)).map λp=>b++p.drop a.length).all gb=ma then([-1],x) else
 if((((x.map (·.1)).filter (gf a)).map λp=>b++p.drop a.length).any λq=>Xh q (without x ((x.map (·.1)).filter (gf a))))=da then([-3],x) else
 ([(((x.map (·.1)).filter (gf a)).length:Int)],fv x ((x.map (·.1)).filter (gf a)) (((x.map (·.1)).filter (gf a)).map λp=>b++p.drop a.length) (without x ((x.map (·.1)).filter (gf a))))
theorem Aw{n:Nat}(h:n<=2000):n< sizeLine:=Qi h (by decide)
theorem zP(y:List Ent)(q d:Text):(md y q d).length<=y.length+1:=by
 unfold md;split
 .rw[Na];omega
 .rw[wd];exact rb _
theorem RP(x:List Ent):∀(zs:List (Text×Text))(y:List Ent),(zs.foldl (λz a=>md z a.2 ((look x a.1).getD [])) y).length<=y.length+zs.length
 |[],y=>rb _
 |z::zs,y=>by
  rw[Bm,Oc];have b:=RP x zs (md y z.2 ((look x z.1).getD []));have c:=zP y z.2 ((look x z.1).getD []);omega
theorem L7{H0:Hp}{l:Addr}{ps:List Addr}{g:Text->Bool}(i m:Nat)(a:H0 l=ba (.lst (ps.map V.ref)))(b:Wb H0 ps ts)(hz:ts.length<=1000)(c:σ[i]?=ba (ba (.ref l)))(d:∀v,((wipe σ [m]).set m (ba v))[m]?=ba (ba v))(hw:∀v,wipe ((wipe σ [m]).set m (ba v)) [m]=wipe σ [m]):
  Pb H0 (tB (qh (KA K) (Kb (Jk (tE K (Ua i)) (Le m) so (me (spT g) [] E0 (Kb (Ua m) Xb)) [m]) Xb))) σ (ts.all g):=λH Q s q=>by
 have e:=b.len;refine{_,c,l,rfl,{_,Ia.of (s _ _ a)},λD f=>eo (Wg (ps.map V.ref)) (ts.map λu=>V.bl (g u)) (by rw[Na,Na,e]) (λh j=>Ia.of (j _ _ (s _ _ a))) f (by rw[Na];exact Jd (by omega)) hw (λk x y h n o r j t w=>?_) (λh j z=>?_)}
 .rw[Ac] at r o;cases A:ps[k]? with
  |none=>rw[A] at r;cases r
  |some p=>
   obtain⟨u,B,C⟩:=Wb.get b A;rw[A] at r;rw[B] at o;cases r;cases o;exact{_,d _,p,u,rfl,j _ _ (s _ _ C),w}
 .refine{D,ts.map g,rfl,Ia.of (by rw[yd];exact z),_,rfl,?_};rw[tm];exact q h (s.trans j)
theorem pY(G:GF K mg "move_files" Wy ["tree","a","b"])(T:ig K mg C)(T1:Cs mg)(h1:Aa P w K mg base 3 "is_path" (spT gb))(h2:Aa P w K mg base 2 "paths_at" (QA C))(h3:Aa P w K mg base 1 "files_without" (aw C))
  (h4:Aa P w K mg base 1 "is_within" (Sj Af)) (h5:Aa P w K mg base 3 "clashes_with_any" cB):Aa P w K mg base 4 "move_files" (Ho C Ek):=by
 refine G.go (N:=["tree","a","b","leaving","arriving","files","old","new","path"]) ?_;rintro f cdv A outer s H vs Q E nd hr X D ⟨tp,d,x,aa,a,ab,b,rfl,Tr,hx,ha,hb,hza,hzb,k⟩;have hu:=hr.units;have hu1:=ei hr;have bk:∀c,PF ["tree","a","b","leaving","arriving","files","old","new","path"] (Qc Wy) c [("path",8)]=da->Nr ["tree","a","b","leaving","arriving","files","old","new","path"] (Qc Wy) c [("path",8)]:=λ_ h=>Wf h;have hr1:Ad 1 _:=hr.mono (by decide);have hr2:Ad 2 _:=hr.mono (by decide);refine⟨_,Ga (Lb (PW.pt (vh (Yf (Nd (Ya h1 hr (la (pv 1) pa)))) (ij (Yf (Nd (Ya h1 hr (la (pv 2) pa))))))) (Ca (Oa (ic (la (Wa T.PATH) pa)))) Ob)
  (Ga (nc (i:=3) (Ya h2 hr2 (la (pv 0) (la (pv 1) pa))))
  (Ga (Lb (fc (UE hu) (pv 3) (ic pa) (Yb _)) (Ca (Oa (ic (la (Wa T.ABSENT) pa)))) Ob)
  (Ga (Lb (Nd (Ya h4 hr1 (la (pv 2) (la (pv 1) pa)))) (Ca (Oa (ic (la (Wa T.WITHIN) pa)))) Ob)
  (Ga (Qp (i:=4) (own:=[("path",8)]) rfl nd rfl rfl (Cq rfl rfl rfl (by decide+kernel)) (Ug (pv 3)) (bk _ (by decide+kernel)) (λ_ _ _ _ _=>Md (i:=8)) (λ_ _ _ _ _=>nj)
   (λ_ _ _ _ _=>Fc az (pv 2) (Oe Ff (pv 8) (Ud (Cc (eB (K:=K) rfl) (by rfl) T1.len Sd (la (pv 1) pa))) Gg)))
  (Ga (Lb (Yf (Nd (Cc (Lr rfl) (by rfl) T1.all (by rfl) (la (Yh (own:=[("path",8)]) rfl nd (Ug (pv 4)) (bk _ (by decide+kernel)) (λ_ _ _ _ _=>Md (i:=8)) (λ_ _ _ _ _=>nj) (λ_ _ _ _ _=>Ya h1 hr (la (pv 8) pa))) pa)))) (Ca (Oa (ic (la (Wa T.PATH) pa)))) Ob)
  (Ga (Qs (i:=5) nd rfl (Dn rfl) (Ya h3 hr1 (la (pv 0) (la (pv 3) pa))))
  (Ga (Lb (Nd (Cc (uA rfl) (by rfl) T.any (by rfl) (la (Yh (own:=[("path",8)]) rfl nd (Ug (pv 4)) (bk _ (by decide+kernel)) (λ_ _ _ _ _=>Md (i:=8)) (λ_ _ _ _ _=>nj) (λ_ _ _ _ _=>Ya h5 hr (la (pv 8) (la (pv 5) pa)))) pa))) (Ca (Oa (ic (la (Wa T.CLASH) pa)))) Ob)
  (Ga (Ji qi rfl (P6 (by rfl) T.zip (la (pv 3) (la (pv 4) pa))) (lF rfl (Dt (Md (i:=6)) (Dt (Md (i:=7)) mF)))
   (Ca (Cr hu1 (pv 5) (pv 7) (qk hu1 (vc (pv 0) rfl) (pv 6) (λ_ _=>rfl)) rfl)))
  (Ga (Rh (pv 0) (pv 5) rfl)
  (Ca (Oa (ic (la (Cc je (by rfl) T1.len Sd (la (pv 3) pa)) pa))))))))))))),?_⟩
 have j:∀(H1:Hp)(n:Int),ka H H1->Ek x a b=([n],x)->jo (Kb (tC (.int n)) Xb) [] H1 Q:=λH1 n s1 e=>by
  refine{Lc,λl hl=>k _ l d (ka.lz (s1.trans (Qa hl)) _ _) ?_ (.inl rfl) (s1.free hl) ?_}
  .rw[e];exact Tr.same (s1.trans (Qa hl))
  .rw[e,wa];rfl
 refine Zb ((Yj (g:=gb) 1 rfl ha).or λ_=>Yj (g:=gb) 2 rfl hb) (ka.refl H) λH1 s1=>cb (λhc1=>?_) (λhc1=>?_)
 .have e:gb a=ma\/gb b=ma:=by simpa using hc1
  exact j H1 (-1) s1 (by unfold Ek;rw[qa e])
 have e1:¬(gb a=ma\/gb b=ma):=by simpa using hc1
 refine{_,rfl,_,rfl,tp,d,x,aa,a,rfl,Tr.same s1,s1 _ _ ha,hza,hx.n,λH2 l ps s2 hl0 hl tx=>?_};have t:ka H H2:=s1.trans s2;have F:∀p∈(x.map (·.1)).filter (gf a),p.length<=100000/\∃dd,look x p=ba dd:=λp hp=>by
  obtain⟨f,hf,e⟩:=Mb.mp (Mc.mp hp).1;subst e;exact{hx.p f hf,_,Fj hx.nd hf}
 have hlvn:((x.map (·.1)).filter (gf a)).length<=1000:=Bc (xl _ _) (by rw[Na];exact hx.n);have I:∀J,J=(x.map (·.1)).filter (gf a)->Ek x a b=if gb a=ma\/gb b=ma then([-1],x) else if J=[] then([-5],x) else if Af b a=da then([-6],x) else if(J.map λp=>b++p.drop a.length).all gb=ma then([-1],x) else
   if((J.map λp=>b++p.drop a.length).any λq=>Xh q (without x J))=da then([-3],x) else([(J.length:Int)],fv x J (J.map λp=>b++p.drop a.length) (without x J)):=λJ e=>by subst e;rfl
 have I:=I _ rfl
 generalize(x.map (·.1)).filter (gf a)=J at tx F hlvn I
 rw[oa e1] at I;refine Zb (ME (K:=K) 3 rfl hl tx) (ka.refl H2) λH3 s3=>cb (λhc2=>?_) (λhc2=>?_)
 .exact j H3 (-5) (t.trans s3) (by rw[I,qa (Qe hc2)])
 rw[oa (λz=>hc2 (Xc z))] at I;refine Zb (qz (g:=Af) 2 1 rfl rfl (t _ _ hb) (t _ _ ha) hza) s3 λH4 s4=>cb (λhc3=>?_) (λhc3=>?_)
 .exact j H4 (-6) (t.trans s4) (by rw[I,qa hc3])
 rw[oa hc3] at I;have s14:ka H H4:=t.trans s4;have hl4:=s4 _ _ hl;have tx4:=tx.Xa (ka.Xa s4);have hpl:=tx.len;refine⟨_,rfl,l,rfl,{_,Ia.of hl4},λD hD=>Sm (Wg (ps.map V.ref)) Wj (J.map λp=>ba (b++p.drop a.length)) (by rw[Na,Na,hpl]) Bo (λL M=>Ia.of (M _ _ hl4)) hD (by rw[Na];exact Jd (by omega)) (λv=>rfl)
  (λi y o L hi ho hy M kn ky hkn hky=>?_) (λacc H5 s5 O hout=>?_)⟩
 .rw[Ac] at hy;cases hp:ps[i]? with
  |none=>rw[hp] at hy;cases hy
  |some p=>
   obtain⟨u,R,hpu⟩:=Wb.get tx4 hp;rw[hp] at hy;cases hy;rw[Ac,R] at ho;have ho:=Dd ho;have hul:=(F u (vd R)).1;refine wg (B:=kn L) {_,rfl,_,rfl,_,rfl,aa,_,rfl,.inr (Ba.of (M _ _ (s14 _ _ ha))),_,rfl,p,u,rfl,M _ _ hpu,λr H6 s6 hr6=>?_};have ec:cut u (ba ((txt a).length:Int)) ia=u.drop a.length:=by rw[gc];exact Km u a.length
   rw[ec] at hr6;exact{ab,r,b,_,rfl,rfl,s6 _ _ (M _ _ (s14 _ _ hb)),hr6,Xf (by rw[ue];omega),λr2 H7 s7 h7=>hky _ _ H7 ho.symm (s6.trans s7) ⟨r2,rfl,h7⟩}
 have efm:(J.map λp=>ba (b++p.drop a.length)).filterMap id=J.map λp=>b++p.drop a.length:=by
  rw[show(J.map λp=>ba (b++p.drop a.length))=(J.map λp=>b++p.drop a.length).map ba by rw[yd];rfl,Iw]
 rw[efm] at hout;obtain⟨qs,eqs,S⟩:=yn hout;rw[eqs] at O;have hz5:(J.map λp=>b++p.drop a.length).length<=1000:=by rw[Na];exact hlvn
 generalize ear:(J.map λp=>b++p.drop a.length)=ar at I S hz5
 have harl:ar.length=J.length:=by rw[<-ear,Na]
 refine Zb (Pb.not (L7 (K:=K) (g:=gb) 4 8 O S hz5 rfl (λ_=>rfl) (λ_=>rfl))) (ka.refl H5) λH6 s6=>cb (λhc4=>?_) (λhc4=>?_)
 .exact j H6 (-1) (s14.trans (s5.trans s6)) (by rw[I,qa (by simpa using hc4)])
 rw[oa (by simpa using hc4)] at I;have hall:∀q∈ar,gb q=da:=by
  have:ar.all gb=da:=by simpa using hc4
  exact Df.mp this
 have U:ka H4 H6:=s5.trans s6;have s16:ka H H6:=s14.trans U;refine{_,rfl,_,rfl,tp,d,x,l,ps,J,rfl,Tr.same s16,hx,U _ _ hl4,tx4.Xa (ka.Xa U),λH7 e s7 he De=>?_};have hsm:Small (without x J):=hx.filter _;have t8:Pb H7 (tB (qh (gx K) (Kb (Jk (tE K (Ua 4)) (Le 8) so (me cB [] E0 (Kb (Ua 8) (Kb (Ua 5) Xb))) [8]) Xb))) [ba (.ref tp),ba (.ref aa),ba (.ref ab),ba (.ref l),ba (.ref D),ba (.ref e),ia,ia,ia] (ar.any λq=>Xh q (without x J)):=λH8 Q8 W q8=>by
  have hq8:=W _ _ (s7 _ _ (s6 _ _ O));have tx8:=S.Xa (ka.Xa (s6.trans (s7.trans W)));have hql:=S.len;refine{_,rfl,D,rfl,{_,Ia.of hq8},λD2 hD2=>eo (Wg (qs.map V.ref)) (ar.map λu=>V.bl (Xh u (without x J))) (by rw[Na,Na,hql]) (λL M=>Ia.of (M _ _ hq8)) hD2 (by rw[Na];exact Jd (by omega)) (λ_=>rfl) (λk2 y2 z2 L hi hy hx2 M ky hky=>?_) (λL M h1=>?_)}
  .rw[Ac] at hx2 hy;cases hp:qs[k2]? with
   |none=>rw[hp] at hx2;cases hx2
   |some p=>
    obtain⟨u,R,hpu⟩:=Wb.get tx8 hp;rw[hp] at hx2;rw[R] at hy;cases hx2;cases hy;have:=mq (hall u (vd R));exact{_,rfl,_,rfl,p,u,e,_,rfl,M _ _ hpu,De.same (W.trans M),by omega,hsm,hky}
  .refine{D2,ar.map λu=>Xh u (without x J),rfl,Ia.of (by rw[yd];exact h1),_,rfl,?_};rw[Tx];exact q8 L (W.trans M)
 refine Zb t8 (ka.refl H7) λH8 W=>cb (λhc5=>?_) (λhc5=>?_)
 .exact j H8 (-3) (s16.trans (s7.trans W)) (by rw[I,qa hc5])
 rw[oa hc5] at I;have s18:ka H H8:=s16.trans (s7.trans W);have hl8:=W _ _ (s7 _ _ (U _ _ hl4));have hD8:=W _ _ (s7 _ _ (s6 _ _ O));have tl8:=tx4.Xa (ka.Xa (U.trans (s7.trans W)));have ta8:=S.Xa (ka.Xa (s6.trans (s7.trans W)));have hqn:=S.len;have Tr8:=Tr.same s18;have De8:=De.same W;have Y:H e=ia:=s16.free he;obtain⟨⟨dx,hp8⟩,kvs,hd8,en8⟩:=id Tr8;have hed:e≠d:=λz=>by rw[z,(Tr.W7.choose_spec.1)] at Y;cases Y
 have hetp:e≠tp:=λz=>by
  obtain⟨dx0,h0⟩:=Tr.ins;rw[z,h0] at Y;cases Y
 refine⟨_,rfl,_,rfl,l,D,_,_,rfl,Ia.of hl8,Ia.of hD8,j0 (K:=K) (xs:=ps.map V.ref) (ys:=qs.map V.ref) (by rw[Na,Na,hpl,hqn,harl])
  (λi σ L=>∃v6 v7,σ=[ba (.ref tp),ba (.ref aa),ba (.ref ab),ba (.ref l),ba (.ref D),ba (.ref e),v6,v7,ia]/\(∀b u,H8 b=ba u->b≠e->L b=ba u)/\DictAt L e (((J.zip ar).take i).foldl (λz on=>md z on.2 ((look x on.1).getD [])) (without x J)))
  {ia,ia,rfl,λ_ _ h _=>h,De8} (λi σ L _ ⟨_,_,_,Z,_⟩=>{Ia.of (Z _ _ hl8 (Vb hl8 De8.choose_spec.1)),Ia.of (Z _ _ hD8 (Vb hD8 De8.choose_spec.1))}) ?_ ?_⟩
 .rintro i xo xn σ L T0 hxo hxn ⟨v6,v7,rfl,Z,Di⟩ hT0;rw[Ac] at hxo hxn;cases hpo:ps[i]? with
  |none=>rw[hpo] at hxo;cases hxo
  |some po=>
  cases hpn:qs[i]? with
  |none=>rw[hpn] at hxn;cases hxn
  |some pn=>
  rw[hpo] at hxo;rw[hpn] at hxn;cases hxo;cases hxn;obtain⟨uo,huo,hpo8⟩:=Wb.get tl8 hpo;obtain⟨un,hun,hpn8⟩:=Wb.get ta8 hpn;obtain⟨dd,hdd⟩:=(F uo (vd huo)).2;have ntup:∀{b:Addr}{xs:List V},H8 b=ba (.tup xs)->b≠e:=λh=>Vb h De8.choose_spec.1;have sT:ka L (upd L T0 (.tup [.ref po,.ref pn])):=Qa hT0;rcases Mj (q:=uo) en8 with⟨hlk,_⟩ |⟨dd',b1,hlk,hv,hb1⟩
  .rw[hdd] at hlk;cases hlk
  rw[hdd] at hlk;cases hlk;obtain⟨kv2,he2,en2⟩:=Di.same sT;have hl2:kv2.length< sizeLine:=by
   have e2:kv2.length=_:=bf en2;rw[e2];refine Aw (Bc (RP x _ _) ?_);have h6:=hsm.n;have h7:((J.zip ar).take i).length<=J.length:=by rw[rd,tS];omega
   omega
  refine{_,rfl,tp,C,dx,ff d,.ref d,rfl,sT _ _ (Z _ _ hp8 (Gc hetp)),T.cl,T.nF,Me d,_,rfl,d,.ref b1,rfl,.inr {kvs,key uo,po,.inl (sT _ _ (Z _ _ hd8 (Gc hed))),rfl,by rw[Xe];exact sT _ _ (Z _ _ hpo8 (ntup hpo8)),hv.symm},?_};refine{_,rfl,_,rfl,e,_,rfl,ej.tt (k:=key un) he2 (by rw[Xe];exact sT _ _ (Z _ _ hpn8 (ntup hpn8))) hl2,?_};have t5:Fe (upd L T0 (.tup [.ref po,.ref pn])) (upd (upd L T0 (.tup [.ref po,.ref pn])) e (.dT (putK kv2 (key un) (.ref b1)))):=λb ys e5=>by
   rw[Ja (Vb e5 he2)];exact e5
  refine{ba (.ref po),ba (.ref pn),rfl,λb u hb hne=>?_,_,wa,?_}
  .rw[Ja hne];exact sT _ _ (Z b u hb hne)
  .have ez:(J.zip ar)[i]?=ba (uo,un):=by rw[aae];exact⟨huo,hun⟩
   rw[ni,ez,aaf];show Ih _ _ (md _ un ((look x uo).getD []));rw[hdd];exact qw (en2.Xa t5) (t5 _ _ (sT _ _ (Z _ _ hb1 (ntup hb1))))
 .rintro σ H9 ⟨v6,v7,rfl,Z,Di⟩;have etk:(J.zip ar).take (ps.map V.ref).length=J.zip ar:=rm (by rw[tS,Na,hpl];omega);rw[etk] at Di;have hp9:=Z _ _ hp8 (Gc hetp);have hl9:=Z _ _ hl8 (Vb hl8 De8.choose_spec.1);refine{_,rfl,_,rfl,tp,C,dx,_,rfl,hp9,T.cl,T.nF,(by show 1< 1000;decide),?_};have hltp:l≠tp:=Vb hl9 hp9;refine{_,rfl,l,_,rfl,.inl (Ia.of (by rw[Ja hltp];exact hl9)),Lc,λm hm=>?_};have t9:Fe H9 (upd H9 tp (.ins C dx (Bd "files" (.ref e) (ff d)))):=λb ys e5=>by
   rw[Ja (Vb e5 hp9)];exact e5
  have hmtp:m≠tp:=λz=>by rw[z,wa] at hm;cases hm
  have hmn:H9 m=ia:=by rw[Ja hmtp] at hm;exact hm
  refine k _ m e (λb u hb h6 h7=>?_) ?_ (.inr Y) ?_ ?_
  .exact Qa hm _ _ (by rw[Ja h6];exact Z _ _ (s18 _ _ hb) (λz=>by rw[z,Y] at hb;cases hb))
  .rw[I];refine uc.same {{dx,by rw[wa,ND]},Di.Xa t9 (by rw[Ja hetp])} (Qa hm)
  .cases hh:H m with
   |none=>rfl
   |some o=>
    have:=Z _ _ (s18 _ _ hh) (λz=>by rw[z,Y] at hh;cases hh);rw[hmn] at this;cases this
  .rw[I,wa,Na,hpl];rfl
structure Uk(K:xa)(mg:Str->Option Value):Prop where
 C4:bc mg "LINE_END" (.int 10)
 BUILD:∃r,bc mg "BUILD" (.ref r)/\∀H:Hp,Ba K H r (txt [66,85,73,76,68])
 PATH:bc mg "PATH" (.int (-1))
 PACKAGE:bc mg "PACKAGE" (.int (-7))
 max:mg "max"=ia
 sorted:mg "sorted"=ia
 list:mg "list"=ia
inductive bO(K:xa)(vs:List V)(H:Hp)(Q:VK):Prop|mk:∀a ps ts,vs=[.ref a]->Ia K H a (ps.map V.ref)->Wb H ps ts->ts.length<=1000->Es H ts Q->bO K vs H Q
def FQ:Prop:=∀X:Cx,X.calm=da->X.A.units+64< Wc->cg X (.builtin "sorted") (bO X.K)
def Hd(ts:List Text):Text:=ts.flatMap λt=>t++[10]
theorem xX(a:List Text)(t:Text):Hd (a++[t])=Hd a++t++[10]:=by
 unfold Hd;rw[Du,cf];simp
theorem IM{t:Text}(h:ts[i]?=ba t):Hd (ts.take (i+1))=Hd (ts.take i)++t++[10]:=by
 rw[ni,h];exact xX _ _
theorem A3(a:List Text)(i:Nat):(Hd (a.take i)).length<=(Hd a).length:=by
 conv=>rhs;rw[<-Ph i a]
 unfold Hd;rw[Du,wd];exact Zo _ _
inductive Vn(vs:List V)(H:Hp)(Q:VK)(X3:XK):Prop|mk:∀a ps ts,vs=[.ref a]->H a=ba (.lst (ps.map V.ref))->Wb H ps ts->(Hd ts).length<=1000000->(∀H' l,ka H H'->H l=ia->H' l=ba (.lst (txt (Hd ts)))->Q (.ref l) H')->Vn vs H Q X3
theorem C8(G:GF K mg "in_lines" ZO ["texts"])(T:Uk K mg):Aa P w K mg base 1 "in_lines" Vn:=by
 refine G.go (N:=["texts","numbers","text"]) ?_;rintro f b A c s H d Q E e g X D ⟨a,h,j,rfl,m,n,o,k⟩;refine⟨_,Ga (nc (i:=1) (ic pa))
  (Ga (Ji qi rfl (Ug (pv 0)) (Md (i:=2))
   (Ga (vi (di Ri MB uS FZ (pv 1) (la (pv 2) pa)))
    (Ca (vi (di Ri xm ym Nk (pv 1) (la (Wa T.C4) pa))))))
  (Ca (Oa (pv 1)))),?_⟩
 refine{Pd _,λl q=>?_};have r:ka H (upd H l (.lst [])):=Qa q;have u:=n.len;have y:∀i,(Hd (j.take i)).length<=1000000:=λi=>Bc (A3 j i) o;refine⟨_,rfl,a,rfl,{_,Ia.of (r _ _ m)},sk (Wg (K:=K) (a:=a) (h.map V.ref)) (λi z B=>∃v,z=[ba (.ref a),ba (.ref l),v]/\ka H B/\B l=ba (.lst (txt (Hd (j.take i)))))
  ⟨ia,rfl,r,wa⟩ (λi z B _ ⟨_,_,C,_⟩=>Ia.of (C _ _ m)) ?_ ?_⟩
 .rintro i x z F I J ⟨v,rfl,C,L⟩;rw[Ac] at J;cases M:h[i]? with
  |none=>rw[M] at J;cases J
  |some p=>
   obtain⟨t,O,R⟩:=Wb.get n M;rw[M] at J;cases J;have S:=y (i+1);rw[IM O] at S;simp only[wd,Oc,uj] at S;refine{_,rfl,.inl {rfl,_,Ia.of L},_,rfl,l,p,_,_,rfl,rfl,L,Ba.of (C _ _ R),Xf (by rw[gc,gc];omega),?_};have U:upd F l (.lst (txt (Hd (j.take i))++txt t)) l=ba (.lst (txt (Hd (j.take i)++t))):=by rw[wa,Dk]
   refine{_,rfl,.inl {rfl,_,Ia.of U},l,_,_,rfl,rfl,U,?_,?_}
   .rw[gc,wd];exact Qi (show _<=1000000 by omega) (by decide)
   .refine{ba (.ref p),rfl,Zg (Zg C q) q,?_};rw[wa,IM O,Dk (Hd (j.take i)++t) [10]];rfl
 .rintro z F ⟨v,rfl,C,L⟩;rw[Na,u,Cg] at L;exact{_,rfl,k F l C q L}
noncomputable def Fi:Text:=[66,85,73,76,68]
noncomputable def mj(u:Text):Text:=if u=[] then Fi else u++[47]++Fi
theorem sx(u:Text):mj u=Eg u Fi:=by
 unfold mj Eg gp;cases u with
 |nil=>rfl
 |cons x r=>simp
inductive UL(K:xa)(x:V)(y:V)(H:Hp)(Q:VK):Prop|mk:∀a b t u,x= .ref a->y= .ref b->H a=ba (.tup (txt t))->t≠[]->Ba K H b (txt u)->t.length+u.length<=sizeLine->(∀p H',ka H H'->H' p=ba (.tup (txt (t++u)))->Q (.ref p) H')->UL K x y H Q
theorem k4:zd X (rj .Add) (UL X.K):=by
 intro c s d H x y v u Q I f g h;obtain⟨a,b,t,w,rfl,rfl,i,j,k,l,q⟩:=h;refine Ry c s d H _ _ v u Q I f g {a,b,txt t,txt w,rfl,rfl,Ba.of i,k,by rw[gc,gc];exact l,λe=>absurd (Ak (a:=t) (b:=[]) e) j,λe=>?_,λ_ _ p m=>?_}
 .have:w=[]:=Ak e;subst this;exact q a H (ka.refl H) (by rw[sj];exact i)
 .exact q p _ (Qa m) (by rw[wa,Dk])
inductive Hs(K:xa)(vs:List V)(H:Hp)(Q:VK)(X3:XK):Prop|mk:∀a b u n,vs=[.ref a,.ref b]->H a=ba (.tup (txt u))->Ba K H b (txt n)->u.length<=100000->n.length<=100000->(∀H' p,ka H H'->Ba K H' p (txt (Eg u n))->(H b=ba (.tup (txt n))->H' p=ba (.tup (txt (Eg u n))))->Q (.ref p) H')->Hs K vs H Q X3
theorem F0(G:GF K mg "path_in_directory" DI ["directory","name"])(c:Cs mg):Aa P w K mg base 1 "path_in_directory" (Hs K):=by
 refine G.go (N:=["directory","name"]) ?_;rintro f d A g s H h Q E i j X D ⟨a,b,u,n,rfl,l,m,o,p,k⟩;have t:=j.units;refine{_,Ga (Lb (fc (Ei t) (pv 0) (Mf pa) (Yb _)) (Ca (Oa (pv 1))) Ob) (Ca (Oa (Fc k4 (Fc az (pv 0) (Mf (la (Wa c.SLASH) pa))) (pv 1)))),?_};refine Zb (Ww (K:=K) [] rfl l (λ_ _ q=>q)) (ka.refl H) λv y=>cb (λB=>?_) (λB=>?_)
 .have e:u=[]:=Qe B;subst e;exact{_,rfl,k v b y (Rn y m) λz=>y _ _ z}
 .have e:¬u=[]:=λz=>B (Xc z);have C:Eg u n=u++[47]++n:=by
   unfold Eg gp;cases u with
   |nil=>exact absurd rfl e
   |cons x r=>simp
  refine{_,rfl,Lc,λq F=>{a,q,u,[47],rfl,rfl,Qa F _ _ (y _ _ l),wa,Xf (by simp;omega),λI J L M=>?_}};have O:ka H J:=y.trans ((Qa F).trans L);refine{_,rfl,I,b,_,n,rfl,rfl,M,by simp,Rn O m,Xf (by simp;omega),λR S T U=>?_};rw[<-C] at U;exact k S R (O.trans T) (Ba.of U) λ_=>U
noncomputable def Jh(p:Text):Text:=p.take (p.length - 6)
def Wt(p:Text):Bool:=decide (p=mj (Jh p))
noncomputable def Nc(x:List Ent):List Text:=(x.filter λf=>Wt f.1).map λf=>Jh f.1
inductive Ko(C:Addr)(vs:List V)(H:Hp)(Q:VK)(X3:XK):Prop|mk:∀tp d x,vs=[.ref tp]->uc C H tp d x->Small x->(∀H' l qs ts,ka H H'->H l=ia->H' l=ba (.lst (qs.map V.ref))->Wb H' qs ts->ts.Perm (Nc x)->(ts.Pairwise λa b=>Si b a=ma)->Q (.ref l) H')->Ko C vs H Q X3
theorem yQ{f:Ent}(h:x[i]?=ba f):Nc (x.take (i+1))=if Wt f.1=da then Nc (x.take i)++[Jh f.1] else Nc (x.take i):=by
 unfold Nc;rw[ni,h,aac,vf];cases a:Wt f.1 with
 |true=>simp[jk,a]
 |false=>simp[jk,a]
theorem DW(SO:FQ)(G:GF K mg "packages_of" YM ["tree"])(T:ig K mg C)(T1:Cs mg)(T2:Uk K mg)(h1:Aa P w K mg base 1 "path_in_directory" (Hs K)):Aa P w K mg base 2 "packages_of" (Ko C):=by
 obtain⟨r,a,e⟩:=T2.BUILD;refine G.go (N:=["tree","packages","path","package"]) ?_;rintro f cdv A outer s H vs Q E nd hr X D ⟨tp,d,x,rfl,Tr,hx,k⟩;have hu:=hr.units;refine⟨_,Ga (nc (i:=1) (ic pa))
  (Ga (mw (Ji qi rfl (Um (vc (pv 0) rfl)) (Md (i:=2))
   (Ga (nc (i:=3) (Oe Ff (pv 2) Gg (Ud (Cc (oZ rfl) (by rfl) T2.max (by rfl) (la Sb (la (Fc vE (Fc vE (Cc je (by rfl) T1.len Sd (la (pv 2) pa)) (Cc je (by rfl) T1.len Sd (la (Wa a) pa))) Sb) pa))))))
   (Ca (Lb (fc (Ei hu) (pv 2) (Ya h1 hr (la (pv 3) (la (Wa a) pa))) (Yb _)) (Ca (vi (di Ri xm ym Nk (pv 1) (la (pv 3) pa)))) Ob)))))
  (Ca (Oa (Cc (SO _ rfl hu) (by rfl) T2.sorted (by rfl) (la (pv 1) pa))))),?_⟩
 refine{Pd _,λl g=>?_};obtain⟨⟨dx,hp⟩,j,hd,en⟩:=Tr;have s0:ka H (upd H l (.lst [])):=Qa g;have hpd:tp≠d:=Vb hp hd;have m:l≠d:=λz=>by rw[z,hd] at g;cases g
 have n:j.length=x.length:=bf en;refine{d,.dT j,s0 _ _ hd,trivial,λod=>?_};refine{_,rfl,tp,C,dx,ff d,.ref d,rfl,by rw[Ja hpd];exact s0 _ _ hp,T.cl,T.nF,Me d,d,od,rfl,.inr {j,wa,?_}};refine sk (qx j) (λi σ t=>∃v2 v3 B,σ=[ba (.ref tp),ba (.ref l),v2,v3]/\Lk H t d j/\t l=ba (.lst (B.map V.ref))/\Wb t B (Nc (x.take i))/\t d=ba (.qc od (.dT j)))
  {ia,ia,[],rfl,{λb u hb h=>by rw[Ja hb];exact s0 _ _ h,od,wa},by rw[Ja m];exact wa,.nil,wa} (λi σ t _ ⟨_,_,_,_,_,_,_,h⟩=>h) ?_ ?_
 .rintro i y σ t hi ⟨kk,v,q,hkv,rfl,hq⟩ ⟨v2,v3,B,rfl,L,F,I,J⟩;obtain⟨f,hf,ek,_⟩:=Pr en hkv;rw[ek,Xe] at hq;have hfl:=hx.p f (vd hf);have M:(Nc (x.take i)).length<=i:=by
   unfold Nc;rw[Na];exact Bc (xl _ _) (by rw[rd];exact X_ _ _)
  have hpl:=I.len;have hn:=hx.n;refine{_,rfl,_,rfl,q,_,rfl,.inr (Ba.of hq),r,_,rfl,.inr (e t),_,_,rfl,rfl,_,_,rfl,rfl,_,_,rfl,_,rfl,q,f.1,rfl,hq,λp1 H1 s1 O=>?_};have R:cut f.1 ia (ba (if(((txt f.1).length:Int) - ((txt [66,85,73,76,68]).length:Int) - 1)>0 then(((txt f.1).length:Int) - ((txt [66,85,73,76,68]).length:Int) - 1) else 0))=Jh f.1:=by
   rw[gc,gc];unfold Jh;rw[<-Nt]
   congr 2
   show(if((f.1.length:Int) - (5:Nat) - 1)>0 then((f.1.length:Int) - (5:Nat) - 1) else 0)=((f.1.length - 6:Nat):Int);split<;>omega
  rw[R] at O;have S:(Jh f.1).length<=100000:=by unfold Jh;rw[rd];omega
  show Jm (Ed (Vc (Vm K) (Ua 2) (me (Hs K) [] E0 (Kb (Ua 3) (Kb (tC (.ref r)) Xb))))) _ _ _ _ H1;refine Fz (c:=Wt f.1) (H0:=H1) (λH3 Q3 U q3=>{_,rfl,_,rfl,p1,r,_,Fi,rfl,U _ _ O,e H3,S,by decide,λH4 p4 s4 h4 _=>{q,p4,f.1,_,rfl,rfl,Ba.of (s4 _ _ (U _ _ (s1 _ _ hq))),by rw[<-sx] at h4;exact h4,_,rfl,q3 H4 (U.trans s4)}}) (ka.refl H1) λH3 U=>cb (λhc=>?_) (λhc=>?_)
  .have W:=s1.trans U;refine{_,rfl,.inl {rfl,_,Ia.of (W _ _ F)},_,rfl,l,_,_,rfl,rfl,W _ _ F,by rw[Na];exact Jd (by omega),?_};have L3:=L.same W;refine{ba (.ref q),ba (.ref p1),B++[p1],rfl,{λb u hb h=>?_,od,?_},?_,?_,?_}
   .rw[Ja (λz=>by rw[z,g] at h;cases h)];exact L3.ne b u hb h
   .rw[Ja (Gc m)];exact W _ _ J
   .rw[wa,vf];rfl
   .rw[yQ hf,qa hc];exact((I.Xa (ka.Xa W)).snoc (U _ _ O)).Xa (Wl (W _ _ F))
   .rw[Ja (Gc m)];exact W _ _ J
  .have W:=s1.trans U;refine{ba (.ref q),ba (.ref p1),B,rfl,L.same W,W _ _ F,?_,W _ _ J};rw[yQ hf,oa hc];exact I.Xa (ka.Xa W)
 .rintro σ t ⟨v2,v3,B,rfl,L,F,I,J⟩;rw[n,Cg] at I;refine{J,?_};have tU:=gv (o:= .dT j) J;have M:(Nc x).length<=1000:=by
   unfold Nc;rw[Na];exact Bc (xl _ _) hx.n
  refine{_,rfl,l,B,_,rfl,Ia.of (by rw[Ja m];exact F),I.Xa tU,M,λqs ts' p Y hpw tq Z=>?_};have sU:=FE L hd;exact k _ p qs ts' (sU.trans (Qa Z)) (sU.free Z) wa (tq.Xa (ka.Xa (Qa Z))) Y hpw
structure QN(J:It)(n:Nat)(G:Hp->Prop)(R:Nat->V->Hp->Prop):Prop where
 go:∀i H,i< n->G H->J.go i H
 yl:∀i H x H',i< n->G H->J.Gj i H x H'->ka H H'/\R i x H'
 st:∀H,G H->J.stop n H
theorem fU(xs ys:List V):QN (Qy K a b) (min xs.length ys.length) (λH=>Ba K H a xs/\Ba K H b ys) (λi v H=>∃T x y,v= .ref T/\xs[i]?=ba x/\ys[i]?=ba y/\H T=ba (.tup [x,y])) where
 go:=λi H c h=>{xs,ys,xs[i],ys[i],h.1,h.2,Wd (by omega),Wd (by omega)}
 yl:=λi H v d c h y=>by
  obtain⟨T,x,z,rfl,e,rfl,f,g⟩:=y;exact{Qa e,T,x,z,rfl,f xs h.1,g ys h.2,wa}
 st:=λH h=>{xs,ys,h.1,h.2,by omega}
theorem TY{J:It}{n:Nat}{G:Hp->Prop}{R:Nat->V->Hp->Prop}(F:QN J n G R){a:TE}{j:Nat}{D:Addr}{c:Hp->Prop}(out:List V)(d:out.length=n)
  (f:∀H',ka H H'->G H') (g:H D=ia) (hz:n< sizeLine) (hw:∀v,wipe ((wipe σ [j]).set j (ba v)) [j]=wipe σ [j])
  (h:∀i x y H',i< n->out[i]?=ba y->R i x H'->ka H H'->∀(k:VK),(∀l,ka H' l->k y l)->a ((wipe σ [j]).set j (ba x)) H' k)
  (hd:∀H',ka H H'->H' D=ba (.lst out)->c H'):
  ∃W:Nat->Nat->Hp->Prop,(∃m,W 0 m (upd H D (.lst [])))/\∀i m H,W i m H->
   (J.stop i H/\c H)\/(J.go i H/\∃o:Hp->Prop,(∀H',o H'->∃p,p< m/\W (i+1) p H')/\∀x H',J.Gj i H x H'->Le j x (wipe σ [j]) H' λs H2=>wipe s [j]=wipe σ [j]/\so s H2 λb t=>
    if b=da then a s t λy l=>∃acc,l D=ba (.lst acc)/\acc.length< sizeLine/\o (upd l D (.lst (acc++[y]))) else o t):=by
 let u:Nat->Hp->Prop:=λi H'=>ka H H'/\H' D=ba (.lst (out.take i))
 refine{λi m H'=>m=n - i/\i<=n/\u i H',{n,by simp,Pd _,Qa g,by rw[wa];simp},?_};rintro i m w ⟨rfl,z,A,B⟩;have q:=f w A;by_cases C:i< n
 .refine .inr {F.go i w C q,u (i+1),λH' E=>{n - (i+1),by omega,rfl,C,E},λx H' y=>?_};obtain⟨I,r⟩:=F.yl i w x H' C q y;have K:out[i]?=ba out[i]:=Wd (by omega);refine{hw x,?_};show if da=da then a ((wipe σ [j]).set j (ba x)) H' (λy l=>∃acc,l D=ba (.lst acc)/\acc.length< sizeLine/\u (i+1) (upd l D (.lst (acc++[y])))) else u (i+1) H'
  refine wg (h i x _ H' C K r (A.trans I) _ λl L=>?_);have M:=L _ _ (I _ _ B);refine{_,M,by rw[rd];omega,Zg (A.trans (I.trans L)) g,?_};rw[wa,ni,K];rfl
 .have e:i=n:=by omega
  subst e;rw[<-d,Cg] at B;exact .inl {F.st w q,hd w A B}
structure rq(K:xa)(mg:Str->Option Value):Prop where
 STAR:bc mg "STAR" (.int 42)
 hG:∃r,bc mg "TWO_STARS" (.ref r)/\∀H:Hp,Ba K H r (jd [42,42])
 N8:bc mg "MOST_STARS" (.int 4)
 hU:bc mg "MOST_TWO_STARS" (.int 2)
 PATTERN:bc mg "PATTERN" (.int (-10))
 PATH:bc mg "PATH" (.int (-1))
 zip:mg "zip"=ia
 any:mg "any"=ia
 range:mg "range"=ia
 list:mg "list"=ia
noncomputable def Lf(c:Int):Bool:=(decide (97<=c)&&decide (c<=122))||((decide (65<=c)&&decide (c<=90))||(decide (48<=c)&&decide (c<=57)))||(c==45||c==46||c==95)
inductive Oz(vs:List V)(H:Hp)(Q:VK)(X3:XK):Prop|mk:∀c:Int,vs=[.int c]->(∀H',ka H H'->Q (.bl (Lf c)) H')->Oz vs H Q X3
theorem S4(G:GF K mg "may_stand_in_part" cD ["byte"])(T:Cs mg):Aa P w K mg base 1 "may_stand_in_part" Oz:=by
 refine G.go (N:=["byte"]) ?_;rintro f b A d s H g Q E h i X D ⟨c,rfl,k⟩
 .refine⟨_,Ga (Lb (PW.pt (vh (Ws Sh Sh Sb (pv 0) Sb) (vh (Ws Sh Sh Sb (pv 0) Sb) (ij (Ws Sh Sh Sb (pv 0) Sb))))) (Ca (Oa xi)) Ob)
   (Ca (Oa (oh Zl (pv 0) (Mf (la (Wa T.AL) (la (Wa T.Dv) (la (Wa T.CL) pa)))) (by with_unfolding_all rfl)))),?_⟩
  refine((Ts rfl).or λ_=>(Ts rfl).or λ_=>Ts rfl) H _ (ka.refl H) λj l=>?_;refine cb (λm=>?_) (λm=>?_)
  .have e:Lf c=da:=by unfold Lf;rw[m];rfl
   show Q (.bl da) j;rw[<-e];exact k j l
  .refine{_,rfl,(by show 3<=sizeLine;decide),λp n=>{p,_,rfl,.inr (Ba.of wa),rfl,rfl,?_}};have e:gh (.int c) [.int 45,.int 46,.int 95]=Lf c:=by
    unfold Lf;rw[show((decide (97<=c)&&decide (c<=122))||((decide (65<=c)&&decide (c<=90))||(decide (48<=c)&&decide (c<=57))))=ma from J'.mpr m,ll];show(((45:Int)==c)||(((46:Int)==c)||(((95:Int)==c)||ma)))=_;rw[su,vS (a:=(45:Int)),vS (a:=(46:Int)),vS (a:=(95:Int)),Bool.or_assoc]
   show Q (.bl (gh (.int c) [.int 45,.int 46,.int 95])) _;rw[e];exact k _ (l.trans (Qa n))
inductive Wm(g:Ka->Bool)(vs:List V)(H:Hp)(Q:VK)(X3:XK):Prop|mk:∀a t,vs=[.ref a]->H a=ba (.tup (jd t))->t.length<=100000->(∀H',ka H H'->Q (.bl (g t)) H')->Wm g vs H Q X3
theorem abw{g:Ka->Bool}{vs:List V}{Q:VK}{E:XK}(h:Wm g vs H Q E):vs.length=1:=by
 obtain⟨a,t,rfl,_⟩:=h;rfl
noncomputable def jg(t:Ka):Bool:=if t=[42,42] then da else if t.length< 1\/32< t.length\/4< t.count 42 then ma else if((t.zip (t.drop 1)).any λp=>decide ([p.1,p.2]=[42,42]))=da then ma else t.all λc=>c==42||Lf c
noncomputable def Ae(t:Ka):Bool:=if 96< t.length then ma else if 8< (Zc 47 t).length\/2< (Zc 47 t).count [42,42] then ma else(Zc 47 t).all jg
theorem cJ{H0:Hp}{r:Addr}{t u:Ka}(b:σ[i]?=ba (ba (.ref a)))(c:H0 a=ba (.tup (jd t)))(d:∀H:Hp,Ba K H r (jd u)):
  Pb H0 (Ed (Vc (Zu K) (Ua i) (tC (.ref r)))) σ (decide (t=u)):=λH Q s q=>{_,b,a,r,t,u,rfl,rfl,Ba.of (s _ _ c),d H,_,rfl,q H s}
theorem EF{H0:Hp}{g:Int->Int->Bool}{t:Ka}{n:Int}(b:σ[i]?=ba (ba (.ref a)))(c:H0 a=ba (.tup (jd t))):
  Pb H0 (Ed (Vc (pf λi j=> .bl (g i j)) (qh (λxs H Q=>∃p ys,xs=[V.ref p]/\(Ia K H p ys\/Ba K H p ys)/\Q (.int ys.length) H) (Kb (Ua i) Xb)) (tC (.int n)))) σ (g (t.length:Int) n):=λH Q s q=>by
 refine{_,b,a,_,rfl,.inr (Ba.of (s _ _ c)),_,_,rfl,rfl,_,rfl,?_};rw[Pj];exact q H s
theorem M3(G:GF K mg "is_pattern_part" jA ["text"])(T:Cs mg)(b:rq K mg)(h1:Aa P w K mg base 1 "may_stand_in_part" Oz):Aa P w K mg base 2 "is_pattern_part" (Wm jg):=by
 obtain⟨r,g,h⟩:=b.hG;refine G.go (N:=["text","pair","byte"]) ?_;rintro f cdv A l s H vs Q E nd hr X D ⟨a,t,rfl,m,hzt,k⟩;have hu:=hr.units;refine⟨_,Ga (Lb (fc (CC (K:=K) rfl hu) (pv 0) (Wa g) (Yb _)) (Ca (Oa xi)) Ob)
  (Ga (Lb (PW.pt (vh (fc Hr (Cc je (by rfl) T.len Sd (la (pv 0) pa)) Sb (Yb _)) (vh (fc Rl (Cc je (by rfl) T.len Sd (la (pv 0) pa)) (Wa T.HQ) (Yb _))
   (ij (fc Rl (oz uH B' PySem.F.type_tuple_count tW (pv 0) (la (Wa b.STAR) pa)) (Wa b.N8) (Yb _)))))) (Ca (Oa xi)) Ob)
  (Ga (Lb (Nd (Cc (uA rfl) (by rfl) b.any (by rfl) (la (Yh (own:=[("pair",1)]) rfl nd (qY (by rfl) b.zip (la (pv 0) (la (Oe Tz (pv 0) (Ud Sb) Gg) pa)))
    (Wf (N:=["text","pair","byte"]) (sc:=Qc jA) (by decide+kernel)) (λ_ _ _ _ _=>Md (i:=1)) (λ_ _ _ _ _=>nj)
    (λ_ _ _ _ _=>oh (CC (K:=K) rfl hu) (pv 1) (Wa g) (Yb _))) pa))) (Ca (Oa xi)) Ob)
  (Ca (Oa (Cc (Lr rfl) (by rfl) T.all (by rfl) (la (Yh (own:=[("byte",2)]) rfl nd (Yw (pv 0)) (Wf (N:=["text","pair","byte"]) (sc:=Qc jA) (by decide+kernel)) (λ_ _ _ _ _=>Md (i:=2)) (λ_ _ _ _ _=>nj)
   (λ_ _ _ _ _=>fq (oh Zf (pv 2) (Wa b.STAR) (Yb _)) (Lm (Ya h1 hr (la (pv 2) pa))))) pa)))))),?_⟩
 refine Zb (cJ (u:=[42,42]) rfl m h) (ka.refl H) λH1 s1=>cb (λn=>?_) (λn=>?_)
 .have e:jg t=da:=by unfold jg;rw[qa (Qe n)]
  show Q (.bl da) H1;rw[<-e];exact k H1 s1
 have o:¬t=[42,42]:=λz=>n (Xc z);have tc:Pb H (Ed (Vc (pf λi j=> .bl (decide (i>j))) (cN WC (Ua 0) (Kb (tC (.int 42)) Xb)) (tC (.int 4)))) [ba (.ref a),ia,ia] (decide (((t.count 42:Nat):Int)>4)):=λH Q s q=>
  {_,rfl,{a,_,rfl,s _ _ m},a,t,42,rfl,rfl,s _ _ m,_,_,rfl,rfl,_,rfl,q H s}
 refine Zb ((EF (K:=K) rfl m).or λ_=>(EF (K:=K) rfl m).or λ_=>tc) s1 λH2 s2=>cb (λB=>?_) (λB=>?_)
 .have e:jg t=ma:=by unfold jg;rw[oa o,qa (by simp at B;omega)]
  show Q (.bl ma) H2;rw[<-e];exact k H2 s2
 have e2:¬(t.length< 1\/32< t.length\/4< t.count 42):=by simp at B;omega
 have hz:t.length<=32:=by omega
 have t3:Pb H (tB (qh (gx K) (Kb (Jk (uL K (Kb (Ua 0) (Kb (Ft aG (Ua 0) (Xt (tC (.int 1))) Ys) Xb))) (Le 1) so (Vc (Zu K) (Ua 1) (tC (.ref r))) [1]) Xb))) [ba (.ref a),ia,ia] ((t.zip (t.drop 1)).any λp=>decide ([p.1,p.2]=[42,42])):=λC Q3 F q3=>by
  have I:=F _ _ m;refine{_,rfl,_,rfl,_,rfl,a,t,rfl,I,λp J s4 hp=>?_};have e4:Gi t (ba 1) ia=t.drop 1:=XI t 1;rw[e4] at hp;have L:=s4 _ _ I;refine⟨a,p,_,_,rfl,Ba.of L,Ba.of hp,λD hD=>TY (fU (jd t) (jd (t.drop 1))) ((t.zip (t.drop 1)).map λp=>V.bl (decide ([p.1,p.2]=[42,42]))) (by rw[Na,tS,Pj,Pj]) (λM O=>{Ba.of (O _ _ L),Ba.of (O _ _ hp)}) hD
   (by rw[Pj,Pj];exact Jd (by omega)) (λv=>rfl) (λi x y M hi R S O ky U=>?_) (λM O hl=>?_)⟩
  .obtain⟨T0,x0,y0,rfl,W,Y,hT0⟩:=S;rw[Vy] at W Y;obtain⟨c,hc,rfl⟩:=Ie.mp W;obtain⟨d,hd,rfl⟩:=Ie.mp Y;rw[Ac,aae (z:=(c,d)) |>.mpr ⟨hc,hd⟩] at R;cases R;exact{_,rfl,T0,r,[c,d],[42,42],rfl,rfl,Ba.of hT0,h M,U M (ka.refl M)}
  .refine{D,(t.zip (t.drop 1)).map (λp=>decide ([p.1,p.2]=[42,42])),rfl,Ia.of (by rw[yd];exact hl),_,rfl,?_};rw[Tx];exact q3 M (F.trans (s4.trans O))
 refine Zb t3 s2 λC F=>cb (λZ=>?_) (λZ=>?_)
 .have e:jg t=ma:=by unfold jg;rw[oa o,oa e2,qa Z]
  show Q (.bl ma) C;rw[<-e];exact k C F
 have e:jg t=t.all λc=>c==42||Lf c:=by unfold jg;rw[oa o,oa e2,oa Z]
 refine⟨_,rfl,a,rfl,{_,Ba.of (F _ _ m)},λD hD=>eo (bx (jd t)) (t.map λc=>V.bl (c==42||Lf c)) (by rw[Na,Pj]) (λM O=>Ba.of (O _ _ (F _ _ m))) hD
  (by rw[Pj];exact Jd (by omega)) (λv=>rfl) (λi x y M hi R S O ky U=>?_) (λM O hl=>?_)⟩
 .rw[Vy] at S;rw[Ac] at R;cases ht:t[i]? with
  |none=>rw[ht] at S;cases S
  |some c=>
   rw[ht] at S R;cases S;cases R
   replace U:∀J,ka M J->ky (V.bl (c==42||Lf c)) J:=U
   refine{_,rfl,rfl,_,rfl,cb (λhd=>?_) (λhd=>?_)}
   .have e5:(c==42||Lf c)=da:=by
     have q:=Qe hd;injection q with q;rw[q];rfl
    rw[e5] at U;exact U M (ka.refl M)
   .have e5:(c==42||Lf c)=Lf c:=by
     have q:¬c=42:=λz=>hd (Xc (by rw[z]));rw[lp q,ll]
    rw[e5] at U;exact{_,rfl,c,rfl,U}
 .refine{D,t.map (λc=>c==42||Lf c),rfl,Ia.of (by rw[yd];exact hl),?_};rw[tm];show Q (.bl (t.all λc=>c==42||Lf c)) M;rw[<-e];exact k M (F.trans O)
inductive EI(vs:List V)(H:Hp)(Q:VK):Prop|mk:∀i j:Int,vs=[.int i,.int j]->(∀p,H p=ia->Q (.ref p) (upd H p (.oo i j)))->EI vs H Q
theorem x2:cg X (.type "range") EI:=by
 intro a s c H d f Q I r h;obtain⟨i,j,rfl,q⟩:=h;cases r with
 |cons g k=>
  cases k with
  |cons l k=>
   cases k;obtain⟨t,rfl⟩:=g;obtain⟨u,rfl⟩:=l;refine call_range_2 {.ref s.heap.objs.size,_,I.laid (t':=s.toks+1) (o:= .oo i j) (λb o e=>Qb _ e) (rb _) {t,u,s.toks,Uc _ rfl},rfl,q _ (I.vb.fresh (rb _))}
inductive ZJ(vs:List V)(H:Hp)(Q:VK):Prop|mk:∀(p:Addr)(a n:Nat),vs=[.ref p]->H p=ba (.oo (a:Int) ((a+n:Nat):Int))->a+n<=1000000->(∀l,H l=ia->Q (.ref l) (upd H l (.lst (txt (cp a n)))))->ZJ vs H Q
theorem zY(a n:Nat){acc:Array Value}(h:WB (λi v=>∃t,v=Yk ((a:Int)+(i:Nat)*1) t) acc n):yb (txt (cp a n)) acc.toList:=by
 obtain⟨c,d⟩:=h;have key:∀(k:Nat)(l:List Value)(b:Nat),l.length=k->(∀i v,l[i]?=ba v->∃t,v=Yk ((b:Int)+(i:Nat)*1) t)->yb (txt (cp b k)) l:=by
  intro k
  induction k with
  |zero=>
   intro l b f _;cases l with
   |nil=>exact .nil
   |cons _ _=>simp at f
  |succ k g=>
   intro l b f j;cases l with
   |nil=>simp at f
   |cons x l=>
    rw[hH,vo];refine .cons ?_ (g l (b+1) (by simpa using f) λi v m=>?_)
    .obtain⟨t,rfl⟩:=j 0 x rfl;exact{t,by simp}
    .obtain⟨t,e⟩:=j (i+1) v (by simpa using m);exact{t,by rw[e];congr 1;omega}
 exact key n acc.toList a (by simpa using c) λi v h=>d i v (by rw[<-Tf];exact h)
theorem BY(b:X.calm=da):cg X (.type "list") ZJ:=by
 intro c s d H e f Q I r h;obtain⟨p,a,n,rfl,g,i,q⟩:=h;rw[yb.Ml r];obtain⟨t,u,v,j⟩:=(show Cd X.prog X.w H s.heap p (.oo (a:Int) ((a+n:Nat):Int)) from I.vb p _ g);refine call_list_range (n:=n) (I.ok.hd b) (show IsRange s.heap p _ _ 1 t u v from j) (small_one (by omega) (by omega) (by omega) (by omega)) ?_ (by omega) λk l m w x y z=>?_
 .rw[rangeSize_one];split<;>omega
 .refine{.ref s.heap.objs.size,_,I.laid (t':=l) (o:= .lst (txt (cp a n))) x (rb _) {?_,m.toList,w,zY a n z,?_},rfl,q _ (I.vb.fresh (rb _))}
  .rw[gc,aag];exact Xf (by omega)
  .rw[Array.toArray_toList];exact y
inductive HL(K:xa)(x:V)(y:V)(H:Hp)(Q:VK):Prop|mk:∀l m ns,x= .ref l->y= .ref m->Ia K H l (txt ns)->Ia K H m []->Q (.bl (decide (ns=[]))) H->HL K x y H Q
theorem qQ(t:Text):Oi (.list (dat t))=da:=by
 unfold Oi;have a:=uz t;rw[Kc];constructor
 .simp only[wm,lx]
 .simp only[ip];exact Xc (by omega:Dg (dat t)+1<=_)
theorem o7(a:X.A.units+64< Wc):zd X (ee .Eq) (HL X.K):=by
 intro b s c H x y v u Q I d e h;obtain⟨l,m,f,rfl,rfl,g,i,q⟩:=h;refine Wv a b s c H _ _ v u Q I d e {_,_,.lst g (Pk f),.lst i (Pk []),qQ f,qQ [],?_};simp only[og,Fv];exact q
noncomputable def kj(l:List Nat)(e:Nat):List Nat:=match l with
 |[]=>[]
 |x::_=>cp x (e+1 - x)
inductive ow(vs:List V)(H:Hp)(Q:VK)(X3:XK):Prop|mk:∀l ns e,vs=[.ref l,.int ((e:Nat):Int)]->H l=ba (.lst (txt ns))->ns.length<=1000->(∀x∈ns,x<=e)->e<=1000->(∀H' m,ka H H'->H' m=ba (.lst (txt (kj ns e)))->Q (.ref m) H')->ow vs H Q X3
theorem T6(G:GF K mg "places_behind_star" gJ ["reached","end"])(a:rq K mg):Aa P w K mg base 1 "places_behind_star" ow:=by
 refine G.go (N:=["reached","end"]) ?_;rintro f b A c s H d Q E g h X D ⟨l,i,e,rfl,j,n,o,t,k⟩;have u:=h.units;refine⟨_,Ga (Lb (fc (o7 u) (pv 0) (ic pa) (Yb _)) (Ca (Oa (ic pa))) Ob)
  (Ca (Oa (Ij (BY rfl) (by rfl) a.list (by rfl) (la (Ij x2 (by rfl) a.range (by rfl) (la (Yl lq (pv 0) Sb (λ_ _=>rfl)) (la (Fc We (pv 1) Sb) pa))) pa)))),?_⟩
 refine{_,rfl,Pd _,λm v=>{l,m,i,rfl,rfl,Ia.of (Qa v _ _ j),Ia.of wa,_,rfl,cb (λy=>?_) (λy=>?_)}}
 .have z:i=[]:=Qe y;refine{Pd _,λq B=>k _ q ((Qa v).trans (Qa B)) ?_};rw[wa,z];rfl
 .obtain⟨x,r,rfl⟩:∃x r,i=x::r:=by
   cases i with
   |nil=>exact absurd (Xc rfl) y
   |cons x r=>exact⟨x,r,rfl⟩
  have C:=o x (by simp);refine{_,rfl,l,_,_,_,rfl,rfl,Ia.of (Qa v _ _ j),Tp rfl,_,rfl,_,_,rfl,rfl,(x:Int),_,rfl,λp F=>?_};refine{p,x,e+1 - x,rfl,?_,by omega,λq B=>k _ q ((Qa v).trans ((Qa F).trans (Qa B))) wa};rw[wa]
  congr 2
  omega
noncomputable def zh(a:Text)(l:List Nat)(c:Nat):List Nat:=if c=42 then kj l a.length else(l.filter λp=>decide (p< a.length)&&decide (a[p]?=ba c)).map (·+1)
noncomputable def Im(a b:Text):Bool:=(b.foldl (zh a) [0]).contains a.length
theorem oK{l:List Nat}{e:Nat}(h:∀x∈l,x<=e):(kj l e).length<=e+1/\∀x∈kj l e,x<=e:=by
 cases l with
 |nil=>exact{by simp[kj],λx a=>by simp[kj] at a}
 |cons y r=>
  have:=h y (by simp);unfold kj;constructor
  .rw[aag];omega
  .intro x a;rw[aah] at a;omega
theorem YO{a:Text}{l:List Nat}{c:Nat}(h:∀x∈l,x<=a.length)(b:l.length<=a.length+1):(zh a l c).length<=a.length+1/\∀x∈zh a l c,x<=a.length:=by
 unfold zh;split
 .exact oK h
 .constructor
  .rw[Na];exact Bc (xl _ _) b
  .intro x d;obtain⟨y,e,rfl⟩:=Mb.mp d;have:=(Mc.mp e).2;simp at this;omega
theorem ZL{a:Text}:∀(b:Text)(l:List Nat),(∀x∈l,x<=a.length)->l.length<=a.length+1->(b.foldl (zh a) l).length<=a.length+1/\∀x∈b.foldl (zh a) l,x<=a.length
 |[],l,h,d=>⟨d,h⟩
 |c::r,l,h,d=>ZL r _ (YO h d).2 (YO h d).1
theorem MF{a:Type}(f:a->α->a)(b:a){l:List α}{x:α}(h:l[i]?=ba x):(l.take (i+1)).foldl f b=f ((l.take i).foldl f b) x:=by
 rw[ni,h];simp
theorem LX(a:X.K=K):Tu X (vA K):=by
 subst a;exact AE
theorem iU(a:X.K=K):Tu X (qv K):=by
 subst a;exact lq
inductive Oy(vs:List V)(H:Hp)(Q:VK)(X3:XK):Prop|mk:∀a b t u,vs=[.ref a,.ref b]->H a=ba (.tup (txt t))->H b=ba (.tup (txt u))->t.length<=500->u.length<=500->(∀H',ka H H'->Q (.bl (Im t u)) H')->Oy vs H Q X3
theorem iN(c:Nat)(t:List Nat):gh (.int (c:Int)) (txt t)=t.contains c:=aB c t
theorem YY(G:GF K mg "part_matches" YD ["part","pattern_part"])(T2:rq K mg)(Tl:mg "len"=ia)(d:Aa P w K mg base 1 "places_behind_star" ow):Aa P w K mg base 2 "part_matches" Oy:=by
 refine G.go (N:=["part","pattern_part","reached","sign","place"]) ?_;rintro f cdv A g s H vs Q E nd hr X D ⟨a,b,t,u,rfl,n,hb,hzt,hzu,k⟩;have hu:=hr.units;refine⟨_,Ga (nc (i:=2) (ic (la Sb pa)))
  (Ga (Ji qi rfl (Yw (pv 1)) (iz (i:=3) nd rfl (Dn rfl))
   (Ca (Lb (fc Zf (pv 3) (Wa T2.STAR) (Yb _))
    (Ca (nc (i:=2) (Ya d hr (la (pv 2) (la (Cc je (by rfl) Tl Sd (la (pv 0) pa)) pa)))))
    (Ca (Qp (i:=2) (own:=[("place",4)]) rfl nd rfl rfl (Cq rfl rfl rfl (by decide+kernel)) (Ug (pv 2)) (Wf (N:=["part","pattern_part","reached","sign","place"]) (sc:=Qc YD) (by decide+kernel)) (λ_ _ _ _ _=>Md (i:=4))
     (λ_ _ _ _ _=>Pm (PW.pt (Er (fc Hr (pv 4) (Cc (eB (K:=K) rfl) (by rfl) Tl Sd (la (pv 0) pa)) (Yb _)) (ft (fc Zf (Yl (LX (K:=K) rfl) (pv 0) (pv 4) (λ_ _=>rfl)) (pv 3) (Yb _))))))
     (λ_ _ _ _ _=>Fc We (pv 4) Sb))))))
  (Ca (Oa (oh Zl (Cc je (by rfl) Tl Sd (la (pv 0) pa)) (pv 2) (by with_unfolding_all rfl))))),?_⟩
 refine{Lc,λl0 r=>?_};have s0:ka H (upd H l0 (.lst [.int 0])):=Qa r;have bd:∀i,((u.take i).foldl (zh t) [0]).length<=t.length+1/\∀x∈(u.take i).foldl (zh t) [0],x<=t.length:=λi=>ZL _ _ (λx B=>by simp at B;omega) (by simp);refine⟨_,rfl,b,rfl,{_,Ba.of (s0 _ _ hb)},sk (bx (K:=K) (a:=b) (txt u)) (λi C F=>∃I J l,C=[ba (.ref a),ba (.ref b),ba (.ref l),I,J]/\ka H F/\F l=ba (.lst (txt ((u.take i).foldl (zh t) [0]))))
  ⟨ia,ia,l0,rfl,s0,wa⟩ (λi C F _ ⟨_,_,_,_,M,_⟩=>Ba.of (M _ _ hb)) ?_ ?_⟩
 .rintro i x C O hi B ⟨I,J,l,rfl,M,d⟩;rw[Xk] at B;obtain⟨c,hc,rfl⟩:=Ie.mp B;have ef:=MF (zh t) [0] hc;obtain⟨b1,b2⟩:=bd i
  generalize hL:(u.take i).foldl (zh t) [0]=L at*
  refine{_,rfl,rfl,_,rfl,cb (λhd=>?_) (λhd=>?_)}
  .have R:c=42:=by
    have q:=Qe hd;injection q with q;omega
   refine{_,rfl,_,rfl,a,_,rfl,.inr (Ba.of (M _ _ n)),l,L,(txt t).length,rfl,d,by omega,λx B=>by rw[gc];exact b2 x B,by rw[gc];omega,λH2 m s2 hm=>?_};refine{ba (.int (c:Int)),J,m,rfl,M.trans s2,?_};rw[ef,hm,gc];unfold zh;rw[qa R]
  .have R:¬c=42:=λz=>hd (Xc (by rw[z];rfl));refine⟨_,rfl,l,rfl,{_,Ia.of d},λD hD=>Sm (Wg (txt L)) outI (L.map λp=>if(decide (p< t.length)&&decide (t[p]?=ba c))=da then ba (((p+1:Nat):Int)) else ia) (by rw[Na,gc]) (λ_ _ _ _ _ h=>h) (λF S=>Ia.of (S _ _ d)) hD
    (by rw[gc];exact Jd (by omega)) (λv=>rfl) (λj y o F hj T hy S kn ky hkn hky=>?_) (λacc F S h2 h3=>?_)⟩
   .rw[Xk] at hy;obtain⟨p,hp,rfl⟩:=Ie.mp hy;rw[Ac,hp] at T;have T:=Dd T;have U:=S _ _ (M _ _ n);have tt:Pb F (xw (Ed (Vc (pf λi j=> .bl (decide (i< j))) (Ua 4) (qh (λxs H Q=>∃p ys,xs=[V.ref p]/\(Ia K H p ys\/Ba K H p ys)/\Q (.int ys.length) H) (Kb (Ua 0) Xb)))) (Ed (Vc kB (Vc (vA K) (Ua 0) (Ua 4)) (Ua 3)))) [ba (.ref a),ba (.ref b),ba (.ref l),ba (.int (c:Int)),ba (.int (p:Int))] (decide (p< t.length)&&decide (t[p]?=ba c)):=by
     refine Pb.and (λH4 Q4 W q4=>?_) λY H4 Q4 W q4=>?_
     .refine{_,rfl,_,rfl,a,_,rfl,.inr (Ba.of (W _ _ U)),_,_,rfl,rfl,_,rfl,?_};rw[gc,show decide ((p:Int)< (t.length:Int))=decide (p< t.length) from mh.mpr aai];exact q4 H4 W
     .have Y:p< t.length:=Qe Y;have hg:t[p]?=ba t[p]:=Wd Y;refine{_,rfl,_,rfl,a,_,_,_,rfl,rfl,Ba.of (W _ _ U),Tp (v:= .int ((t[p]:Nat):Int)) (by rw[Xk,hg];rfl),_,rfl,rfl,_,rfl,?_};have e:decide (V.int ((t[p]:Nat):Int)=V.int (c:Int))=decide (t[p]?=ba c):=by
       rw[hg];refine mh.mpr {λz=>?_,λz=>?_}
       .injection z with z;rw[UB z]
       .rw[Dd z]
      rw[e];exact q4 H4 W
    refine tt F _ (ka.refl F) λH3 s3=>cb (λZ=>?_) (λZ=>?_)
    .exact{_,rfl,_,_,rfl,rfl,hky _ _ H3 (by rw[<-T];exact qa Z) s3 rfl}
    .exact hkn H3 (by rw[<-T];exact oa Z) s3
   .rw[gq] at h3;rw[Az h3] at h2;refine{ba (.int (c:Int)),J,D,rfl,M.trans S,?_};rw[ef,h2];unfold zh;rw[oa R,Gv,yd,yd,yd];rfl
 .rintro C O ⟨I,J,l,rfl,M,d⟩;rw[gc,Cg] at d;refine{_,rfl,a,_,rfl,.inr (Ba.of (M _ _ n)),_,rfl,l,_,rfl,.inl (Ia.of d),rfl,bw _,?_};rw[gc];show Q (.bl (gh (.int (t.length:Int)) (txt (u.foldl (zh t) [0])))) O;rw[iN];exact k O M
noncomputable def uk(parts:List Text)(p:Nat)(a:Text):Bool:=match parts[p]? with
 |some x=>Im x a
 |none=>ma
noncomputable def rh(parts:List Text)(l:List Nat)(a:Text):List Nat:=if a=[42,42] then kj l parts.length else(l.filter λp=>uk parts p a).map (·+1)
noncomputable def allM(parts a:List Text):Bool:=(a.foldl (rh parts) [0]).contains parts.length
theorem pJ{a:List Text}{p:Nat}{b:Text}(h:uk a p b=da):p< a.length:=by
 unfold uk at h;cases e:a[p]? with
 |none=>rw[e] at h;cases h
 |some x=>exact(Cf.mp e).1
theorem qJ{a:List Text}{l:List Nat}{c:Text}(h:∀x∈l,x<=a.length)(b:l.length<=a.length+1):(rh a l c).length<=a.length+1/\∀x∈rh a l c,x<=a.length:=by
 unfold rh;split
 .exact oK h
 .constructor
  .rw[Na];exact Bc (xl _ _) b
  .intro x d;obtain⟨y,e,rfl⟩:=Mb.mp d;exact pJ (Mc.mp e).2
theorem HJ{a:List Text}:∀(b:List Text)(l:List Nat),(∀x∈l,x<=a.length)->l.length<=a.length+1->(b.foldl (rh a) l).length<=a.length+1/\∀x∈b.foldl (rh a) l,x<=a.length
 |[],l,h,d=>⟨d,h⟩
 |c::r,l,h,d=>HJ r _ (qJ h d).2 (qJ h d).1
structure Ai(H:Hp)(l:Addr)(ts:List Text):Prop where
 at_:∃ps,H l=ba (.lst (ps.map V.ref))/\Wb H ps ts
 n:ts.length<=500
 sz:∀t∈ts,t.length<=500
theorem Ai.same{a:Hp}{l:Addr}(h:Ai H l ts)(s:ka H a):Ai a l ts:=by
 obtain⟨⟨b,c,d⟩,e,f⟩:=h;exact{{b,s _ _ c,d.Xa (ka.Xa s)},e,f}
inductive Fw(vs:List V)(H:Hp)(Q:VK)(X3:XK):Prop|mk:∀l m ts us,vs=[.ref l,.ref m]->Ai H l ts->Ai H m us->(∀H',ka H H'->Q (.bl (allM ts us)) H')->Fw vs H Q X3
theorem PV(G:GF K mg "parts_match" uC ["parts","pattern_parts"])(T2:rq K mg)(Tl:mg "len"=ia)(d:Aa P w K mg base 1 "places_behind_star" ow)(h2:Aa P w K mg base 2 "part_matches" Oy):Aa P w K mg base 3 "parts_match" Fw:=by
 obtain⟨r,hr1,hr2⟩:=T2.hG;refine G.go (N:=["parts","pattern_parts","reached","pattern_part","place"]) ?_;rintro f cdv A outer s H vs Q E nd hr X D ⟨a,b,t,u,rfl,⟨⟨g,ha,tx⟩,hzt,hst⟩,⟨⟨qs,hb,ux⟩,hzu,hsu⟩,k⟩;have hu:=hr.units;have n:=tx.len;have hql:=ux.len;refine⟨_,Ga (nc (i:=2) (ic (la Sb pa)))
  (Ga (Ji qi rfl (Ug (pv 1)) (iz (i:=3) nd rfl (Dn rfl))
   (Ca (Lb (fc (CC (K:=K) rfl hu) (pv 3) (Wa hr1) (Yb _))
    (Ca (nc (i:=2) (Ya d hr (la (pv 2) (la (Cc je (by rfl) Tl Sd (la (pv 0) pa)) pa)))))
    (Ca (Qp (i:=2) (own:=[("place",4)]) rfl nd rfl rfl (Cq rfl rfl rfl (by decide+kernel)) (Ug (pv 2)) (Wf (N:=["parts","pattern_parts","reached","pattern_part","place"]) (sc:=Qc uC) (by decide+kernel)) (λ_ _ _ _ _=>Md (i:=4))
     (λ_ _ _ _ _=>Pm (PW.pt (Er (fc Hr (pv 4) (Cc (eB (K:=K) rfl) (by rfl) Tl Sd (la (pv 0) pa)) (Yb _)) (ft (Nd (Ya h2 hr (la (Yl (iU (K:=K) rfl) (pv 0) (pv 4) (λ_ _=>rfl)) (la (pv 3) pa))))))))
     (λ_ _ _ _ _=>Fc We (pv 4) Sb))))))
  (Ca (Oa (oh Zl (Cc je (by rfl) Tl Sd (la (pv 0) pa)) (pv 2) (by with_unfolding_all rfl))))),?_⟩
 refine{Lc,λl0 hl0=>?_};have s0:ka H (upd H l0 (.lst [.int 0])):=Qa hl0;have bd:∀i,((u.take i).foldl (rh t) [0]).length<=t.length+1/\∀x∈(u.take i).foldl (rh t) [0],x<=t.length:=λi=>HJ _ _ (λx B=>by simp at B;omega) (by simp);refine⟨_,rfl,b,rfl,{_,Ia.of (s0 _ _ hb)},sk (Wg (K:=K) (a:=b) (qs.map V.ref)) (λi σ C=>∃v3 F l,σ=[ba (.ref a),ba (.ref b),ba (.ref l),v3,F]/\ka H C/\C l=ba (.lst (txt ((u.take i).foldl (rh t) [0]))))
  ⟨ia,ia,l0,rfl,s0,wa⟩ (λi σ C _ ⟨_,_,_,_,I,_⟩=>Ia.of (I _ _ hb)) ?_ ?_⟩
 .rintro i x σ J hi B ⟨v3,F,l,rfl,I,d⟩;rw[Ac] at B;obtain⟨q,hq,rfl⟩:=Ie.mp B;obtain⟨c,hc,M⟩:=Wb.get ux hq;have hcl:=hsu c (vd hc);have ef:=MF (rh t) [0] hc;obtain⟨b1,b2⟩:=bd i
  generalize hL:(u.take i).foldl (rh t) [0]=L at*
  have hq1:=I _ _ M;show Jm (Ed (Vc (Zu K) (Ua 3) (tC (.ref r)))) _ _ _ _ J;refine Fz (cJ (t:=Jb c) (u:=[42,42]) rfl (by rw[<-zg];exact hq1) hr2) (ka.refl J) λH1' O=>cb (λhd=>?_) (λhd=>?_)
  .have ec:c=[42,42]:=Ak (by rw[zg,Qe hd];rfl);have R:=I.trans O;refine{_,rfl,_,rfl,a,_,rfl,.inl (Ia.of (R _ _ ha)),l,L,(g.map V.ref).length,rfl,O _ _ d,by omega,λx B=>by rw[Na,n];exact b2 x B,by rw[Na];omega,λH2 m s2 hm=>?_};refine{ba (.ref q),F,m,rfl,R.trans s2,?_};rw[ef,hm,Na,n];unfold rh;rw[qa ec]
  .have ec:¬c=[42,42]:=λz=>hd (Xc (by rw[z];rfl));have R:=I.trans O;have d:=O _ _ d;refine⟨_,rfl,l,rfl,{_,Ia.of d},λD hD=>Sm (Wg (txt L)) outI (L.map λp=>if uk t p c=da then ba (((p+1:Nat):Int)) else ia) (by rw[Na,gc]) (λ_ _ _ _ _ h=>h) (λC S=>Ia.of (S _ _ d)) hD
    (by rw[gc];exact Jd (by omega)) (λv=>rfl) (λj y o C hj T hy S kn ky hkn hky=>?_) (λacc C S h2 h3=>?_)⟩
   .rw[Xk] at hy;obtain⟨p,hp,rfl⟩:=Ie.mp hy;rw[Ac,hp] at T;have T:=Dd T;have sB:=R.trans S;have tt:Pb C (xw (Ed (Vc (pf λi j=> .bl (decide (i< j))) (Ua 4) (qh (λxs H Q=>∃p ys,xs=[V.ref p]/\(Ia K H p ys\/Ba K H p ys)/\Q (.int ys.length) H) (Kb (Ua 0) Xb)))) (tB (me Oy [] E0 (Kb (Vc (qv K) (Ua 0) (Ua 4)) (Kb (Ua 3) Xb))))) [ba (.ref a),ba (.ref b),ba (.ref l),ba (.ref q),ba (.int (p:Int))] (decide (p< t.length)&&uk t p c):=by
     refine Pb.and (λH4 Q4 U q4=>?_) λW H4 Q4 U q4=>?_
     .refine{_,rfl,_,rfl,a,_,rfl,.inl (Ia.of (U _ _ (sB _ _ ha))),_,_,rfl,rfl,_,rfl,?_};rw[Na,n,show decide ((p:Int)< (t.length:Int))=decide (p< t.length) from mh.mpr aai];exact q4 H4 U
     .have W:p< t.length:=Qe W;have Y:g[p]?=ba g[p]:=Wd (by omega);obtain⟨x,B,hpx⟩:=Wb.get tx Y;have e:uk t p c=Im x c:=by unfold uk;rw[B]
      rw[e] at q4;refine{_,rfl,_,rfl,a,_,_,_,rfl,rfl,Ia.of (U _ _ (sB _ _ ha)),Tp (v:= .ref g[p]) (by rw[Ac,Y];rfl),_,rfl,g[p],q,x,c,rfl,U _ _ (sB _ _ hpx),U _ _ (sB _ _ M),hst x (vd B),hcl,λH5 s5=>{_,rfl,q4 H5 (U.trans s5)}}
    have etot:(decide (p< t.length)&&uk t p c)=uk t p c:=by
     cases hb2:uk t p c with
     |false=>rw[LB]
     |true=>rw[Xc (pJ hb2)];rfl
    rw[etot] at tt;refine tt C _ (ka.refl C) λH3 s3=>cb (λZ=>?_) (λZ=>?_)
    .exact{_,rfl,_,_,rfl,rfl,hky _ _ H3 (by rw[<-T];exact qa Z) s3 rfl}
    .exact hkn H3 (by rw[<-T];exact oa Z) s3
   .rw[gq] at h3;rw[Az h3] at h2;refine{ba (.ref q),F,D,rfl,R.trans S,?_};rw[ef,h2];unfold rh;rw[oa ec,Gv,yd,yd,yd];rfl
 .rintro σ J ⟨v3,F,l,rfl,I,d⟩;rw[Na,hql,Cg] at d;refine{_,rfl,a,_,rfl,.inl (Ia.of (I _ _ ha)),_,rfl,l,_,rfl,.inl (Ia.of d),rfl,bw _,?_};rw[Na,n];show Q (.bl (gh (.int (t.length:Int)) (txt (u.foldl (rh t) [0])))) J;rw[iN];exact k J I
theorem KD [DecidableEq α](c:α):∀(t:List α),(Zc c t).length<=t.length+1/\∀x∈Zc c t,x.length<=t.length
 |[]=>{by simp[Zc],λx a=>by simp[Zc] at a;simp[a]}
 |y::r=>by
  obtain⟨b,d⟩:=KD c r;unfold Zc;by_cases f:y=c
  .rw[qa f];refine{by simp;omega,λx a=>?_};rcases jc.mp a with e|a
   .rw[e];simp
   .exact En (d x a)
  .rw[oa f];cases e:Zc c r with
   |nil=>exact absurd e (LL c r)
   |cons z l=>
    rw[e] at b d;refine{by simp at b⊢;omega,λx a=>?_};rcases jc.mp a with g|a
    .rw[g];exact D' (d z (by simp))
    .exact En (d x (by simp[a]))
theorem K4(G:GF K mg "is_pattern" oG ["text"])(T:Cs mg)(b:rq K mg)(h1:Aa P w K mg base 2 "is_pattern_part" (Wm jg))(h2:Aa P w K mg base 1 "parts_of" cv):Aa P w K mg base 3 "is_pattern" (Wm Ae):=by
 obtain⟨r,c,d⟩:=b.hG;refine G.go (N:=["text","parts","part"]) ?_;rintro f cdv A g s H vs Q E nd h X D ⟨a,t,rfl,ha,m,k⟩;have hu:=h.units;refine⟨_,Ga (Lb (fc Rl (Cc je (by rfl) T.len Sd (la (pv 0) pa)) (Wa T.NP) (Yb _)) (Ca (Oa xi)) Ob)
  (Ga (nc (i:=1) (Ya h2 h (la (pv 0) pa)))
  (Ga (Lb (PW.pt (vh (fc Rl (Cc je (by rfl) T.len Sd (la (pv 1) pa)) (Wa T.JN) (Yb _))
   (ij (fc Rl (di Ri C' PySem.F.type_list_count (XW hu) (pv 1) (la (Wa c) pa)) (Wa b.hU) (Yb _))))) (Ca (Oa xi)) Ob)
  (Ca (Oa (Cc (Lr rfl) (by rfl) T.all (by rfl) (la (Yh (own:=[("part",2)]) rfl nd (Ug (pv 1)) (Wf (N:=["text","parts","part"]) (sc:=Qc oG) (by decide+kernel)) (λ_ _ _ _ _=>Md (i:=2)) (λ_ _ _ _ _=>nj)
   (λ_ _ _ _ _=>Ya h1 h (la (pv 2) pa))) pa)))))),?_⟩
 refine Zb (EF (K:=K) rfl ha) (ka.refl H) λH1 n=>cb (λo=>?_) (λo=>?_)
 .have e:Ae t=ma:=by unfold Ae;rw[qa (by simp at o;omega)]
  show Q (.bl ma) H1;rw[<-e];exact k H1 n
 have e1:¬96< t.length:=by simp at o;omega
 have hl96:t.length<=96:=by omega
 refine{_,rfl,a,t,rfl,n _ _ ha,m,λH2 l ps s2 _ q z=>?_};have B:=z.len;obtain⟨sl1,C⟩:=KD (47:Int) t;have t3:Pb H2 (sv (Ed (Vc (pf λi j=> .bl (decide (j< i))) (qh (λxs H Q=>∃p F,xs=[V.ref p]/\(Ia K H p F\/Ba K H p F)/\Q (.int F.length) H) (Kb (Ua 1) Xb)) (tC (.int 8))))
   (Ed (Vc (pf λi j=> .bl (decide (j< i))) (AF K "list" (iF K) (Ua 1) (Kb (tC (.ref r)) Xb)) (tC (.int 2))))) [ba (.ref a),ba (.ref l),ia] (decide (8< (Zc (47:Int) t).length)||decide (2< (Zc (47:Int) t).count [42,42])):=by
  refine Pb.or (λI Q3 J L=>?_) λ_ I Q3 J L=>?_
  .refine{_,rfl,l,_,rfl,.inl (Ia.of (J _ _ q)),_,_,rfl,rfl,_,rfl,?_};rw[Na,B,show decide ((8:Int)< ((Zc (47:Int) t).length:Int))=decide (8< (Zc (47:Int) t).length) from mh.mpr (by omega)];exact L I J
  .refine{_,rfl,.inl {rfl,_,Ia.of (J _ _ q)},l,r,ps,_,[42,42],rfl,rfl,J _ _ q,z.Xa (ka.Xa J),d I,_,_,rfl,rfl,_,rfl,?_};rw[show decide ((2:Int)< ((List.count [42,42] (Zc (47:Int) t):Nat):Int))=decide (2< (Zc (47:Int) t).count [42,42]) from mh.mpr (by omega)];exact L I J
 refine Zb t3 (ka.refl H2) λI J=>cb (λM=>?_) (λM=>?_)
 .have e:Ae t=ma:=by unfold Ae;rw[oa e1,qa (by simpa using M)]
  show Q (.bl ma) I;rw[<-e];exact k I (n.trans (s2.trans J))
 have e:Ae t=(Zc 47 t).all jg:=by unfold Ae;rw[oa e1,oa (by simpa using M)]
 refine⟨_,rfl,l,rfl,{_,Ia.of (J _ _ q)},λD hD=>eo (Wg (ps.map V.ref)) ((Zc (47:Int) t).map λu=>V.bl (jg u)) (by rw[Na,Na,B]) (λO R=>Ia.of (R _ _ (J _ _ q))) hD
  (by rw[Na];exact Jd (by omega)) (λv=>rfl) (λi x y O hi S hx R ky U=>?_) (λO R W=>?_)⟩
 .rw[Ac] at hx S;obtain⟨p,hp,rfl⟩:=Ie.mp hx;obtain⟨u,Y,Z⟩:=Bf.get z hp;rw[Y] at S;cases S;have:=C u (vd Y);exact{_,rfl,p,u,rfl,R _ _ (J _ _ Z),by omega,U}
 .refine{D,(Zc (47:Int) t).map jg,rfl,Ia.of (by rw[yd];exact W),?_};rw[tm];show Q (.bl ((Zc (47:Int) t).all jg)) O;rw[<-e];exact k O (n.trans (s2.trans (J.trans R)))
noncomputable def Xm(q n:Text):List Int:=if Ae (Jb q)=ma then [-10] else if gb n=ma then [-1] else [if allM (Za 47 n) (Za 47 q)=da then 1 else 0]
theorem KO{t:Ka}(h:¬Ae t=ma):t.length<=96:=by
 unfold Ae at h;by_cases e:96< t.length
 .rw[qa e] at h;exact absurd rfl h
 .omega
theorem iA{l:Addr}{ps:List Addr}{t:Text}(a:H l=ba (.lst (ps.map V.ref)))(b:Wb H ps (Za 47 t))(h:t.length<=96):Ai H l (Za 47 t):=by
 obtain⟨c,d⟩:=KD 47 t;rw[jM] at c d;exact{⟨ps,a,b⟩,by omega,λx e=>by have:=d x e;omega}
theorem gQ{H0:Hp}{t:Ka}{g:Ka->Bool}(i:Nat)(b:σ[i]?=ba (ba (.ref a)))(c:H0 a=ba (.tup (jd t)))(hz:t.length<=100000):
  Pb H0 (Ol (tB (me (Wm g) [] E0 (Kb (Ua i) Xb)))) σ (!g t):=Pb.not λH Q s q=>{_,b,a,t,rfl,s _ _ c,hz,λd e=>{_,rfl,q d (s.trans e)}}
theorem JW(G:GF K mg "match_name" uQ ["pattern","name"])(c:rq K mg)(d:Aa P w K mg base 3 "is_pattern" (Wm Ae))(e:Aa P w K mg base 3 "is_path" (spT gb))(h:Aa P w K mg base 3 "parts_match" Fw)
  (i:Aa P w K mg base 1 "parts_of" Mo):Aa P w K mg base 4 "match_name" (Xr Xm):=by
 refine G.go (N:=["pattern","name"]) ?_;rintro f j A m s H vs Q E nd o X D ⟨a,b,t,u,rfl,p,q,r,v,k⟩;refine⟨_,Ga (Lb (Yf (Nd (Ya d o (la (pv 0) pa)))) (Ca (Oa (ic (la (Wa c.PATTERN) pa)))) Ob)
  (Ga (Lb (Yf (Nd (Ya e o (la (pv 1) pa)))) (Ca (Oa (ic (la (Wa c.PATH) pa)))) Ob)
  (Ca (Oa (ic (la (PD (Nd (Ya h o (la (Ya i o (la (pv 1) pa)) (la (Ya i o (la (pv 0) pa)) pa)))) Sb Sb) pa))))),?_⟩
 have x:(Jb t).length=t.length:=Na _;refine Zb (gQ (g:=Ae) (t:=Jb t) 0 rfl (by rw[<-zg];exact p) (by omega)) (ka.refl H) λH1 y=>cb (λz=>?_) (λz=>?_)
 .refine{Lc,λl B=>k _ l (y.trans (Qa B)) ?_};rw[wa];unfold Xm;rw[qa (by simpa using z)];rfl
 have C:¬Ae (Jb t)=ma:=by simpa using z
 have F:t.length<=96:=by have:=KO C;omega
 refine Zb (Yj (g:=gb) 1 rfl q) y λH2 I=>cb (λJ=>?_) (λJ=>?_)
 .refine{Lc,λl B=>k _ l (I.trans (Qa B)) ?_};rw[wa];unfold Xm;rw[oa C,qa (by simpa using J)];rfl
 have e2:¬gb u=ma:=by simpa using J
 have L:u.length<=96:=mq (by simpa using J);refine{_,rfl,b,u,rfl,I _ _ q,by omega,λH3 l1 ps1 M O R=>{_,rfl,a,t,rfl,M _ _ (I _ _ p),by omega,λH4 l2 ps2 S T U=>?_}};refine{l1,l2,_,_,rfl,(iA O R L).same S,iA T U F,λV s5=>{_,rfl,?_}};have W:=I.trans (M.trans (S.trans s5));have Y:∀n:Int,(if allM (Za 47 u) (Za 47 t)=da then(1:Int) else 0)=n->∀l,V l=ia->Q (.ref l) (upd V l (.lst [.int n])):=λn hn l B=>by
  refine k _ l (W.trans (Qa B)) ?_;rw[wa];unfold Xm;rw[oa C,oa e2,hn];rfl
 refine cb (λZ=>?_) (λZ=>?_)
 .exact{Lc,λl B=>Y 1 (qa Z) l B}
 .exact{Lc,λl B=>Y 0 (oa Z) l B}
theorem WA{n:Nat}(h:n<=2000000):n<=sizeLine:=Bc h (by decide)
theorem Ov:∀(ts:List Text),(∀t∈ts,t.length<=97)->(Hd ts).length<=98*ts.length
 |[],_=>Pd _
 |t::ts,h=>by
  have a:=Ov ts λu b=>h u (by simp[b]);have c:=h t (by simp);show((t++[10])++Hd ts).length<=_;simp only[wd,Oc,uj];omega
inductive Nv(C:Addr)(g:List Ent->List Int->Prop)(vs:List V)(H:Hp)(Q:VK)(X3:XK):Prop|mk:∀tp d x,vs=[.ref tp]->uc C H tp d x->Small x->(∀H' l r,ka H H'->g x r->H' l=ba (.lst (nums r))->Q (.ref l) H')->Nv C g vs H Q X3
inductive Kj(C:Addr)(g:List Ent->Text->List Int->Prop)(vs:List V)(H:Hp)(Q:VK)(X3:XK):Prop|mk:∀tp d x a p,vs=[.ref tp,.ref a]->uc C H tp d x->Small x->H a=ba (.tup (txt p))->p.length<=100000->(∀H' l r,ka H H'->g x p r->H' l=ba (.lst (nums r))->Q (.ref l) H')->Kj C g vs H Q X3
noncomputable def bh(t:Text):List Int:=0::t.map λn=>((n:Nat):Int)
theorem Ym(t:Text):nums (bh t)=V.int 0::txt t:=by
 unfold nums bh;rw[Nb,Gv]
def Cj(ts:List Text):Prop:=ts.Pairwise λa b=>Si b a=ma
inductive Ow(x:List Ent)(r:List Int):Prop|mk:∀ts,ts.Perm (Nc x)->Cj ts->r=bh (Hd ts)->Ow x r
theorem eA(a:Small x):(Nc x).length<=1000/\∀t∈Nc x,t.length<=96:=by
 constructor
 .unfold Nc;rw[Na];exact Bc (xl _ _) a.n
 .intro t b;unfold Nc at b;obtain⟨f,hf,e⟩:=Mb.mp b;subst e;unfold Jh;rw[rd];exact Bc (MG _ _) (a.sq f (Mc.mp hf).1)
theorem VY(G:GF K mg "all_packages" lN ["tree"])(a:Aa P w K mg base 2 "packages_of" (Ko C))(b:Aa P w K mg base 1 "in_lines" Vn):Aa P w K mg base 3 "all_packages" (Nv C Ow):=by
 refine G.go (N:=["tree"]) ?_;rintro f c A e s H g Q E h i X D ⟨j,d,x,rfl,n,o,k⟩;refine{_,Ca (Oa (Fc dj (ic (la Sb pa)) (Ya b i (la (Ya a i (la (pv 0) pa)) pa)))),?_};refine{Lc,λl p=>?_};refine{_,rfl,j,d,x,rfl,n.same (Qa p),o,λq u v y z B F I J L=>?_};obtain⟨M,O⟩:=eA o;have R:(Hd y).length<=1000000:=by
  have:=Ov y λt S=>En (O t (J.mem_iff.mp S));have:=J.length_eq;omega
 refine{u,v,y,rfl,F,I,R,λT m U V W=>?_};refine{l,m,_,_,rfl,rfl,U _ _ (z _ _ wa),W,WA (by rw[gc];simp;omega),λr i=>k _ r _ ((Qa p).trans (z.trans (U.trans (Qa i)))) ⟨y,J,L,rfl⟩ ?_};rw[wa,Ym];rfl
inductive yz(vs:List V)(H:Hp)(Q:VK)(X3:XK):Prop|mk:∀l a qs ts p,vs=[.ref l,.ref a]->H l=ba (.lst (qs.map V.ref))->Wb H qs ts->ts.length<=1000->(∀t∈ts,t.length<=96)->H a=ba (.tup (txt p))->(∀H',ka H H'->((∀t∈ts,qd p t=ma)->Q .Tb H')/\∀q t,t∈ts->qd p t=da->(∀u∈ts,qd p u=da->u.length<=t.length)->H' q=ba (.tup (txt t))->Q (.ref q) H')->yz vs H Q X3
theorem NY(G:GF K mg "package_around" iG ["packages","path"])(T:Uk K mg)(Tl:mg "len"=ia)(b:Aa P w K mg base 2 "is_in_directory" (Sj qd)):Aa P w K mg base 3 "package_around" yz:=by
 refine G.go (N:=["packages","path","around","package"]) ?_;rintro f cdv A c s H vs Q E nd hr X D ⟨l,a,d,ts,p,rfl,h,j,hn,hz,ha,k⟩;refine⟨_,Ga (Qp (i:=2) (own:=[("package",3)]) rfl nd rfl rfl (Cq rfl rfl rfl (by decide+kernel)) (Ug (pv 0)) (Wf (N:=["packages","path","around","package"]) (sc:=Qc iG) (by decide+kernel)) (λ_ _ _ _ _=>Md (i:=3))
  (λ_ _ _ _ _=>Pm (Nd (Ya b hr (la (pv 1) (la (pv 3) pa))))) (λ_ _ _ _ _=>pv 3))
  (Ca (Oa (aV rfl (by rfl) T.max (by rfl) Tl (la (pv 2) pa)))),?_⟩
 have m:=j.len;refine⟨_,rfl,l,rfl,{_,Ia.of h},λD hD=>Sm (Wg (d.map V.ref)) Wj (ts.map λt=>if qd p t=da then ba t else ia) (by rw[Na,Na,m]) Bo (λn r=>Ia.of (r _ _ h)) hD (by rw[Na];exact Jd (by omega)) (λv=>rfl)
  (λi y o n hi x z r kn ky B C=>?_) (λacc n r F b=>?_)⟩
 .rw[Ac] at z;cases I:d[i]? with
  |none=>rw[I] at z;cases z
  |some q=>
   obtain⟨u,J,L⟩:=Wb.get j I;rw[I] at z;cases z;rw[Ac,J] at x;have x:=Dd x;have M:u.length<=100000:=Bc (hz u (vd J)) (by decide);refine(qz (g:=qd) 1 3 rfl rfl (r _ _ ha) (r _ _ L) M) n _ (ka.refl n) λO R=>cb (λS=>?_) (λS=>?_)
   .exact{_,rfl,C _ u O (by rw[<-x];exact qa S) R {q,rfl,R _ _ (r _ _ L)}}
   .exact B O (by rw[<-x];exact oa S) R
 .rw[Bs] at b;obtain⟨rs,e,tr⟩:=yn b;rw[e] at F;obtain⟨k1,k2⟩:=k n r;refine{_,rfl,D,rs,_,rfl,Ia.of F,tr,λU=>k1 λt W=>?_,λq t W hq hb=>?_}
  .cases S:qd p t with
   |false=>rfl
   |true=>
    have:=Mc.mpr ⟨W,S⟩;rw[U] at this;cases this
  .obtain⟨m1,m2⟩:=Mc.mp W;exact k2 q t m1 m2 (λu Y Z=>hb u (Mc.mpr ⟨Y,Z⟩)) hq
def Jz(x:List Ent)(p:Text)(r:List Int):Prop:=
 (gb p=ma/\r=[-1])\/(gb p=da/\(∀t∈Nc x,qd p t=ma)/\r=[-7])\/(gb p=da/\∃t∈Nc x,qd p t=da/\(∀u∈Nc x,qd p u=da->u.length<=t.length)/\r=bh t)
theorem dW(G:GF K mg "owner_of" MI ["tree","path"])(T:Uk K mg)(b:Aa P w K mg base 3 "is_path" (spT gb))(h2:Aa P w K mg base 3 "package_around" yz)(h3:Aa P w K mg base 2 "packages_of" (Ko C)):Aa P w K mg base 4 "owner_of" (Kj C Jz):=by
 refine G.go (N:=["tree","path","package"]) ?_;rintro f cdv A c s H vs Q E nd e X D ⟨tp,d,x,a,p,rfl,Tr,h,j,hzp,k⟩;have hu:=e.units;refine⟨_,Ga (Lb (Yf (Nd (Ya b e (la (pv 1) pa)))) (Ca (Oa (ic (la (Wa T.PATH) pa)))) Ob)
  (Ga (nc (i:=2) (Ya h2 e (la (Ya h3 e (la (pv 0) pa)) (la (pv 1) pa))))
  (Ga (Lb (Ck (fB (pv 2))) (Ca (Oa (ic (la (Wa T.PACKAGE) pa)))) Ob)
  (Ca (Oa (Fc dj (ic (la Sb pa)) (Ij As (by rfl) T.list (by rfl) (la (pv 2) pa))))))),?_⟩
 refine Zb (Yj (g:=gb) 1 rfl j) (ka.refl H) λH1 o=>cb (λv=>?_) (λv=>?_)
 .exact{Lc,λl y=>k _ l [-1] (o.trans (Qa y)) (.inl {by simpa using v,rfl}) wa}
 have z:gb p=da:=by simpa using v
 obtain⟨b1,B⟩:=eA h;refine{_,rfl,tp,d,x,rfl,Tr.same o,h,λH2 l qs F s2 hl0 y tx I hpw=>?_};have J:∀t,t∈F↔t∈Nc x:=λt=>I.mem_iff;have L:=o.trans s2;refine{_,rfl,l,a,qs,F,p,rfl,y,tx,by rw[I.length_eq];exact b1,λt M=>B t ((J t).mp M),L _ _ j,λH3 O=>{λR=>?_,λq t M hd hb hq=>?_}}
 .refine{_,rfl,_,rfl,wg {Lc,λm S=>k _ m [-7] (L.trans (O.trans (Qa S))) (.inr (.inl {z,λt M=>R t ((J t).mpr M),rfl})) wa}}
 .refine{_,rfl,_,rfl,bj {Lc,λm S=>?_}};have U:=(J t).mp M;refine{_,rfl,q,_,rfl,.inr (Ba.of (Qa S _ _ hq)),λn V=>?_};have W:m≠n:=de wa V;refine{m,n,_,_,rfl,rfl,by rw[Ja W];exact wa,wa,Xf (by rw[gc];have:=B t U;simp;omega),λr e=>k _ r _ (L.trans (O.trans ((Qa S).trans ((Qa V).trans (Qa e))))) (.inr (.inr {z,t,U,hd,λu Y Z=>hb u ((J u).mpr Y) Z,rfl})) ?_};rw[wa,Ym];rfl
def Zm(x:List Ent)(p:Text)(r:List Int):Prop:=r=if gb p=ma then [-1] else match look x p with
 |none=>[-5]
 |some b=>bh b
theorem VP{p b:Text}(h:look x p=ba b):∃f∈x,f.1=p/\f.2=b:=by
 unfold look at h;obtain⟨f,hf,e⟩:=Ie.mp h;exact{f,EH hf,by simpa using oy hf,e}
theorem EX(G:GF K mg "get_file" VM ["tree","path"])(T:ig K mg C)(T2:Uk K mg)(h1:Aa P w K mg base 3 "is_path" (spT gb)):Aa P w K mg base 4 "get_file" (Kj C Zm):=by
 refine G.go (N:=["tree","path"]) ?_;rintro f cdv A c s H vs Q E nd e X D ⟨h,d,x,a,p,rfl,Tr,hx,i,hzp,k⟩;have j:=ei e;refine⟨_,Ga (Lb (Yf (Nd (Ya h1 e (la (pv 1) pa)))) (Ca (Oa (ic (la (Wa T.PATH) pa)))) Ob)
  (Ga (Lb (Ck (Rt j (pv 1) (vc (pv 0) rfl))) (Ca (Oa (ic (la (Wa T.ABSENT) pa)))) Ob)
  (Ca (Oa (Fc dj (ic (la Sb pa)) (Ij As (by rfl) T2.list (by rfl) (la (qk j (vc (pv 0) rfl) (pv 1) (λ_ _=>rfl)) pa)))))),?_⟩
 refine Zb (Yj (g:=gb) 1 rfl i) (ka.refl H) λH1 t=>cb (λu=>?_) (λu=>?_)
 .exact{Lc,λl v=>k _ l [-1] (t.trans (Qa v)) (by unfold Zm;rw[qa (by simpa using u)]) wa}
 have y:¬gb p=ma:=by simpa using u
 obtain⟨⟨z,B⟩,F,I,J⟩:=Tr.same t;have L:H1 a=ba (.tup ((key p).map kV)):=by rw[Xe];exact t _ _ i
 refine{_,rfl,_,rfl,h,C,z,ff d,.ref d,rfl,B,T.cl,T.nF,Me d,d,_,rfl,yg.tt (k:=key p) I L,_,rfl,?_};rcases Mj (q:=p) J with⟨M,O⟩ |⟨b,R,M,O,h7⟩
 .rw[O];exact wg {Lc,λl v=>k _ l [-5] (t.trans (Qa v)) (by unfold Zm;rw[oa y,M]) wa}
 .rw[O];refine bj {Lc,λm hm=>?_};have S:=Qa (o:=HO.lst [V.int 0]) hm;refine{_,rfl,h,C,z,ff d,.ref d,rfl,S _ _ B,T.cl,T.nF,Me d,_,rfl,d,.ref R,rfl,.inr {F,key p,a,.inl (S _ _ I),rfl,S _ _ L,O.symm},R,_,rfl,.inr (Ba.of (S _ _ h7)),λn hn=>?_};have U:m≠n:=de wa hn;obtain⟨W,Y,_,Z⟩:=VP M;refine{m,n,_,_,rfl,rfl,by rw[Ja U];exact wa,wa,Xf (by rw[gc];have:=hx.b W Y;rw[Z] at this;simp;omega),λr e=>k _ r (bh b) (t.trans (S.trans ((Qa hn).trans (Qa e)))) (by unfold Zm;rw[oa y,M]) ?_};rw[wa,Ym];rfl
inductive zw(x:List Ent)(r:List Int):Prop|mk:∀ts,ts.Perm (x.map (·.1))->Cj ts->r=bh (Hd ts)->zw x r
theorem BV(G:GF K mg "all_files" lJ ["tree"])(T:ig K mg C)(a:Uk K mg)(b:Aa P w K mg base 1 "in_lines" Vn):Aa P w K mg base 2 "all_files" (Nv C zw):=by
 refine G.go (N:=["tree"]) ?_;rintro f c A g s H h Q E i j X D ⟨n,d,x,rfl,p,q,k⟩;refine{_,Ca (Oa (Fc dj (ic (la Sb pa)) (Ya b j (la (Cc (HF rfl) (by rfl) a.sorted (by rfl) (la (vc (pv 0) rfl) pa)) pa)))),?_};refine{Lc,λl u=>?_};obtain⟨⟨v,y⟩,z⟩:=p.same (Qa (o:= .lst [.int 0]) u);refine{_,rfl,n,C,v,ff d,.ref d,rfl,y,T.cl,T.nF,Me d,d,x,rfl,z,q.ne,q.n,λB F m I J L M=>?_};have O:(Hd F).length<=1000000:=by
  have:=Ov F λt R=>by
   obtain⟨f,hf,e⟩:=Mb.mp (I.mem_iff.mp R);subst e;exact En (q.sq f hf)
  have:=I.length_eq;rw[Na] at this;have:=q.n;omega
 refine{m,B,F,rfl,wa,L.Xa (ka.Xa (Qa M)),O,λS U V W Y=>?_};refine{l,U,_,_,rfl,rfl,V _ _ (Qa M _ _ wa),Y,WA (by rw[gc];simp;omega),λr j=>k _ r _ ((Qa u).trans ((Qa M).trans (V.trans (Qa j)))) ⟨F,I,J,rfl⟩ ?_};rw[wa,Ym];rfl
noncomputable def aroundOf(ts:List Text)(p:Text):Option Text:=((Li (p.length+1)).reverse.map λn=>p.take n).find? λt=>ts.contains t&&qd p t
theorem mZ{p t:Text}(h:qd p t=da):t=p.take t.length/\t.length<=p.length:=by
 unfold qd at h;rw[ki] at h;rcases h with h|h
 .have e:=Qe h;subst e;simp
 .have e:p.take (t.length+1)=t++[47]:=Qe h;have a:=wc He e;rw[rd,wd] at a;have b:t.length<=p.length:=by simp at a;omega
  refine{?_,b};have c:=wc (List.take t.length) e;rw[FH,ml (KG _),XB] at c;exact c.symm
theorem wC{p:Text}(h:∀t∈ts,qd p t=ma):aroundOf ts p=ia:=by
 unfold aroundOf;rw[mr];intro t _ a;rw[Kc] at a;have:=h t (by simpa using a.1);rw[this] at a;cases a.2
theorem MN(f:Nat->Option Text)(g:Nat->Text)(c:Text->Bool):∀(n k:Nat),k< n->c (g k)=da->(∀j,k< j->j< n->c (g j)=ma)->((Li n).reverse.map g).find? c=ba (g k)
 |0,k,h,_,_=>absurd h (Nat.not_lt_zero k)
 |n+1,k,h,a,b=>by
  rw[List.range_succ,List.reverse_append,List.reverse_singleton,aaj,Nb];by_cases e:k=n
  .subst e;rw[qH a]
  .rw[rH (by rw[b n (by omega) (IG n)];exact se)];exact MN f g c n k (by omega) a λj d i=>b j d (by omega)
theorem tD{p t:Text}(a:t∈ts)(hd:qd p t=da)(b:∀u∈ts,qd p u=da->u.length<=t.length):aroundOf ts p=ba t:=by
 obtain⟨e,c⟩:=mZ hd;unfold aroundOf;rw[MN (λ_=>ia) (λn=>p.take n) _ (p.length+1) t.length (by omega) ?_ ?_]
 .exact wc ba e.symm
 .rw[<-e,hd,aak];simpa using a
 .intro j d f;cases g:(ts.contains (p.take j)&&qd p (p.take j)) with
  |false=>rfl
  |true=>
   rw[Kc] at g;have:=b _ (by simpa using g.1) g.2;rw[rd] at this;omega
theorem lM{us:List Text}{p:Text}(h:∀t,t∈ts↔t∈us):aroundOf ts p=aroundOf us p:=by
 unfold aroundOf
 congr 1
 funext t
 congr 1
 rw[tf];simpa using h t
inductive nt(vs:List V)(H:Hp)(Q:VK)(X3:XK):Prop|mk:∀l a qs ts p,vs=[.ref l,.ref a]->H l=ba (.lst (qs.map V.ref))->Wb H qs ts->ts.length<=1000->(∀t∈ts,t.length<=96)->H a=ba (.tup (txt p))->(∀H',ka H H'->match aroundOf ts p with
  |none=>Q .Tb H'
  |some t=>∀q,H' q=ba (.tup (txt t))->Q (.ref q) H')->nt vs H Q X3
theorem Aa.imp{x:Str}{sp a:Sp}(h:Aa P w K mg base k x sp)(b:∀vs H Q E,a vs H Q E->sp vs H Q E):Aa P w K mg base k x a:=by
 obtain⟨f,c,d,e,g,i,j⟩:=h;exact{f,c,d,e,g,i,j.imp b}
theorem F5(h:Aa P w K mg base 3 "package_around" yz):Aa P w K mg base 3 "package_around" nt:=by
 refine h.imp λb H Q E h=>?_;obtain⟨l,a,c,d,p,rfl,e,f,g,i,j,k⟩:=h;refine{l,a,c,d,p,rfl,e,f,g,i,j,λm n=>{λo=>?_,λq t r hd s u=>?_}}
 .have:=k m n;rw[wC o] at this;exact this
 .have:=k m n;rw[tD r hd s] at this;exact this q u
inductive tF(K:xa)(x:V)(y:V)(H:Hp)(Q:VK):Prop|mk:∀b u,y= .ref b->Ba K H b (txt u)->((x= .Tb/\Q (.bl ma) H)\/∃a t,x= .ref a/\Ba K H a (txt t)/\Q (.bl (decide (t=u))) H)->tF K x y H Q
inductive VC(K:xa)(x:V)(y:V)(H:Hp)(Q:VK):Prop|mk:∀b u,y= .ref b->Ba K H b (txt u)->((x= .Tb/\Q (.bl da) H)\/∃a t,x= .ref a/\Ba K H a (txt t)/\Q (.bl (!decide (t=u))) H)->VC K x y H Q
theorem EK:Oi .none=da:=by decide
theorem j6(c:X.K=K)(d:X.A.units+64< Wc):zd X (ee .Eq) (tF K):=by
 subst c;intro e s f H x y v u Q I g i h;obtain⟨b,w,rfl,j,⟨rfl,q⟩ |⟨a,t,rfl,k,q⟩⟩:=h
 .refine Wv d e s f H _ _ v u Q I g i {_,_,.Tb,.tup j (Pk w),EK,Pt w,?_};simp only[og];exact q
 .exact Ei d e s f H _ _ v u Q I g i ⟨a,b,t,w,rfl,rfl,k,j,q⟩
theorem m6(c:X.K=K)(d:X.A.units+64< Wc):zd X (ee .NotEq) (VC K):=by
 subst c;intro e s f H x y v u Q I g i h;obtain⟨b,w,rfl,j,⟨rfl,q⟩ |⟨a,t,rfl,k,q⟩⟩:=h
 .refine kG d e s f H _ _ v u Q I g i {_,_,.Tb,.tup j (Pk w),EK,Pt w,?_};simp only[og];exact q
 .exact yx d e s f H _ _ v u Q I g i ⟨a,b,t,w,rfl,rfl,k,j,q⟩
noncomputable def namesOf(x:List Ent)(p:Text):List Text:=(x.filter λf=>decide (aroundOf (Nc x) f.1=ba p)).map λf=>Je p f.1
inductive EC(C:Addr)(vs:List V)(H:Hp)(Q:VK)(X3:XK):Prop|mk:∀tp d x a p,vs=[.ref tp,.ref a]->uc C H tp d x->Small x->H a=ba (.tup (txt p))->p.length<=100000->(∀H' l qs,ka H H'->H' l=ba (.lst (qs.map V.ref))->Wb H' qs (namesOf x p)->Q (.ref l) H')->EC C vs H Q X3
theorem EV(G:GF K mg "names_in_package" bF ["tree","package"])(T:ig K mg C)(b:Aa P w K mg base 2 "packages_of" (Ko C))(c:Aa P w K mg base 3 "package_around" nt)(h3:Aa P w K mg base 1 "behind_directory" wx):
  Aa P w K mg base 4 "names_in_package" (EC C):=by
 refine G.go (N:=["tree","package","packages","path"]) ?_;rintro f cdv A g s H vs Q E nd h X D ⟨tp,d,x,a,p,rfl,Tr,j,ha,hzp,k⟩;have hu:=h.units;refine⟨_,Ga (Qs (i:=2) nd rfl (Dn rfl) (Ya b h (la (pv 0) pa)))
  (Ca (Oa (Xw (Yh (own:=[("path",3)]) rfl nd (Um (vc (pv 0) rfl)) (Wf (N:=["tree","package","packages","path"]) (sc:=Qc bF) (by decide+kernel)) (λ_ _ _ _ _=>Md (i:=3))
   (λ_ _ _ _ _=>Pm (fc (j6 (K:=K) rfl hu) (Ya c h (la (pv 2) (la (pv 3) pa))) (pv 1) (Yb _))) (λ_ _ _ _ _=>Ya h3 h (la (pv 3) (la (pv 1) pa))))))),?_⟩
 refine{_,rfl,tp,d,x,rfl,Tr,j,λH1 l qs ts m hl0 hl tx n hpw=>?_};obtain⟨b1,b2⟩:=eA j;have r:∀t,t∈ts↔t∈Nc x:=λt=>n.mem_iff;refine tw T.cl T.nF (Tr.same m) rfl Wj (x.map λf=>if(decide (aroundOf (Nc x) f.1=ba p))=da then ba (Je p f.1) else ia) (by rw[Na]) Bo (Jd j.n) (λv=>rfl) (λkvs kk q f o u hd en L hf y hq kn ky B F=>?_) (λacc u D s' hD b c=>?_)
 .rw[Ac,hf] at y;have y:=Dd y;have I:u l=ba (.lst (qs.map V.ref)):=L.at_ hd hl (by intro z;cases z);have J:=L.txt hd (m _ _ ha);have tt:Pb u (Ed (Vc (tF K) (me nt [] E0 (Kb (Ua 2) (Kb (Ua 3) Xb))) (Ua 1))) [ba (.ref tp),ba (.ref a),ba (.ref l),ba (.ref q)] (decide (aroundOf (Nc x) f.1=ba p)):=λH3 Q3 M O=>by
   refine{_,rfl,_,rfl,l,q,qs,ts,f.1,rfl,M _ _ I,(tx.Xa (L.Xa hd)).Xa (ka.Xa M),by rw[n.length_eq];exact b1,λt ht=>b2 t ((r t).mp ht),M _ _ hq,λR S=>?_};rw[lM r];have U:=M.trans S;cases he:aroundOf (Nc x) f.1 with
   |none=>
    refine{_,rfl,a,p,rfl,Ba.of (U _ _ J),.inl {rfl,_,rfl,?_}};rw[he] at O;exact O R U
   |some t=>
    intro q4 W;refine{_,rfl,a,p,rfl,Ba.of (U _ _ J),.inr {q4,t,rfl,Ba.of W,_,rfl,?_}};rw[he,show decide (ba t=ba p)=decide (t=p) from mh.mpr {Dd,wc ba}] at O;exact O R U
  refine tt u _ (ka.refl u) λH3 M=>cb (λY=>?_) (λY=>?_)
  .refine{_,rfl,_,rfl,q,a,f.1,p,rfl,M _ _ hq,M _ _ J,λR p4 S h4=>F _ _ R (by rw[<-y];exact qa Y) (M.trans S) ⟨p4,rfl,h4⟩}
  .exact B H3 (by rw[<-y];exact oa Y) M
 .rw[gq] at c;obtain⟨ps,e,Z⟩:=yn c;rw[e] at b;exact k u D ps (m.trans s') b Z
noncomputable def Yd:Nat->Ka->Option (List Ka)
 |_,[]=>ba []
 |0,_::_=>ia
 |k+1,n::r=>if 0<=n/\n.toNat<=r.length/\Ae (r.take n.toNat)=da then(Yd k (r.drop n.toNat)).map λl=>r.take n.toNat::l else ia
theorem GA:∀(k:Nat)(t:Ka),t.length<=k->Yd k t=Yd t.length t
 |0,[],_=>rfl
 |0,_::_,h=>by simp at h
 |k+1,[],_=>rfl
 |k+1,n::r,h=>by
  have h:r.length<=k:=by simpa using h
  show Yd (k+1) (n::r)=Yd (r.length+1) (n::r);unfold Yd;have hd:(r.drop n.toNat).length<=r.length:=by rw[ue];omega
  rw[GA k (r.drop n.toNat) (by omega),GA r.length (r.drop n.toNat) hd]
termination_by k _=>k
theorem WN [DecidableEq α](c:α):∀(t:List α)(x:α),x∈t->x=c\/∃p∈Zc c t,x∈p
 |[],x,h=>by simp at h
 |y::r,x,h=>by
  have a:=WN c r x;unfold Zc;by_cases b:y=c
  .rw[qa b];rcases jc.mp h with e|h
   .exact .inl (e.trans b)
   .rcases a h with e|⟨p,d,f⟩
    .exact .inl e
    .exact .inr {p,sf _ d,f}
  .rw[oa b];cases e:Zc c r with
   |nil=>exact absurd e (LL c r)
   |cons z l=>
    show x=c\/∃p∈(y::z)::l,x∈p;rcases jc.mp h with g|h
    .exact .inr {y::z,by simp,by simp[g]}
    .rcases a h with g|⟨p,d,f⟩
     .exact .inl g
     .rw[e] at d;rcases jc.mp d with i|d
      .exact .inr {y::z,by simp,by rw[i] at f;simp[f]}
      .exact .inr {p,by simp[d],f}
theorem n8{t:Ka}(h:jg t=da):∀c∈t,0<=c:=by
 unfold jg at h;intro c a;by_cases b:t=[42,42]
 .rw[b] at a;simp at a;omega
 .rw[oa b] at h;split at h
  .cases h
  .split at h
   .cases h
   .have:=Df.mp h c a;unfold Lf at this;simp at this;omega
theorem II{t:Ka}(h:Ae t=da):∀c∈t,0<=c:=by
 unfold Ae at h;intro c a;split at h
 .cases h
 .split at h
  .cases h
  .rcases WN 47 t c a with e|⟨p,b,d⟩
   .omega
   .exact n8 (Df.mp h p b) c d
theorem Uz:∀{t:Ka},(∀c∈t,0<=c)->t=Jb (t.map Cm)
 |[],_=>rfl
 |x::t,h=>by
  have a:=h x (by simp);have b:=Uz λc d=>h c (sf _ d);show x::t=((x.toNat:Nat):Int)::Jb (t.map Cm);rw[<-b,Int.toNat_of_nonneg a]
inductive zk(H:Hp)(l:Addr)(pss:List (List Text)):Prop|mk:∀ms,H l=ba (.lst (ms.map V.ref))->(Paired (λm ts=>m≠l/\Ai H m ts) ms pss)->zk H l pss
theorem Ai.upd{l m:Addr}{xs ys:List V}(h:Ai H m ts)(a:H l=ba (.lst xs))(b:m≠l):Ai (upd H l (.lst ys)) m ts:=by
 obtain⟨⟨c,d,e⟩,f,g⟩:=h;exact{{c,by rw[Ja b];exact d,e.Xa (Wl a)},f,g}
theorem zk.same{a:Hp}{l:Addr}{b:List (List Text)}(h:zk H l b)(s:ka H a):zk a l b:=by
 obtain⟨c,d,e⟩:=h;exact{c,s _ _ d,Paired.wh e λm f q=>{q.1,q.2.same s}}
theorem zk.add{l m:Addr}{a:List (List Text)}{b:List Addr}(c:H l=ba (.lst (b.map V.ref)))(d:Paired (λm ts=>m≠l/\Ai H m ts) b a)(e:Ai H m ts)(f:m≠l):
  zk (upd H l (.lst (b.map V.ref++[V.ref m]))) l (a++[ts]):=
 {b++[m],by rw[wa,vf];rfl,Yu (Paired.wh d λm ts q=>{q.1,q.2.upd c q.1}) {f,e.upd c f}}
noncomputable def Pf(t:Ka):List Text:=Za 47 (t.map Cm)
inductive rD(vs:List V)(H:Hp)(Q:VK)(X3:XK):Prop|mk:∀a z,vs=[.ref a]->H a=ba (.tup (jd z))->z.length<=100000->(∀H',ka H H'->match Yd z.length z with
  |none=>Q .Tb H'
  |some ts=>∀l,zk H' l (ts.map Pf)->Q (.ref l) H')->rD vs H Q X3
theorem w6(G:GF K mg "patterns_in" uM ["numbers"])(Tl:mg "len"=ia)(h1:Aa P w K mg base 3 "is_pattern" (Wm Ae))(h2:Aa P w K mg base 1 "parts_of" cv):Aa P w K mg base 4 "patterns_in" rD:=by
 refine G.go (N:=["numbers","patterns","place","size","text"]) ?_;rintro f cdv A outer s H vs Q E nd hr X D ⟨a,z,rfl,ha,hz,k⟩;have hu:=hr.units;refine⟨_,Ga (nc (i:=1) (ic pa)) (Ga (nc (i:=2) Sb)
  (Ga (yF qi (fc Hr (pv 2) (Cc je (by rfl) Tl Sd (la (pv 0) pa)) (Yb _))
   (Ga (nc (i:=3) (Yl AE (pv 0) (pv 2) (λ_ _=>rfl)))
   (Ga (nc (i:=4) (Oe Tz (pv 0) (Ud (Fc We (pv 2) Sb)) (Ud (Fc We (Fc We (pv 2) Sb) (pv 3)))))
   (Ga (Lb (PW.pt (vh (fc qC (Cc je (by rfl) Tl Sd (la (pv 4) pa)) (pv 3) (Yb _)) (ij (Yf (Nd (Ya h1 hr (la (pv 4) pa))))))) (Ca (Oa uG)) Ob)
   (Ga (vi (di Ri xm ym Nk (pv 1) (la (Ya h2 hr (la (pv 4) pa)) pa)))
   (Ca (nc (i:=2) (Fc We (Fc We (pv 2) Sb) (pv 3)))))))))
  (Ca (Oa (pv 1))))),?_⟩
 refine{Pd _,λl hl=>?_};have s0:ka H (upd H l (.lst [])):=Qa hl;refine{λm σ b=>E4 λp c v3 v4=>A5 (σ=[ba (.ref a),ba (.ref l),ba (.int ((p:Nat):Int)),v3,v4]) (ka H b) (p<=z.length) (m=z.length - p) (c.length<=p/\zk b l (c.map Pf)/\Yd z.length z=(Yd (z.length - p) (z.drop p)).map λus=>c++us),
  {_,0,[],ia,ia,rfl,s0,Pd _,rfl,rb _,{[],wa,.nil},by rw[iy,Fn];cases Yd z.length z<;>rfl},?_}
 rintro m σ H1 ⟨p,c,v3,v4,rfl,d,hp,rfl,htl,h,j⟩;refine{_,rfl,_,rfl,a,_,rfl,.inr (Ba.of (d _ _ ha)),_,_,rfl,rfl,_,rfl,?_};rw[Pj];refine cb (λhc=>?_) (λhc=>?_)
 .have o:p< z.length:=by
   have:=Qe hc;omega
  have hg:z[p]?=ba z[p]:=Wd o;have r:z.drop p=z[p]::z.drop (p+1):=aal o
  generalize hN:z[p]=n at*
  have hlr:(z.drop (p+1)).length=z.length - (p+1):=ue;have u:Yd (z.length - p) (z.drop p)=if 0<=n/\n.toNat<=(z.drop (p+1)).length/\Ae ((z.drop (p+1)).take n.toNat)=da then(Yd (z.length - (p+1+n.toNat)) (z.drop (p+1+n.toNat))).map λl=>(z.drop (p+1)).take n.toNat::l else ia:=by
   rw[r,show z.length - p=(z.length - (p+1))+1 by omega]
   conv=>lhs;unfold Yd
   split
   .rename_i hyes
    have e3:(z.drop (p+1)).drop n.toNat=z.drop (p+1+n.toNat):=by rw[Hn]
    have e4:(z.drop (p+1+n.toNat)).length=z.length - (p+1+n.toNat):=ue;rw[e3,GA _ _ (by rw[e4];omega),e4]
   .rfl
  refine{λx b=>E4 λy B v3 v4=>A5 (x=[ba (.ref a),ba (.ref l),ba (.int ((y:Nat):Int)),v3,v4]) (ka H b) (y<=z.length) (z.length - y< z.length - p) (B.length<=y/\zk b l (B.map Pf)/\Yd z.length z=(Yd (z.length - y) (z.drop y)).map λus=>B++us),
   (by rintro x b ⟨y,B,w3,w4,h1,h2,h3,h4,h5,h6,h7⟩;exact{_,h4,y,B,w3,w4,h1,h2,h3,rfl,h5,h6,h7}),?_}
  refine{_,rfl,_,rfl,a,_,_,_,rfl,rfl,Ba.of (d _ _ ha),Tp (v:= .int n) (by rw[Vy,hg];rfl),?_};refine{_,rfl,_,rfl,_,_,rfl,rfl,_,rfl,_,rfl,_,_,rfl,rfl,_,rfl,_,_,rfl,rfl,_,rfl,a,z,rfl,d _ _ ha,λq H2 s2 hq=>?_}
  generalize hT:Gi z (ba ((p:Int)+1)) (ba ((p:Int)+1+n))=t at hq
  have C:t.length<=100000:=by
   rw[<-hT];unfold Gi;rw[rd,ue];omega
  have tt:Pb H2 (sv (Ed (Vc MC (qh (λxs H Q=>∃p ys,xs=[V.ref p]/\(Ia K H p ys\/Ba K H p ys)/\Q (.int ys.length) H) (Kb (Ua 4) Xb)) (Ua 3))) (Ol (tB (me (Wm Ae) [] E0 (Kb (Ua 4) Xb))))) [ba (.ref a),ba (.ref l),ba (.int (p:Int)),ba (.int n),ba (.ref q)]
    (!decide ((t.length:Int)=n)|| !Ae t):=by
   refine Pb.or (λH3 Q3 F q3=>?_) λ_=>gQ (g:=Ae) 4 rfl hq C;refine{_,rfl,q,_,rfl,.inr (Ba.of (F _ _ hq)),_,rfl,rfl,_,rfl,?_};rw[Pj,show decide (V.int (t.length:Int)=V.int n)=decide ((t.length:Int)=n) from mh.mpr {λe=>by injection e,λe=>by rw[e]}];exact q3 H3 F
  have sA:=d.trans s2;refine Zb tt (ka.refl H2) λH3 F=>cb (λhd=>?_) (λhd=>?_)
  .have I:Yd z.length z=ia:=by
    rw[j,u,oa,aam];rintro⟨h1,h2,h3⟩;have J:t=(z.drop (p+1)).take n.toNat:=by
     rw[<-hT];have L:=Ky z (p+1) (p+1+n.toNat);rw[show(((p+1:Nat):Nat):Int)=(p:Int)+1 by omega,show(((p+1+n.toNat:Nat)):Int)=(p:Int)+1+n by omega] at L;rw[L,ly]
     congr 1
     omega
    have el:(t.length:Int)=n:=by
     rw[J,rd];omega
    rw[el,J,h3] at hd;simp at hd
   have:=k H3 (sA.trans F);rw[I] at this;exact this
  .have hd1:(t.length:Int)=n/\Ae t=da:=by
    rw[xS,aan] at hd;exact{by simpa using hd.1,by simpa using hd.2}
   obtain⟨hlen,M⟩:=hd1;have hn0:0<=n:=by omega
   have J:t=(z.drop (p+1)).take n.toNat:=by
    rw[<-hT];have L:=Ky z (p+1) (p+1+n.toNat);rw[show(((p+1:Nat):Nat):Int)=(p:Int)+1 by omega,show(((p+1+n.toNat:Nat)):Int)=(p:Int)+1+n by omega] at L;rw[L,ly]
    congr 1
    omega
   have hle:n.toNat<=(z.drop (p+1)).length:=by
    have e6:=wc He J;rw[rd] at e6;omega
   rw[qa {hn0,hle,by rw[<-J];exact M},<-J] at u;obtain⟨ms,O,R⟩:=h.same (s2.trans F);have htn:=Uz (II M);refine{_,rfl,.inl {rfl,_,Ia.of O},_,rfl,q,t,rfl,F _ _ hq,C,λH4 m4 S s4 T hm4 tx4=>?_};have U:Paired (λm c=>m≠l/\Ai H4 m c) ms (c.map Pf):=Paired.wh R λm c q=>{q.1,q.2.same s4};have W:=s4 _ _ O;have hml:ms.length=c.length:=by rw[bf R,Na]
   have tN:Wb H4 S (Pf t):=by
    refine Bf.nat ?_;unfold Pf;have e7:=BD 47 (t.map Cm);rw[show(t.map Cm).map (λn=>((n:Nat):Int))=t from htn.symm] at e7;show Bf H4 S ((Za 47 (t.map Cm)).map λp=>p.map λn=>((n:Nat):Int));rw[<-e7];exact tx4
   have Y:m4≠l:=λe=>by
    rw[e,O] at T;cases T
   have Z:Ai H4 m4 (Pf t):=by
    have h96:=KO (t:=t) (by rw[M];exact mi);exact iA hm4 tN (by rw[Na];exact h96)
   refine{l,_,_,rfl,rfl,W,?_,?_}
   .rw[Na,hml];exact Qi (show c.length<=100000 by omega) (by decide)
   .refine{_,rfl,_,_,rfl,rfl,_,rfl,_,_,rfl,rfl,p+1+n.toNat,c++[t],ba (.int n),ba (.ref q),?_,Zg (sA.trans (F.trans s4)) hl,by omega,by omega,by rw[wd];simp;omega,?_,?_}
    .show [_,_,ba (V.int ((p:Int)+1+n)),_,_]=_;rw[show(((p+1+n.toNat:Nat)):Int)=(p:Int)+1+n by omega]
    .rw[vf];exact zk.add W U Z Y
    .rw[j,u];cases Yd (z.length - (p+1+n.toNat)) (z.drop (p+1+n.toNat)) with
     |none=>rfl
     |some us=>simp
 .have hpz:p=z.length:=by
   have:¬(p:Int)< (z.length:Int):=λq=>hc (Xc q);omega
  subst hpz;rw[yS,zS] at j;have j:Yd z.length z=ba c:=by rw[j];simp[Yd]
  refine{_,rfl,?_};have:=k H1 d;rw[j] at this;exact this l h
noncomputable def gj(n:Text)(a:List (List Text)):Bool:=a.any λps=>allM (Za 47 n) ps
theorem zZ(c:α->Bool){l:List α}{x:α}(h:l[i]?=ba x):(l.take (i+1)).any c=((l.take i).any c||c x):=by
 rw[ni,h];simp
inductive vx(vs:List V)(H:Hp)(Q:VK)(X3:XK):Prop|mk:∀a l n pss,vs=[.ref a,.ref l]->H a=ba (.tup (txt n))->n.length<=96->zk H l pss->(∀H',ka H H'->Q (.bl (gj n pss)) H')->vx vs H Q X3
theorem D6(G:GF K mg "matches_one_of" rM ["name","patterns"])(b:Aa P w K mg base 1 "parts_of" Mo)(c:Aa P w K mg base 3 "parts_match" Fw):Aa P w K mg base 4 "matches_one_of" vx:=by
 refine G.go (N:=["name","patterns","parts","pattern"]) ?_;rintro f d A g s H vs Q E nd h X D ⟨a,l,n,j,rfl,o,p,r,k⟩;refine⟨_,Ga (nc (i:=2) (Ya b h (la (pv 0) pa)))
  (Ga (Ji qi rfl (Ug (pv 1)) (Md (i:=3)) (Ca (Lb (Nd (Ya c h (la (pv 2) (la (pv 3) pa)))) (Ca (Oa xi)) Ob)))
  (Ca (Oa xi))),?_⟩
 refine{_,rfl,a,n,rfl,o,by omega,λt m u y hm tx=>?_};have z:=iA hm tx p;obtain⟨ms,B,C⟩:=r;have F:=bf C;refine⟨_,rfl,l,rfl,{_,Ia.of (y _ _ B)},sk (Wg (K:=K) (a:=l) (ms.map V.ref)) (λi I J=>∃v,I=[ba (.ref a),ba (.ref l),ba (.ref m),v]/\ka t J/\gj n (j.take i)=ma)
  {ia,rfl,ka.refl t,rfl} (λi I J _ ⟨_,_,L,_⟩=>Ia.of (L _ _ (y _ _ B))) ?_ ?_⟩
 .rintro i x I M hi O ⟨v,rfl,L,R⟩;rw[Ac] at O;obtain⟨q,hq,rfl⟩:=Ie.mp O;obtain⟨S,T,_,U⟩:=xO C hq;have et:=zZ (λu=>allM (Za 47 n) u) T;have tt:Pb M (tB (me Fw [] E0 (Kb (Ua 2) (Kb (Ua 3) Xb)))) [ba (.ref a),ba (.ref l),ba (.ref m),ba (.ref q)] (allM (Za 47 n) S):=λW Q3 Y q3=>
   {_,rfl,_,rfl,m,q,_,S,rfl,z.same (L.trans Y),U.same (y.trans (L.trans Y)),λH4 s4=>{_,rfl,q3 H4 (Y.trans s4)}}
  show Jm _ _ _ _ _ _;refine Fz tt (ka.refl M) λW Y=>cb (λZ=>?_) (λZ=>?_)
  .have e:gj n j=da:=Ze.mpr {S,vd T,Z};show Q (.bl da) W;rw[<-e];exact k W (y.trans (L.trans Y))
  .refine{ba (.ref q),rfl,L.trans Y,?_};show(j.take (i+1)).any _=ma;rw[et,show(j.take i).any (λu=>allM (Za 47 n) u)=ma from R,ll];simpa using Z
 .rintro I M ⟨v,rfl,L,R⟩;rw[Na,F,Cg] at R;show Q (.bl ma) M;rw[<-R];exact k M (y.trans L)
theorem QW{p q:Text}(a:gb p=da)(hd:qd p q=da):Je q p≠[]/\(Je q p).length<=96:=by
 have b:=mq a;constructor
 .unfold Je;cases q with
  |nil=>exact Mg a
  |cons x r=>
   show p.drop ((x::r).length+1)≠[];intro e;unfold qd at hd;rw[show decide ((x::r)=[])=ma by simp,ll] at hd;have c:p.take ((x::r).length+1)=(x::r)++[47]:=Qe hd;have d:p=(x::r)++[47]:=by
    rw[<-Ph ((x::r).length+1) p,e,sj,c]
   rw[d] at a;have f:=dz a;rw[ot] at f;have:=f [] (by simp[Za])
   revert this
   decide
 .unfold Je;split
  .exact b
  .rw[ue];omega
theorem OK{p q:Text}(h:aroundOf ts p=ba q):q∈ts/\qd p q=da:=by
 unfold aroundOf at h;have:=oy h;rw[Kc] at this;exact{by simpa using this.1,this.2}
theorem uY(a:Small x){p:Text}:(namesOf x p).length<=1000/\∀n∈namesOf x p,n≠[]/\n.length<=96:=by
 unfold namesOf;constructor
 .rw[Na];exact Bc (xl _ _) a.n
 .intro n b;obtain⟨f,hf,rfl⟩:=Mb.mp b;obtain⟨c,d⟩:=Mc.mp hf;exact QW (a.path f c) (OK (Qe d)).2
noncomputable def Om(x:List Ent)(p:Text)(a b:List Ka):List Text:=((namesOf x p).filter λn=> !decide (n=Fi)&&gj n (a.map Pf)).filter λn=> !gj n (b.map Pf)
def Wn(x:List Ent)(p:Text)(y e:Ka)(r:List Int):Prop:=if xf p=ma then r=[-1] else match Yd y.length y,Yd e.length e with
 |some a,ba b=>if(Nc x).contains p=ma then r=[-7] else∃ts,ts.Perm (Om x p a b)/\Cj ts/\r=bh (Hd ts)
 |_,_=>r=[-10]
inductive XD(C:Addr)(vs:List V)(H:Hp)(Q:VK)(X3:XK):Prop|mk:∀tp d x a p b y c e,vs=[.ref tp,.ref a,.ref b,.ref c]->uc C H tp d x->Small x->H a=ba (.tup (txt p))->p.length<=100000->H b=ba (.tup (jd y))->y.length<=100000->H c=ba (.tup (jd e))->e.length<=100000->(∀H' l r,ka H H'->Wn x p y e r->H' l=ba (.lst (nums r))->Q (.ref l) H')->XD C vs H Q X3
structure pK(K:xa)(mg:Str->Option Value):Prop where
 PATH:bc mg "PATH" (.int (-1))
 PATTERN:bc mg "PATTERN" (.int (-10))
 PACKAGE:bc mg "PACKAGE" (.int (-7))
noncomputable abbrev NG:List Str:=["tree","package","patterns_row","excludes_row","patterns","excludes","names","name"]
theorem rW(G:GF K mg "glob_package" gB ["tree","package","patterns_row","excludes_row"])(T:pK K mg)(T2:Uk K mg)(h1:Aa P w K mg base 4 "is_empty_or_path" (spT xf))(h2:Aa P w K mg base 4 "patterns_in" rD)
  (h3:Aa P w K mg base 2 "packages_of" (Ko C)) (h4:Aa P w K mg base 4 "names_in_package" (EC C)) (h5:Aa P w K mg base 4 "matches_one_of" vx) (h6:Aa P w K mg base 1 "in_lines" Vn):
  Aa P w K mg base 5 "glob_package" (XD C):=by
 obtain⟨r,hr1,hr2⟩:=T2.BUILD;refine G.go (N:=NG) ?_;rintro f cdv A outer s H vs Q E nd hr X D ⟨tp,d,x,a,p,b,y,c,e,rfl,Tr,hx,ha,hzp,hb,hzy,hc,hze,k⟩;have hu:=hr.units;refine⟨_,Ga (Lb (Yf (Nd (Ya h1 hr (la (pv 1) pa)))) (Ca (Oa (ic (la (Wa T.PATH) pa)))) Ob)
  (Ga (Qs (i:=4) nd rfl (Dn rfl) (Ya h2 hr (la (pv 2) pa)))
  (Ga (Qs (i:=5) nd rfl (Dn rfl) (Ya h2 hr (la (pv 3) pa)))
  (Ga (Lb (PW.pt (vh (Ck (fB (pv 4))) (ij (Ck (fB (pv 5)))))) (Ca (Oa (ic (la (Wa T.PATTERN) pa)))) Ob)
  (Ga (Lb (fc (fD hu) (pv 1) (Ya h3 hr (la (pv 0) pa)) (by with_unfolding_all rfl)) (Ca (Oa (ic (la (Wa T.PACKAGE) pa)))) Ob)
  (Ga (Qp (i:=6) (own:=[("name",7)]) rfl nd rfl rfl (Cq rfl rfl rfl (by decide+kernel)) (Ug (Ya h4 hr (la (pv 0) (la (pv 1) pa)))) (Wf (N:=NG) (sc:=Qc gB) (by decide+kernel)) (λ_ _ _ _ _=>Md (i:=7))
   (λ_ _ _ _ _=>Pm (PW.pt (Er (fc (KJ (K:=K) rfl hu) (pv 7) (Wa hr1) (Yb _)) (ft (Nd (Ya h5 hr (la (pv 7) (la (pv 4) pa)))))))) (λ_ _ _ _ _=>pv 7))
  (Ca (Oa (Fc dj (ic (la Sb pa)) (Ya h6 hr (la (Cc (lK rfl) (by rfl) T2.sorted (by rfl) (la
   (Yh (own:=[("name",7)]) rfl nd (Ug (pv 6)) (Wf (N:=NG) (sc:=Qc gB) (by decide+kernel)) (λ_ _ _ _ _=>Md (i:=7))
    (λ_ _ _ _ _=>Pm (Yf (Nd (Ya h5 hr (la (pv 7) (la (pv 5) pa)))))) (λ_ _ _ _ _=>pv 7)) pa)) pa)))))))))),?_⟩
 refine Zb (Yj (g:=xf) 1 rfl ha) (ka.refl H) λH1 s1=>cb (λhc1=>?_) (λhc1=>?_)
 .exact{Lc,λl j=>k _ l [-1] (s1.trans (Qa j)) (by unfold Wn;rw[qa (by simpa using hc1)]) wa}
 have e1:¬xf p=ma:=by simpa using hc1
 have noP:∀m,ka H m->(Yd y.length y=ia\/Yd e.length e=ia)->∀l,m l=ia->Q (.ref l) (upd m l (.lst [.int (-10)])):=λm u hor l j=>by
  refine k _ l [-10] (u.trans (Qa j)) ?_ wa;unfold Wn;rw[oa e1];rcases hor with h|h
  .rw[h]
  .rw[h];cases Yd y.length y<;>rfl
 refine{_,rfl,b,y,rfl,s1 _ _ hb,hzy,λH2 s2=>?_};have B:=s1.trans s2;have tN:∀(i:Nat)(v:V)(σ:L2.St)(H0:Hp),σ[i]?=ba (ba v)->Pb H0 (tB (lP (Ua i))) σ (decide (v= .Tb)):=λi v σ H0 hσ m Q' u q'=>{_,hσ,_,rfl,q' m u};cases hy:Yd y.length y with
 |none=>
  refine{_,rfl,c,e,rfl,B _ _ hc,hze,λF s3=>?_};cases he:Yd e.length e with
  |none=>
   refine Zb (Pb.or (tN 4 _ _ F rfl) λ_=>tN 5 _ _ F rfl) (ka.refl F) λH4 s4=>cb (λ_=>?_) (λh=>absurd (by simp) h);exact{Lc,λl j=>noP H4 (B.trans (s3.trans s4)) (.inl hy) l j}
  |some ea=>
   intro l5 h5;refine Zb (Pb.or (tN 4 _ _ F rfl) λ_=>tN 5 _ _ F rfl) (ka.refl F) λH4 s4=>cb (λ_=>?_) (λh=>absurd (by simp) h);exact{Lc,λl j=>noP H4 (B.trans (s3.trans s4)) (.inl hy) l j}
 |some ya=>
  intro l4 hp4;refine{_,rfl,c,e,rfl,B _ _ hc,hze,λF s3=>?_};cases he:Yd e.length e with
  |none=>
   refine Zb (Pb.or (tN 4 _ _ F rfl) λ_=>tN 5 _ _ F rfl) (ka.refl F) λH4 s4=>cb (λ_=>?_) (λh=>absurd (by simp) h);exact{Lc,λl j=>noP H4 (B.trans (s3.trans s4)) (.inr he) l j}
  |some ea=>
   intro l5 hp5;refine Zb (Pb.or (tN 4 _ _ F rfl) λ_=>tN 5 _ _ F rfl) (ka.refl F) λH4 s4=>cb (λh=>absurd h (by simp)) (λ_=>?_);have s14:=B.trans (s3.trans s4);have hp4:=hp4.same (s3.trans s4);have hp5:=hp5.same s4;have erel:∀r,Wn x p y e r=if(Nc x).contains p=ma then r=[-7] else∃ts,ts.Perm (Om x p ya ea)/\Cj ts/\r=bh (Hd ts):=λr=>by
    unfold Wn;rw[oa e1,hy,he]
   have tpk:Pb H4 (Ed (Vc (UA K da) (Ua 1) (me (Ko C) [] E0 (Kb (Ua 0) Xb)))) [ba (.ref tp),ba (.ref a),ba (.ref b),ba (.ref c),ba (.ref l4),ba (.ref l5),ia,ia] (!(Nc x).contains p):=λH5 Q5 s5 q5=>by
    refine{_,rfl,_,rfl,tp,d,x,rfl,Tr.same (s14.trans s5),hx,λH6 l6 qs6 ts6 s6 hl60 hl6 tx6 I hpw=>?_};refine{a,p,l6,qs6,ts6,rfl,rfl,Ba.of ((s14.trans (s5.trans s6)) _ _ ha),Ia.of hl6,tx6,_,rfl,?_};have ec:ts6.contains p=(Nc x).contains p:=by
     rw[tf];simpa using I.mem_iff
    show Q5 (!ts6.contains p) H6;rw[ec];exact q5 H6 (s5.trans s6)
   refine Zb tpk (ka.refl H4) λH5 s5=>cb (λhc5=>?_) (λhc5=>?_)
   .refine{Lc,λl j=>k _ l [-7] (s14.trans (s5.trans (Qa j))) ?_ wa};rw[erel,qa (by simpa using hc5)]
   have e5:¬(Nc x).contains p=ma:=by simpa using hc5
   have s15:=s14.trans s5;obtain⟨nl,nok⟩:=uY hx (p:=p);refine{_,rfl,_,rfl,tp,d,x,a,p,rfl,Tr.same s15,hx,s15 _ _ ha,hzp,λH6 l6 qs6 s6 hl6 tx6=>?_};have hpl6:=tx6.len;refine⟨l6,rfl,{_,Ia.of hl6},λD hD=>Sm (Wg (qs6.map V.ref)) Wj ((namesOf x p).map λn=>if(!decide (n=Fi)&&gj n (ya.map Pf))=da then ba n else ia) (by rw[Na,Na,hpl6]) Bo (λm u=>Ia.of (u _ _ hl6)) hD
    (by rw[Na];exact Jd (by omega)) (λv=>rfl) (λi v o m hi J hv u kn ky hkn hky=>?_) (λacc m u h1' h2'=>?_)⟩
   .rw[Ac] at hv;obtain⟨q,hq,rfl⟩:=Ie.mp hv;obtain⟨n,L,hqn⟩:=Wb.get tx6 hq;rw[Ac,L] at J;have J:=Dd J;have M:=(nok n (vd L)).2;have O:=u _ _ hqn;have tt:Pb m (xw (Ed (Vc (Ip K) (Ua 7) (tC (.ref r)))) (tB (me vx [] E0 (Kb (Ua 7) (Kb (Ua 4) Xb))))) [ba (.ref tp),ba (.ref a),ba (.ref b),ba (.ref c),ba (.ref l4),ba (.ref l5),ia,ba (.ref q)] (!decide (n=Fi)&&gj n (ya.map Pf)):=by
     refine Pb.and (λH7 Q7 R q7=>{_,rfl,q,r,n,Fi,rfl,rfl,Ba.of (R _ _ O),hr2 H7,_,rfl,q7 H7 R}) λ_ H7 Q7 R q7=>?_;exact{_,rfl,_,rfl,q,l4,n,_,rfl,R _ _ O,M,hp4.same (s5.trans (s6.trans (u.trans R))),λH8 s8=>{_,rfl,q7 H8 (R.trans s8)}}
    refine tt m _ (ka.refl m) λH7 R=>cb (λS=>?_) (λS=>?_)
    .exact{_,rfl,hky _ n H7 (by rw[<-J];exact qa S) R {q,rfl,R _ _ O}}
    .exact hkn H7 (by rw[<-J];exact oa S) R
   .rw[Bs] at h2';obtain⟨ps7,e7,tx7⟩:=yn h2';rw[e7] at h1'
    generalize hF1:(namesOf x p).filter (λn=> !decide (n=Fi)&&gj n (ya.map Pf))=F1 at*
    have hF1m:∀n∈F1,n≠[]/\n.length<=96:=λn L=>by
     rw[<-hF1] at L;exact nok n (Mc.mp L).1
    have hF1l:F1.length<=1000:=by
     rw[<-hF1];exact Bc (xl _ _) nl
    have hpl7:=tx7.len;have s17:=s15.trans (s6.trans u);refine{Lc,λz hz=>?_};have U:=Qa (o:=HO.lst [V.int 0]) hz;refine⟨_,rfl,D,rfl,{_,Ia.of (U _ _ h1')},λD2 hD2=>Sm (Wg (ps7.map V.ref)) Wj (F1.map λn=>if(!gj n (ea.map Pf))=da then ba n else ia) (by rw[Na,Na,hpl7]) Bo (λW Y=>Ia.of (Y _ _ (U _ _ h1'))) hD2
     (by rw[Na];exact Jd (by omega)) (λv=>rfl) (λi v o W hi J hv Y kn ky hkn hky=>?_) (λacc W Y h1'' h2''=>?_)⟩
    .rw[Ac] at hv;obtain⟨q,hq,rfl⟩:=Ie.mp hv;obtain⟨n,L,hqn⟩:=Wb.get tx7 hq;rw[Ac,L] at J;have J:=Dd J;have M:=(hF1m n (vd L)).2;have O:=Y _ _ (U _ _ hqn);have tt:Pb W (Ol (tB (me vx [] E0 (Kb (Ua 7) (Kb (Ua 5) Xb))))) [ba (.ref tp),ba (.ref a),ba (.ref b),ba (.ref c),ba (.ref l4),ba (.ref l5),ba (.ref D),ba (.ref q)] (!gj n (ea.map Pf)):=
      Pb.not λH7 Q7 R q7=>{_,rfl,_,rfl,q,l5,n,_,rfl,R _ _ O,M,hp5.same (s5.trans (s6.trans (u.trans (U.trans (Y.trans R))))),λH8 s8=>{_,rfl,q7 H8 (R.trans s8)}}
     refine tt W _ (ka.refl W) λH7 R=>cb (λS=>?_) (λS=>?_)
     .exact{_,rfl,hky _ n H7 (by rw[<-J];exact qa S) R {q,rfl,R _ _ O}}
     .exact hkn H7 (by rw[<-J];exact oa S) R
    .rw[Bs] at h2'';obtain⟨ps8,e8,tx8⟩:=yn h2'';rw[e8] at h1'';have hgn:F1.filter (λn=> !gj n (ea.map Pf))=Om x p ya ea:=by rw[<-hF1];rfl
     rw[hgn] at tx8;have gm:∀n∈Om x p ya ea,n≠[]/\n.length<=96:=λn L=>by
      rw[<-hgn] at L;exact hF1m n (Mc.mp L).1
     have gl:(Om x p ya ea).length<=1000:=by
      rw[<-hgn];exact Bc (xl _ _) hF1l
     refine{D2,ps8,_,rfl,Ia.of h1'',tx8,λn L=>(gm n L).1,gl,λqs9 Z p9 I hpw tq9 hp9=>?_};have hts:(Hd Z).length<=1000000:=by
      have:=Ov Z λt ht=>En (gm t (I.mem_iff.mp ht)).2;have:=I.length_eq;omega
     have s9:=Qa (o:=HO.lst (qs9.map V.ref)) hp9;refine{p9,qs9,Z,rfl,wa,tq9.Xa (ka.Xa s9),hts,λH10 m10 s10 hm0 hm10=>?_};refine{z,m10,_,_,rfl,rfl,s10 _ _ (s9 _ _ (Y _ _ wa)),hm10,WA (by rw[gc];simp;omega),λw hw=>k _ w (bh (Hd Z)) (s17.trans (U.trans (Y.trans (s9.trans (s10.trans (Qa hw)))))) ?_ ?_}
     .rw[erel,oa e5];exact⟨Z,I,hpw,rfl⟩
     .rw[wa,Ym];rfl
structure LK(mg:Str->Option Value):Prop where
 CROSS:bc mg "CROSS" (.int (-9))
 ABSENT:bc mg "ABSENT" (.int (-5))
 PACKAGE:bc mg "PACKAGE" (.int (-7))
noncomputable def zf(t:Text):Text:=(t.take (t.findIdx (·==58))).drop 2
noncomputable def uh(t:Text):Text:=Eg (zf t) (t.drop (t.findIdx (·==58)+1))
noncomputable def lj(x:List Ent)(t:Text):List Int:=
 if(Qh t).isSome=ma then [-8] else if(Nc x).contains (zf t)=ma then [-7] else if gb (uh t)=ma then [-1] else if¬aroundOf (Nc x) (uh t)=ba (zf t) then [-9] else match look x (uh t) with
  |none=>[-5]
  |some _=>bh (uh t)
noncomputable abbrev NR:List Str:=["tree","label","colon","package","packages","path"]
theorem u0(G:GF K mg "resolve_label" cP ["tree","label"])(T:ig K mg C)(T2:Zr K mg)(T3:LK mg)(h1:Aa P w K mg base 5 "is_absolute_label" (spT λt=>(Qh t).isSome))(h2:Aa P w K mg base 2 "packages_of" (Ko C))
  (h3:Aa P w K mg base 1 "path_in_directory" (Hs K)) (h4:Aa P w K mg base 3 "is_path" (spT gb)) (c:Aa P w K mg base 3 "package_around" nt):
  Aa P w K mg base 6 "resolve_label" (Kj C λx t r=>r=lj x t):=by
 refine G.go (N:=NR) ?_;rintro f cdv A outer s H vs Q E nd h X D ⟨tp,d,x,a,t,rfl,Tr,hx,j,hzt,k⟩;have hu:=h.units;have hu1:=ei h;refine⟨_,Ga (Lb (Yf (Nd (Ya h1 h (la (pv 1) pa)))) (Ca (Oa (ic (la (Wa T2.LABEL) pa)))) Ob)
  (Ga (nc (i:=2) (oz uH lH eS DF (pv 1) (la (Wa T2.Qm) pa)))
  (Ga (nc (i:=3) (Oe Ff (pv 1) (Ud Sb) (Ud (pv 2))))
  (Ga (nc (i:=4) (Ya h2 h (la (pv 0) pa)))
  (Ga (Lb (fc (fD hu) (pv 3) (pv 4) (by with_unfolding_all rfl)) (Ca (Oa (ic (la (Wa T3.PACKAGE) pa)))) Ob)
  (Ga (nc (i:=5) (Ya h3 h (la (pv 3) (la (Oe Ff (pv 1) (Ud (Fc We (pv 2) Sb)) Gg) pa))))
  (Ga (Lb (Yf (Nd (Ya h4 h (la (pv 5) pa)))) (Ca (Oa (ic (la (Wa T2.PATH) pa)))) Ob)
  (Ga (Lb (fc (m6 (K:=K) rfl hu) (Ya c h (la (pv 4) (la (pv 5) pa))) (pv 3) (Yb _)) (Ca (Oa (ic (la (Wa T3.CROSS) pa)))) Ob)
  (Ga (Lb (Ck (Rt hu1 (pv 5) (vc (pv 0) rfl))) (Ca (Oa (ic (la (Wa T3.ABSENT) pa)))) Ob)
  (Ca (Oa (Fc dj (ic (la Sb pa)) (Ij As (by rfl) T2.list (by rfl) (la (pv 5) pa))))))))))))),?_⟩
 have o:∀(H1:Hp)(n:Int),ka H H1->lj x t=[n]->jo (Kb (tC (.int n)) Xb) [] H1 Q:=λH1 n p e=>
  {Lc,λl hl=>k _ l _ (p.trans (Qa hl)) rfl (by rw[e,wa];rfl)}
 refine Zb (Yj (g:=λt=>(Qh t).isSome) 1 rfl j) (ka.refl H) λH1 p=>cb (λv=>?_) (λv=>?_)
 .exact o H1 (-8) p (by unfold lj;rw[qa (by simpa using v)])
 have y:¬(Qh t).isSome=ma:=by simpa using v
 have hcol:58∈t:=by
  have:=(Zy t).1;rw[show(Qh t).isSome=da by cases hh:(Qh t).isSome with|true=>rfl|false=>exact absurd hh y] at this;split at this
  .cases this
  .rename_i hh
   simp at hh;exact hh.2
 refine{_,rfl,{a,_,rfl,p _ _ j},a,t,58,rfl,rfl,p _ _ j,hcol,?_};refine{_,rfl,_,rfl,_,rfl,_,rfl,a,t,rfl,p _ _ j,λz H2 s2 B=>?_};have ep:cut t (ba 2) (ba ((t.findIdx (·==58):Nat):Int))=zf t:=mv t 2 _;rw[ep] at B;have s12:=p.trans s2;obtain⟨b1,b2⟩:=eA hx;refine{_,rfl,tp,d,x,rfl,Tr.same s12,hx,λH3 l4 qs ts s3 hl0 hl4 tx F hpw=>?_};have I:∀t,t∈ts↔t∈Nc x:=λt=>F.mem_iff;have s13:=s12.trans s3;have ec:ts.contains (zf t)=(Nc x).contains (zf t):=by
  rw[tf];simpa using I _
 have t1:Pb H3 (Ed (Vc (UA K da) (Ua 3) (Ua 4))) [ba (.ref tp),ba (.ref a),ba (.int ((t.findIdx (·==58):Nat):Int)),ba (.ref z),ba (.ref l4),ia] (!(Nc x).contains (zf t)):=λH4 Q4 J q4=>by
  refine{_,rfl,_,rfl,z,zf t,l4,qs,ts,rfl,rfl,Ba.of (J _ _ (s3 _ _ B)),Ia.of (J _ _ hl4),tx.Xa (ka.Xa J),_,rfl,?_};show Q4 (!ts.contains (zf t)) H4;rw[ec];exact q4 H4 J
 refine Zb t1 (ka.refl H3) λH4 J=>cb (λL=>?_) (λL=>?_)
 .exact o H4 (-7) (s13.trans J) (by unfold lj;rw[oa y,qa (by simpa using L)])
 have e4:¬(Nc x).contains (zf t)=ma:=by simpa using L
 have s14:=s13.trans J;have hp4:=J _ _ (s3 _ _ B);have hzk:(zf t).length<=100000:=by
  unfold zf;rw[ue,rd];omega
 refine{_,rfl,_,rfl,_,rfl,_,_,rfl,rfl,_,rfl,a,t,rfl,s14 _ _ j,λp5 H5 s5 M=>?_};have en:cut t (ba (((t.findIdx (·==58):Nat):Int)+1)) ia=t.drop (t.findIdx (·==58)+1):=Km t (t.findIdx (·==58)+1);rw[en] at M;refine{z,p5,zf t,_,rfl,s5 _ _ hp4,Ba.of M,hzk,by rw[ue];omega,λH6 p6 s6 _ O=>?_};have O:H6 p6=ba (.tup (txt (uh t))):=O M;have R:=s14.trans (s5.trans s6);refine Zb (Yj (g:=gb) 5 rfl O) (ka.refl H6) λH7 S=>cb (λU=>?_) (λU=>?_)
 .exact o H7 (-1) (R.trans S) (by unfold lj;rw[oa y,oa e4,qa (by simpa using U)])
 have e7:¬gb (uh t)=ma:=by simpa using U
 have hlen96:(uh t).length<=96:=mq (by simpa using U);have V:ka H3 H7:=J.trans (s5.trans (s6.trans S));have t8:Pb H7 (Ed (Vc (VC K) (me nt [] E0 (Kb (Ua 4) (Kb (Ua 5) Xb))) (Ua 3))) [ba (.ref tp),ba (.ref a),ba (.int ((t.findIdx (·==58):Nat):Int)),ba (.ref z),ba (.ref l4),ba (.ref p6)] (!decide (aroundOf (Nc x) (uh t)=ba (zf t))):=λH8 Q8 W q8=>by
  refine{_,rfl,_,rfl,l4,p6,qs,ts,_,rfl,W _ _ (V _ _ hl4),(tx.Xa (ka.Xa V)).Xa (ka.Xa W),by rw[F.length_eq];exact b1,λt ht=>b2 t ((I t).mp ht),W _ _ (S _ _ O),λH9 s9=>?_};rw[lM I];have hp9:=s9 _ _ (W _ _ (V _ _ (s3 _ _ B)));cases he:aroundOf (Nc x) (uh t) with
  |none=>
   refine{_,rfl,z,zf t,rfl,Ba.of hp9,.inl {rfl,_,rfl,?_}};rw[he] at q8;exact q8 H9 (W.trans s9)
  |some u=>
   intro q9 hq9;refine{_,rfl,z,zf t,rfl,Ba.of hp9,.inr {q9,u,rfl,Ba.of hq9,_,rfl,?_}};rw[he,show decide (ba u=ba (zf t))=decide (u=zf t) from mh.mpr {Dd,wc ba}] at q8;exact q8 H9 (W.trans s9)
 refine Zb t8 (ka.refl H7) λH8 W=>cb (λY=>?_) (λY=>?_)
 .exact o H8 (-9) (R.trans (S.trans W)) (by unfold lj;rw[oa y,oa e4,oa e7,qa (by simpa using Y)])
 have e8:¬¬aroundOf (Nc x) (uh t)=ba (zf t):=by simpa using Y
 have Z:=R.trans (S.trans W);obtain⟨⟨dx,hpt⟩,kvs,hd1,en1⟩:=Tr.same Z;have hp8:=W _ _ (S _ _ O);have hkey:H8 p6=ba (.tup ((key (uh t)).map kV)):=by rw[Xe];exact hp8
 refine{_,rfl,_,rfl,tp,C,dx,ff d,.ref d,rfl,hpt,T.cl,T.nF,Me d,d,_,rfl,yg.tt (k:=key (uh t)) hd1 hkey,_,rfl,?_};rcases Mj (q:=uh t) en1 with⟨c,h6⟩ |⟨b,b5,c,h6,h7⟩
 .rw[h6];exact wg (o H8 (-5) Z (by unfold lj;rw[oa y,oa e4,oa e7,oa e8,c]))
 .rw[h6];refine bj {Lc,λm hm=>{_,rfl,p6,_,rfl,.inr (Ba.of (Qa hm _ _ hp8)),λn hn=>?_}};have nmn:m≠n:=de wa hn;refine{m,n,_,_,rfl,rfl,by rw[Ja nmn];exact wa,wa,Xf (by rw[gc];simp;omega),λr h=>k _ r _ (Z.trans ((Qa hm).trans ((Qa hn).trans (Qa h)))) rfl ?_};rw[wa];have:lj x t=bh (uh t):=by unfold lj;rw[oa y,oa e4,oa e7,oa e8,c]
  rw[this,Ym];rfl
inductive GM(K:xa)(C:Addr)(m qual:Str)(st:za)(ps:List Str):Prop|mk:∀f fd,Xj K m qual st f fd->Binds K fd ps []->Vw K C m f->GM K C m qual st ps
inductive GI(K:xa)(mg:Str->Option Value)(cn:Str)(C:Addr)(qual:Str)(st:za)(ps:List Str):Prop|mk:∀f fd,Xj K "__init__" qual st f fd->Binds K fd ps []->Mk K C f->mg cn=ba (.ref C)->GI K mg cn C qual st ps
inductive Ue(P:Va)(w:Pa)(K:xa)(mg:Str->Option Value)(base:Heap)(k:Nat)(C:Addr)(m:Str)(ps:List Str)(sp:Sp):Prop|mk:∀f fd,Vw K C m f->Binds K fd ps []->Te P w K mg base Ci k f fd ps sp->Ue P w K mg base k C m ps sp
inductive Bh(P:Va)(w:Pa)(K:xa)(mg:Str->Option Value)(base:Heap)(k:Nat)(cn:Str)(C:Addr)(ps:List Str)(sp:Sp):Prop|mk:∀f fd,Mk K C f->Binds K fd ps []->mg cn=ba (.ref C)->Te P w K mg base Ci k f fd ps sp->Bh P w K mg base k cn C ps sp
theorem xA{x:Str}{sp:Sp}{p pos:La}(h:Bh X.prog X.w X.K X.mg X.base k x C ps sp)(a:Ad (k+1) X.A)(b:autoParam (Gl X x) ZQ0._auto_1)(c:autoParam ((x==("__debug__":Str))=ma) ZQ1._auto_1):
  PE X (.Call (.Name x p) [] [] pos) (Tn C sp [] E0 Xb):=by
 obtain⟨f,d,e,g,i,j⟩:=h;exact b4 e j a b i g .nil nz c
theorem aK{x:Str}{sp:Sp}{p pos:La}{es:List ua}{t:TA}(h:Bh X.prog X.w X.K X.mg X.base k x C ps sp)(a:Ad (k+1) X.A)(b:PA X (e::es) t)(c:autoParam (Gl X x) ZQ0._auto_1)
  (d:autoParam ((x==("__debug__":Str))=ma) ZQ1._auto_1) (g:autoParam (Jc (e::es) X.env=(ma,Ic e X.env)::Jc es X.env) ZQ0._auto_1) (i:autoParam ((Ye pos (Jc es X.env)).any (·.1)=ma) ZQ0._auto_1):
  PE X (.Call (.Name x p) (e::es) [] pos) (Tn C sp [] E0 t):=by
 obtain⟨f,j,l,m,n,o⟩:=h;exact V5 l o a c n m .nil nz b d g i
theorem Of{t:TE}{r:TS}{D:Ends}(h:t σ H λv H'=>r D (σ.set i (ba v)) H'):yo (Co t (Le i)) r D σ H:=h
inductive jq(C:Addr)(vs:List V)(H:Hp)(Q:VK)(X3:XK):Prop|mk:∀(p dx:Addr),vs=[.ref p]->H p=ba (.ins C dx [])->(∀(H':Hp)(d:Addr),H d=ia->uc C H' p d []->(∀b o,H b=ba o->b≠p->H' b=ba o)->Q .Tb H')->jq C vs H Q X3
theorem R0(G:GI K mg "Tree" C "Tree.__init__" WL ["self"])(T:ig K mg C):Bh P w K mg base 1 "Tree" C ["self"] (jq C):=by
 obtain⟨f,a,G,c,g,h⟩:=G;refine{f,a,g,c,h,G.go (N:=["self"]) ?_};rintro i A j s H l Q E m n X D ⟨p,q,rfl,r,k⟩;refine{_,Ca (Rh (pv 0) cE rfl),?_};intro d hd;have t:p≠d:=de r hd;refine{_,rfl,p,C,q,[],rfl,by rw[Ja t];exact r,T.cl,T.nF,(by show 0< 1000;decide),?_};refine k _ d hd {⟨q,wa⟩,[],by rw[Ja (Gc t)];exact wa,.nil} λb o e c=>?_;rw[Ja c,Ja (de e hd)];exact e
theorem wG{Q:VK}(k:∀(H':Hp)(p d:Addr),ka H H'->H p=ia->H d=ia->uc C H' p d []->Q (.ref p) H'):Tn C (jq C) [] E0 Xb σ H Q:=by
 intro x a b c f;refine{x,a,rfl,wa,λH' d hd T g=>{rfl,k H' x d (ka.made b c g) b ?_ T}};have h:d≠x:=λe=>by rw[e,wa] at hd;cases hd
 rw[Ja h] at hd;have i:d≠a:=λe=>by rw[e,wa] at hd;cases hd
 rw[Ja i] at hd;exact hd
inductive Sy(C:Addr)(vs:List V)(H:Hp)(Q:VK)(X3:XK):Prop|mk:∀tp d x,vs=[.ref tp]->uc C H tp d x->Small x->(∀(H':Hp)(p e:Addr),ka H H'->H p=ia->H e=ia->uc C H' p e x->Q (.ref p) H')->Sy C vs H Q X3
theorem Y6(G:GF K mg "copy_of" WM ["tree"])(T:ig K mg C)(h1:Bh P w K mg base 1 "Tree" C ["self"] (jq C)):Aa P w K mg base 3 "copy_of" (Sy C):=by
 refine G.go (N:=["tree","copied","path"]) ?_;rintro f cdv A outer s H vs Q E nd hr X D ⟨a,d,x,rfl,Tr,hx,k⟩;have hu:=hr.units;have c:=ei hr;refine⟨_,Ga (nc (i:=1) (xA h1 hr))
  (Ga (mw (Ji qi rfl (Um (vc (pv 0) rfl)) (Md (i:=2))
   (Ca (Cr c (vc (pv 1) rfl) (pv 2) (qk c (vc (pv 0) rfl) (pv 2) (λ_ _=>rfl)) rfl))))
  (Ca (Oa (pv 1)))),?_⟩
 refine Of (wG λH0 g e s0 h j TC=>?_);obtain⟨⟨dx,hp⟩,l,hd,en⟩:=Tr;obtain⟨⟨dc,m⟩,kv0,n,en0⟩:=TC;have o:a≠d:=Vb hp hd;have p:e≠d:=λz=>by rw[z,hd] at j;cases j
 have r:g≠d:=λz=>by rw[z,hd] at h;cases h
 have hce:g≠e:=Vb m n;have t:l.length=x.length:=bf en;refine{d,.dT l,s0 _ _ hd,trivial,λod=>?_};refine{_,rfl,a,C,dx,ff d,.ref d,rfl,by rw[Ja o];exact s0 _ _ hp,T.cl,T.nF,Me d,d,od,rfl,.inr {l,wa,?_}};refine sk (qx l) (λi B F=>∃v,B=[ba (.ref a),ba (.ref g),v]/\(∀b u,H b=ba u->b≠d->F b=ba u)/\F d=ba (.qc od (.dT l))/\F g=ba (.ins C dc (ff e))/\DictAt F e (x.take i))
  {ia,rfl,λb u I J=>by rw[Ja J];exact s0 _ _ I,wa,by rw[Ja r];exact m,kv0,by rw[Ja p];exact n,by cases en0;exact .nil} (λi B F _ ⟨_,_,_,h4,_⟩=>h4) ?_ ?_
 .rintro i y B F hi ⟨kk,v,q,L,rfl,hq⟩ ⟨v0,rfl,M,O,R,D4⟩;obtain⟨f,hf,ek,b1,rfl,hb1⟩:=Pr en L;rw[ek,Xe] at hq;have tH:Fe H F:=λb xs I=>M b _ I (Vb I hd);have hp':=M _ _ hp o;have hmem:f∈x:=vd hf;have S:jf l (key f.1)=ba (.ref b1):=by
   have U:(l.map (·.1)).Nodup:=by
    have e1:l.map (·.1)=(x.map (·.1)).map key:=pG en;rw[e1];exact BE hx.nd
   have:=BF U L;rw[ek] at this;exact this
  obtain⟨V,W,Y⟩:=D4;have hl2:V.length< sizeLine:=by
   have:V.length=(x.take i).length:=bf Y;rw[this];exact Jd (Bc (by rw[rd];exact MG _ _) hx.n)
  refine{_,rfl,a,C,dx,ff d,.ref d,rfl,hp',T.cl,T.nF,Me d,_,rfl,d,.ref b1,rfl,.inr {l,key f.1,q,.inr ⟨od,O⟩,rfl,by rw[Xe];exact hq,S.symm},?_};refine{_,rfl,g,C,dc,ff e,.ref e,rfl,R,T.cl,T.nF,Me e,_,rfl,e,_,rfl,ej.tt (k:=key f.1) W (by rw[Xe];exact hq) hl2,?_};have t5:Fe F (upd F e (.dT (putK V (key f.1) (.ref b1)))):=λb ys e5=>by
   rw[Ja (Vb e5 W)];exact e5
  refine{ba (.ref q),rfl,λb u I J=>?_,?_,?_,?_}
  .rw[Ja (λz=>by rw[z,j] at I;cases I)];exact M b u I J
  .rw[Ja (Gc p)];exact O
  .rw[Ja hce];exact R
  .refine{_,wa,?_};have et:x.take (i+1)=x.take i++[f]:=by rw[ni,hf];rfl
   have hnk:f.1∉(x.take i).map (·.1):=jQ hx.nd hf;rw[et,<-jJ (d:=f.2) hnk];exact qw (Y.Xa t5) (t5 _ _ (tH _ _ hb1))
 .rintro B F ⟨v0,rfl,M,O,R,V,W,Y⟩;rw[t,Cg] at Y;refine{O,_,rfl,k _ g e (λb u I=>?_) h j {{dc,by rw[Ja r];exact R},V,by rw[Ja p];exact W,Y.Xa (gv O)}};by_cases Z:b=d
  .subst Z;rw[wa,<-hd];exact I
  .rw[Ja Z];exact M b u I Z
end Tl
namespace HT
theorem iW{o:Obj}{es:Array fb}{ep:Nat}(a:(d==Lh)=ma)(b:s.heap.get? d=ba o)(c:o.ExactDict)(e:o.data= .dict es ep)(f:(es.size:Int)< 2^63)
  (h:Q (.int es.size (s.toks+1)) {s with toks:=s.toks+1+1}):ra (Ea prog w) A (call (.builtin "len") [.ref d]) Q E s:=by
 have g:s.TypeIs (.ref d) "dict":=⟨o,b,c.1⟩;refine gS kind_len plain_len entry_len (args_len1 _) ?_;unfold Builtin.«len»;refine wpAny_bind (m:=oneArg "len" _) (wpAny_pure ?_);refine wpAny_bind (m:=callSpecial? (.ref d) (uf "__len__")) (qm (name:=uf "__len__") g aao (Rg aao g F.entry_dict_len ?_ (F.args_dict_len_1 _)));show ra _ _ (dictSize d>>=_) _ _ s;unfold dictSize;refine wpAny_bind (wpAny_bind (mu b e (wpAny_pure ?_)));show ra _ _ (vj.Dict.pendingCount d>>=_) _ _ s;refine wpAny_bind (wpAny_pendingCount_other a (wpAny_ret_mkInt ?_));rw[show((es.size:Nat):Int)+((0:Nat):Int)=((es.size:Nat):Int) by omega];show ra _ _ _ _ _ {s with toks:=s.toks+1};refine wpAny_bind (ng (wpAny_pure (wpAny_bind (jr ?_))));show ra _ _ (if((es.size:Nat):Int)< 0 then _ else _) _ _ _;rw[oa (by omega)];show ra _ _ (if((es.size:Nat):Int)>=2^63 then _ else _) _ _ _;rw[oa (by omega)];exact wpAny_bind (wpAny_mkInt (wpAny_pure {_,rfl,h}))
end HT
namespace Tl
noncomputable def hf(tp kd:Addr):List (Str×V):=Bd "kept" (.ref kd) (Bd "tree" (.ref tp) [])
theorem Pz(a kd:Addr):(hf a kd).lookup ("tree":Str)=ba (.ref a):=by
 unfold hf;rw[Ah,oa (by decide),Ah,qa rfl]
theorem Uv(a kd:Addr):(hf a kd).lookup ("kept":Str)=ba (.ref kd):=by
 unfold hf;rw[Ah,qa rfl]
theorem UW(a kd b:Addr):Bd "tree" (.ref b) (hf a kd)=hf b kd:=by
 show(if("tree":Str)="tree" then _ else _)=_;rw[qa rfl];rfl
theorem nJ(a kd d:Addr):ff d≠hf a kd:=by
 intro e;have b:(ff d).length=1:=rfl;have c:(hf a kd).length=2:=rfl;have:=wc He e;omega
abbrev Cb:=Int×List Ent
def Ik(C:Addr)(H:Hp)(tp d:Addr)(kvs:List (Key×V))(ks:List Cb):Prop:=Paired (λa e=>a.1=(Ce e.1:Key)/\∃q dq,a.2=V.ref q/\q≠tp/\dq≠d/\uc C H q dq e.2/\Small e.2) kvs ks
def Xs(ks:List Cb):Prop:=(ks.map (·.1)).Nodup/\∀e∈ks,0<=e.1/\e.1< 4
structure Nf(C CH:Addr)(H:Hp)(hp tp d kd:Addr)(x:List Ent)(ks:List Cb):Prop where
 ins:∃dx,H hp=ba (.ins CH dx (hf tp kd))
 tree:uc C H tp d x
 sm:Small x
 kept:∃kvs,H kd=ba (.dK kvs)/\Ik C H tp d kvs ks
 Bk:Xs ks
def wF(H H':Hp)(hp tp d kd:Addr):Prop:=∀b u,H b=ba u->b≠hp->b≠tp->b≠d->b≠kd->H' b=ba u
noncomputable def jj(ks:List Cb)(k:Int):Option (List Ent):=(ks.find? λe=>decide (e.1=k)).map (·.2)
noncomputable def Sn(ks:List Cb)(k:Int)(x:List Ent):List Cb:=if(ks.any λe=>decide (e.1=k))=da then ks.map (λe=>if e.1=k then(e.1,x) else e) else ks++[(k,x)]
theorem OC{a b:Int}:(Ce a:Key)=Ce b↔a=b:={λe=>by injection e,λe=>by rw[e]}
theorem mD{a:Addr}{k:Int}:∀{kvs:List (Key×V)}{ks:List Cb},Ik C H a d kvs ks->(jj ks k=ia/\jf kvs (Ce k:Key)=ia)\/∃x q dq,jj ks k=ba x/\jf kvs (Ce k:Key)=ba (.ref q)/\q≠a/\dq≠d/\uc C H q dq x/\Small x
 |_,_,.nil=> .inl ⟨rfl,rfl⟩
 |kv::kvs,e::ks,.cons ⟨b,q,dq,c,f,g,h,i⟩ r=>by
  by_cases j:e.1=k
  .refine .inr {e.2,q,dq,?_,?_,f,g,h,i}
   .unfold jj;rw[qH (by simpa using j)];rfl
   .rw[Ot (by rw[b,j]),c]
  .have l:¬kv.1=(Ce k:Key):=by rw[b,OC];exact j
   have m:jj (e::ks) k=jj ks k:=by
    unfold jj;rw[rH (by simpa using j)]
   rw[Tt l,m];exact mD r
theorem GL{a:Addr}{k:Int}:∀{kvs:List (Key×V)}{ks:List Cb},Ik C H a d kvs ks->(kvs.any λb=>decide (b.1=(Ce k:Key)))=ks.any λe=>decide (e.1=k)
 |_,_,.nil=>rfl
 |b::kvs,e::ks,.cons ⟨c,_⟩ r=>by
  rw[ji,ji,GL r]
  congr 1
  rw[c];exact mh.mpr OC
theorem LM{a:Addr}{k:Int}{q b:Addr}(c:q≠a)(f:b≠d)(g:uc C H q b x)(h:Small x):∀{kvs:List (Key×V)}{ks:List Cb},Ik C H a d kvs ks->
  Ik C H a d (kvs.map λi=>if i.1=(Ce k:Key) then(i.1,V.ref q) else i) (ks.map λe=>if e.1=k then(e.1,x) else e)
 |_,_,.nil=> .nil
 |i::kvs,e::ks,.cons ⟨j,l⟩ r=>by
  rw[Nb,Nb];refine .cons ?_ (LM c f g h r);by_cases m:e.1=k
  .rw[qa (by rw[j,m]),qa m];exact⟨j,q,b,rfl,c,f,g,h⟩
  .rw[oa (by rw[j,OC];exact m),oa m];exact⟨j,l⟩
theorem bX{a:Addr}{k:Int}{q b:Addr}{c:List (Key×V)}{e:List Cb}(h:Ik C H a d c e)(f:q≠a)(g:b≠d)(i:uc C H q b x)(j:Small x):Ik C H a d (putK c (Ce k:Key) (.ref q)) (Sn e k x):=by
 unfold putK Sn;rw[GL h];split
 .exact LM f g i j h
 .exact Yu h ⟨rfl,q,b,rfl,f,g,i,j⟩
theorem Ik.map{a:Hp}{b c d':Addr}{g:List (Key×V)}{i:List Cb}(h:Ik C H b d g i)(f:∀q dq x,q≠b->dq≠d->uc C H q dq x->q≠c/\dq≠d'/\uc C a q dq x):Ik C a c d' g i:=
 Paired.wh h λj e ⟨e1,q,dq,e2,h1,h2,h3,h4⟩=>{e1,q,dq,e2,(f q dq _ h1 h2 h3).1,(f q dq _ h1 h2 h3).2.1,(f q dq _ h1 h2 h3).2.2,h4}
theorem uc.at_{a:Hp}{p:Addr}(T:uc C H p d x)(b:∀u,H p=ba u->a p=ba u)(c:∀u,H d=ba u->a d=ba u)(t:Fe H a):uc C a p d x:=by
 obtain⟨⟨e,f⟩,g,hd,h⟩:=T;exact{{e,b _ f},g,c _ hd,h.Xa t}
theorem Nf.same{e:Addr}{f:Hp}{g i kd:Addr}{j:List Cb}(h:Nf C e H g i d kd x j)(s:ka H f):Nf C e f g i d kd x j:=by
 obtain⟨⟨k,l⟩,m,n,⟨o,p,r⟩,t⟩:=h;exact{{k,s _ _ l},m.same s,n,{o,s _ _ p,r.map λq u x a b c=>{a,b,c.same s}},t}
theorem ka.JA{a:Hp}(s:ka H a)(c e d kd:Addr):wF H a c e d kd:=λb u h _ _ _ _=>s b u h
theorem CM:cg X (.builtin "len") (λxs H Q=>∃a kvs,xs=[V.ref a]/\H a=ba (.dT kvs)/\Q (.int kvs.length) H):=by
 intro b s c H xs d Q I r h;obtain⟨a,kvs,rfl,e,q⟩:=h;obtain⟨u,rfl,f⟩:=vals1 r;cases f;obtain⟨g,i,xs,j,o,k,l,m,n,p,t,v⟩:=(show Cd X.prog X.w H s.heap a (.dT kvs) from I.vb a _ e);have w:k.size=kvs.length:=by
  have x:=wc He t;rw[Ng,Na] at x;rw[x];exact(bf j).symm
 refine HT.iW i m n p (by rw[w];rw[FG] at g;omega) ?_;rw[w];exact{.int kvs.length,H,I.tok _,{_,rfl},q}
structure Vt(K:xa)(mg:Str->Option Value)(CH:Addr):Prop where
 cl:dh K CH
 nT:Gh K CH "tree"
 nK:Gh K CH "kept"
 oY:bc mg "MOST_KEPT" (.int 4)
 KEPT:bc mg "KEPT" (.int (-12))
inductive rz(C CH:Addr)(vs:List V)(H:Hp)(Q:VK)(X3:XK):Prop|mk:∀(p dx:Addr),vs=[.ref p]->H p=ba (.ins CH dx [])->(∀(H':Hp)(tp d kd:Addr),Nf C CH H' p tp d kd [] []->(∀b o,H b=ba o->b≠p->H' b=ba o)->Q .Tb H')->rz C CH vs H Q X3
theorem IC:Small []:={by decide,λf h=>absurd h Al,λf h=>absurd h Al,Yq}
theorem gY:Xs []:={Yq,λe h=>absurd h Al}
theorem tP:∀{l m:List Int},l.Nodup->(∀x∈l,x∈m)->l.length<=m.length
 |[],m,_,_=>Pd _
 |x::l,m,a,h=>by
  obtain⟨b,c⟩:=tj.mp a;have d:=h x (by simp);have f:=tP (m:=m.erase x) c λy g=>by
   have i:y≠x:=λe=>b (e▸g);exact(List.mem_erase_of_ne i).mpr (h y (by simp[g]))
  rw[List.length_erase_of_mem d] at f;have:0< m.length:=List.length_pos_of_mem d;simp only[Oc];omega
theorem Xs.len{a:List Cb}(h:Xs a):a.length<=4:=by
 have:=tP (m:=[0,1,2,3]) h.1 λx b=>by
  obtain⟨e,c,rfl⟩:=Mb.mp b;have:=h.2 e c;simp;omega
 rw[Na] at this;exact this
theorem vZ{c:List Cb}(h:Xs c){k:Int}(d:0<=k)(f:k< 4):Xs (Sn c k x):=by
 unfold Sn;split
 .have e:(c.map λe=>if e.1=k then(e.1,x) else e).map (·.1)=c.map (·.1):=by
   rw[yd];refine Am λe _=>?_;show(if e.1=k then(e.1,x) else e).1=e.1;split<;>rfl
  refine{by rw[e];exact h.1,λg i=>?_};obtain⟨j,l,rfl⟩:=Mb.mp i;have:=h.2 j l;split<;>exact this
 .rename_i m
  refine{?_,λe n=>?_}
  .rw[vf,YB];refine{h.1,tj.mpr ⟨Al,Yq⟩,λa o b p e=>?_};obtain⟨j,l,rfl⟩:=Mb.mp o;have p:b=k:=by simpa using p
   exact m (Ze.mpr {j,l,by simp[e,p]})
  .rcases Pe.mp n with n|n
   .exact h.2 e n
   .have:e=(k,x):=by simpa using n
    rw[this];exact⟨d,f⟩
theorem zX{t:TE}{f:Str}{r:TS}{D:Ends}(h:t σ H λy H1=>Ua i σ H1 (qE K f {D with nx:=r D} σ y)):
  yo (qK K (Ua i) t f) r D σ H:=h
theorem aU{a:Addr}(G:GI K mg "Holder" a "Holder.__init__" dM ["self"])(T:Vt K mg a)(c:Bh P w K mg base 1 "Tree" C ["self"] (jq C)):Bh P w K mg base 3 "Holder" a ["self"] (rz C a):=by
 obtain⟨f,g,G,h,i,j⟩:=G;refine{f,g,i,h,j,G.go (N:=["self"]) ?_};rintro l A m s H n Q E q r X D ⟨p,t,rfl,v,k⟩;refine{_,Ga (Rh (pv 0) (xA c r) rfl) (Ca (Rh (pv 0) CU rfl)),?_};refine zX (wG λx y d z B hd F=>?_);have I:=z _ _ v;refine{_,rfl,p,a,t,[],rfl,I,T.cl,T.nT,(by show 0< 1000;decide),?_};intro J L;have M:y≠p:=λe=>by rw[e,v] at B;cases B
 have O:d≠p:=λe=>by rw[e,v] at hd;cases hd
 have R:J≠p:=λe=>by rw[e,wa] at L;cases L
 rw[Ja R] at L;refine{_,rfl,p,a,t,_,rfl,by rw[Ja (Gc R)];exact wa,T.cl,T.nK,(by show 1< 1000;decide),?_};have S:∀b o,x b=ba o->b≠p->upd (upd (upd x p (.ins a t (Bd "tree" (.ref y) []))) J (.dK [])) p (.ins a t (Bd "kept" (.ref J) (Bd "tree" (.ref y) []))) b=ba o:=λb o h U=>by
  rw[Ja U,Ja (de h L),Ja U];exact h
 refine k _ y d J {⟨t,wa⟩,?_,IC,{[],by rw[Ja R];exact wa,.nil},gY} λb o h U=>S b o (z _ _ h) U;refine F.at_ (λu V=>S _ _ V M) (λu V=>S _ _ V O) λb W h=>S b _ h (Vb h I)
theorem pZ{a:Addr}{Q:VK}(k:∀(H':Hp)(hp tp d kd:Addr),ka H H'->Nf C a H' hp tp d kd [] []->Q (.ref hp) H'):Tn a (rz C a) [] E0 Xb σ H Q:=by
 intro x b c e f;exact{x,b,rfl,wa,λH' tp d kd T g=>{rfl,k H' x tp d kd (ka.made c e g) T}}
inductive Oo(C CH:Addr)(g:List Ent->List Cb->Int->List Int->List Ent->List Cb->Prop)(vs:List V)(H:Hp)(Q:VK)(X3:XK):Prop|mk:∀hp tp d kd x ks k,vs=[.ref hp,.int k]->Nf C CH H hp tp d kd x ks->(∀H' l tp' d' r x' ks',wF H H' hp tp d kd->Nf C CH H' hp tp' d' kd x' ks'->g x ks k r x' ks'->H' l=ba (.lst (nums r))->Q (.ref l) H')->Oo C CH g vs H Q X3
def fx(x:List Ent)(ks:List Cb)(k:Int)(r:List Int)(x':List Ent)(ks':List Cb):Prop:=x'=x/\if k< 0\/4<=k then r=[-12]/\ks'=ks else r=[0]/\ks'=Sn ks k x
theorem F4{g:Addr}(G:GF K mg "keep_tree" NI ["holder","k"])(T:Vt K mg g)(h1:Aa P w K mg base 3 "copy_of" (Sy C)):Aa P w K mg base 4 "keep_tree" (Oo C g fx):=by
 refine G.go (N:=["holder","k"]) ?_;rintro f cdv A h s H vs Q E nd hr X D ⟨m,n,d,o,x,p,k,rfl,Hh,kk⟩;have hu1:=ei hr;refine⟨_,Ga (Lb (PW.pt (vh (fc Hr (pv 1) Sb (Yb _)) (ij (fc P0 (pv 1) (Wa T.oY) (Yb _))))) (Ca (Oa (ic (la (Wa T.KEPT) pa)))) Ob)
  (Ga (Cr hu1 (vc (pv 0) rfl) (pv 1) (Ya h1 hr (la (vc (pv 0) rfl) pa)) rfl)
  (Ca (Oa (ic (la Sb pa))))),?_⟩
 have tt:Pb H (sv (Ed (Vc (pf λi j=> .bl (decide (i< j))) (Ua 1) (tC (.int 0)))) (Ed (Vc (pf λi j=> .bl (decide (j<=i))) (Ua 1) (tC (.int 4))))) [ba (.ref m),ba (.int k)] (decide (k< 0)||decide (4<=k)):=
  Pb.or (λH' Q' s' q'=>{_,rfl,_,_,rfl,rfl,_,rfl,q' H' s'}) λ_ H' Q' s' q'=>{_,rfl,_,_,rfl,rfl,_,rfl,q' H' s'}
 refine Zb tt (ka.refl H) λH1 r=>cb (λhc=>?_) (λhc=>?_)
 .refine{Lc,λl t=>kk _ l n d [-12] x p (ka.JA (r.trans (Qa t)) _ _ _ _) (Hh.same (r.trans (Qa t))) {rfl,?_} wa};rw[qa (by simpa using hc)];exact⟨rfl,rfl⟩
 have e1:¬(k< 0\/4<=k):=by simp at hc;omega
 obtain⟨⟨dx,v⟩,Tr,sm,⟨z,hkd,hks⟩,B⟩:=Hh.same r;refine{_,rfl,m,g,dx,_,.ref n,rfl,v,T.cl,T.nT,Pz _ _,n,d,x,rfl,Tr,sm,λF I ce J L M Tc=>?_};have O:=J _ _ hkd;have R:Ik C F n d z p:=hks.map λq S x a b c=>{a,b,c.same J};have U:z.length< sizeLine:=by
  rw[bf R];exact Jd (by have:=B.len;omega)
 refine{_,rfl,m,g,dx,_,.ref o,rfl,J _ _ v,T.cl,T.nK,Uv _ _,_,rfl,o,_,rfl,ej.kk (k:=(Ce k:Key)) O U,?_};refine{Lc,λl t=>?_};have V:∀b u,F b=ba u->b≠o->upd (upd F o (.dK (putK z (Ce k:Key) (.ref I)))) l (.lst [.int 0]) b=ba u:=λb u W Y=>by
  rw[Ja (de (show upd F o _ b=ba u by rw[Ja Y];exact W) t),Ja Y];exact W
 have hlk:l≠o:=λe=>by rw[e,wa] at t;cases t
 obtain⟨⟨dt,ht⟩,kvt,Z,ent⟩:=Tr;have nT:∀q S y,uc C F q S y->q≠o/\S≠o:=λq S y c=>by
  obtain⟨⟨dq1,hq⟩,kv1,hdq,_⟩:=c;exact{Vb hq O,Vb hdq O}
 have tu:Fe F (upd (upd F o (.dK (putK z (Ce k:Key) (.ref I)))) l (.lst [.int 0])):=λb xs W=>V b _ W (Vb W O);have kT:∀q S y,uc C F q S y->uc C (upd (upd F o (.dK (putK z (Ce k:Key) (.ref I)))) l (.lst [.int 0])) q S y:=λq S y c=>
  c.at_ (λu hu=>V _ _ hu (nT q S y c).1) (λu hu=>V _ _ hu (nT q S y c).2) tu
 have Tr2:uc C F n d x:=uc.same {⟨dt,ht⟩,kvt,Z,ent} J;have n1:I≠n:=λe=>by rw[e,ht] at L;cases L
 have n2:ce≠d:=λe=>by rw[e,Z] at M;cases M
 have hnp:m≠o:=Vb (J _ _ v) O;refine kk _ l n d [0] x (Sn p k x) (λb u W _ _ _ h4=>V b u (J _ _ (r _ _ W)) h4) {{dx,V _ _ (J _ _ v) hnp},kT _ _ _ Tr2,sm,{_,by rw[Ja (Gc hlk)];exact wa,?_},vZ B (by omega) (by omega)} {rfl,?_} wa
 .exact bX (R.map λq S y a b c=>{a,b,kT q S y c}) n1 n2 (kT _ _ _ Tc) sm
 .rw[oa e1];exact⟨rfl,rfl⟩
noncomputable def df(x y:List Ent)(p:Text):List Text:=match look x p,look y p with
 |some a,ba b=>if a=b then [] else [[126,32]++p]
 |some _,ia=>[[45,32]++p]
 |none,ba _=>[[43,32]++p]
 |none,ia=>[]
def S8(x y:List Ent)(ts:List Text):Prop:=ts.Nodup/\∀p,p∈ts↔p∈x.map (·.1)\/p∈y.map (·.1)
inductive zx(x y:List Ent)(r:List Int):Prop|mk:∀ts,S8 x y ts->Cj ts->r=bh (Hd (ts.flatMap (df x y)))->zx x y r
inductive kz(C:Addr)(vs:List V)(H:Hp)(Q:VK)(X3:XK):Prop|mk:∀tp d x q dq y,vs=[.ref tp,.ref q]->uc C H tp d x->Small x->uc C H q dq y->Small y->(∀H' l r,ka H H'->zx x y r->H' l=ba (.lst (nums r))->Q (.ref l) H')->kz C vs H Q X3
def Pw(x:List Ent)(ks:List Cb)(k:Int)(r:List Int)(x':List Ent)(ks':List Cb):Prop:=ks'=ks/\match jj ks k with
 |none=>r=[-12]/\x'=x
 |some y=>r=[(y.length:Int)]/\x'=y
def Sv(x:List Ent)(ks:List Cb)(k:Int)(r:List Int)(x':List Ent)(ks':List Cb):Prop:=x'=x/\ks'=ks/\match jj ks k with
 |none=>r=[-12]
 |some y=>zx x y r
theorem A2{g:Addr}(G:GF K mg "back_to_kept" sL ["holder","k"])(T:Vt K mg g)(T2:ig K mg C)(Tl:mg "len"=ia)(h1:Aa P w K mg base 3 "copy_of" (Sy C)):Aa P w K mg base 4 "back_to_kept" (Oo C g Pw):=by
 refine G.go (N:=["holder","k"]) ?_;rintro f cdv A outer s H vs Q E nd hr X D ⟨h,tp,d,i,x,ks,k,rfl,Hh,kk⟩;have j:=ei hr;refine⟨_,Ga (Lb (Ck (Rt j (pv 1) (vc (pv 0) rfl))) (Ca (Oa (ic (la (Wa T.KEPT) pa)))) Ob)
  (Ga (Rh (pv 0) (Ya h1 hr (la (qk j (vc (pv 0) rfl) (pv 1) (λ_ _=>rfl)) pa)) rfl)
  (Ca (Oa (ic (la (Cc CM (by rfl) Tl Sd (la (vc (vc (pv 0) rfl) rfl) pa)) pa))))),?_⟩
 obtain⟨⟨m,n⟩,Tr,sm,⟨p,r,t⟩,Bk⟩:=id Hh;refine{_,rfl,_,rfl,h,g,m,_,.ref i,rfl,n,T.cl,T.nK,Uv _ _,i,_,rfl,yg.kk (k:=(Ce k:Key)) r,_,rfl,?_};rcases mD (k:=k) t with⟨h5,v⟩ |⟨y,q,z,h5,v,h7,h8,h9,B⟩
 .rw[v];refine wg {Lc,λl F=>kk _ l tp d [-12] x ks (ka.JA (Qa F) _ _ _ _) (Hh.same (Qa F)) {rfl,?_} wa};rw[h5];exact⟨rfl,rfl⟩
 .rw[v];refine bj {_,rfl,h,g,m,_,.ref i,rfl,n,T.cl,T.nK,Uv _ _,_,rfl,i,.ref q,rfl,.inl {p,(Ce k:Key),.inl r,rfl,v.symm},q,z,y,rfl,h9,B,λI J L M hcp hce Tc=>?_};refine{_,rfl,h,g,m,_,rfl,M _ _ n,T.cl,T.nT,(by show 2< 1000;decide),?_};have e0:Bd "tree" (V.ref J) (hf tp i)=hf J i:=UW tp i J;rw[e0];have O:=M _ _ n;have R:∀b u,I b=ba u->b≠h->upd I h (.ins g m (hf J i)) b=ba u:=λb u S hne=>by rw[Ja hne];exact S
  have nT:∀q z y,uc C I q z y->q≠h/\z≠h:=λq z y c=>by
   obtain⟨⟨dq1,U⟩,kv1,hdq,_⟩:=c;exact{Vb U O (λe=>by injection e with _ _ e3;exact nJ _ _ _ e3),Vb hdq O}
  have tu:Fe I (upd I h (.ins g m (hf J i))):=λb xs S=>R b _ S (Vb S O);have kT:∀q z y,uc C I q z y->uc C (upd I h (.ins g m (hf J i))) q z y:=λq z y c=>c.at_ (λu hu=>R _ _ hu (nT q z y c).1) (λu hu=>R _ _ hu (nT q z y c).2) tu;have hkp:i≠h:=Vb r n;have W:=kT _ _ _ Tc;obtain⟨⟨dc,hc1⟩,Y,hc2,enc⟩:=id W;refine{_,rfl,h,g,m,_,.ref J,rfl,wa,T.cl,T.nT,Pz _ _,J,C,dc,_,.ref L,rfl,hc1,T2.cl,T2.nF,Me L,L,Y,rfl,hc2,Lc,λl F=>?_};have Z:Y.length=y.length:=bf enc;have sl:=Qa (o:=HO.lst [V.int (Y.length:Int)]) F;refine kk _ l J L [(y.length:Int)] y ks (λb u S h1 _ _ _=>sl _ _ (R b u (M _ _ S) h1)) ?_ {rfl,?_} (by rw[wa,Z];rfl)
  .refine Nf.same {⟨m,wa⟩,W,B,{p,R _ _ (M _ _ r) hkp,t.map λq1 dq1 y1 a b c=>{λe=>?_,λe=>?_,kT _ _ _ (c.same M)}},Bk} sl
   .obtain⟨⟨_,U⟩,_⟩:=c;rw[e,hcp] at U;cases U
   .obtain⟨_,kv1,U,_⟩:=c;rw[e,hce] at U;cases U
  .rw[h5];exact⟨rfl,rfl⟩
theorem C1{a:Addr}{n:Nat}(G:GF K mg "changed_from_kept" TM ["holder","k"])(T:Vt K mg a)(b:Aa P w K mg base n "differences" (kz C)):Aa P w K mg base (n+1) "changed_from_kept" (Oo C a Sv):=by
 refine G.go (N:=["holder","k"]) ?_;rintro f c A e s H vs Q E nd g X D ⟨h,i,d,j,x,m,k,rfl,o,p⟩;have t:=ei g;refine⟨_,Ga (Lb (Ck (Rt t (pv 1) (vc (pv 0) rfl))) (Ca (Oa (ic (la (Wa T.KEPT) pa)))) Ob)
  (Ca (Oa (Ya b g (la (vc (pv 0) rfl) (la (qk t (vc (pv 0) rfl) (pv 1) (λ_ _=>rfl)) pa))))),?_⟩
 obtain⟨⟨u,v⟩,z,B,⟨F,I,J⟩,L⟩:=id o;refine{_,rfl,_,rfl,h,a,u,_,.ref j,rfl,v,T.cl,T.nK,Uv _ _,j,_,rfl,yg.kk (k:=(Ce k:Key)) I,_,rfl,?_};rcases mD (k:=k) J with⟨M,O⟩ |⟨y,q,R,M,O,h7,h8,S,U⟩
 .rw[O];refine wg {Lc,λl V=>p _ l i d [-12] x m (ka.JA (Qa V) _ _ _ _) (o.same (Qa V)) {rfl,rfl,?_} wa};rw[M]
 .rw[O];refine bj {_,rfl,h,a,u,_,.ref i,rfl,v,T.cl,T.nT,Pz _ _,_,rfl,h,a,u,_,.ref j,rfl,v,T.cl,T.nK,Uv _ _,_,rfl,j,.ref q,rfl,.inl {F,(Ce k:Key),.inl I,rfl,O.symm},i,d,x,q,R,y,rfl,z,B,S,U,λW l r Y Z V=>?_};refine p W l i d r x m (ka.JA Y _ _ _ _) (o.same Y) {rfl,rfl,?_} V;rw[M];exact Z
theorem BL{n:Nat}(h:n< 10):(Nat.digitChar n).toNat=48+n:=by
 match n,h with
 |0,_=>rfl
 |1,_=>rfl
 |2,_=>rfl
 |3,_=>rfl
 |4,_=>rfl
 |5,_=>rfl
 |6,_=>rfl
 |7,_=>rfl
 |8,_=>rfl
 |9,_=>rfl
theorem YL:∀(k n:Nat),n< 10^k->0< k->(Nat.toDigits 10 n).map Char.toNat=GH k n
 |0,n,_,h=>absurd h (by omega)
 |k+1,n,a,_=>by
  rw[Nat.toDigits_eq_if (by decide)];unfold GH;by_cases h:n< 10
  .rw[qa h,qa h,Nb,Tq,BL h]
  .rw[oa h,oa h,vf,Nb,Tq,BL (Bp n (by decide))];have b:0< k:=by
    cases k with
    |zero=>simp at a;omega
    |succ k=>omega
   rw[YL k (n / 10) (by rw[Dm] at a;omega) b]
def Hk(n:Nat):Text:=(uf (Uo ((n:Nat):Int))).cps.toList
theorem BN{n:Nat}(h:n< 10^12):Hk n=AS n:=by
 unfold Hk AS;rw[<-YL 12 n h (by decide),<-Nat.toList_repr,Str.ofString_eq_toList];rfl
theorem vG{n:Nat}(h:n< 10^12):(Hk n).length<=12:=by
 rw[BN h];unfold AS;have:∀k n,(GH k n).length<=k:=by
  intro k
  induction k with
  |zero=>intro n;exact Pd _
  |succ k a=>
   intro n;unfold GH;split
   .simp
   .rw[wd];have:=a (n / 10);simp;omega
 exact this 12 n
structure Jl(K:xa)(mg:Str->Option Value):Prop where
 Qm:bc mg "COLON_archives" (.int 58)
 JJ:∃r,bc mg "END" (.ref r)/\∀H:Hp,Ba K H r (txt [46])
 rZ:bc mg "NINE" (.int 57)
 UD:bc mg "ZERO" (.int 48)
 AZ:bc mg "MOST_DIGITS" (.int 4)
 ARCHIVE:bc mg "ARCHIVE_refusals" (.int (-11))
 str:mg "str"=ia
 ord:mg "ord"=ia
 list:mg "list"=ia
theorem J0(x:Str):qo (WD x) x.cps.size (λ_=>True) (λi v _=>∃c,x.cps[i]?=ba c/\v= .str ⟨#[c]⟩):=
 {λi H a _=>a,λi H v b a _ y=>⟨y.1,y.2⟩,λH _=>rb _}
inductive HA(vs:List V)(H:Hp)(Q:VK)(X3:XK):Prop|mk:∀n:Nat,vs=[.int (n:Int)]->n< 10^12->(∀H' l,ka H H'->H' l=ba (.lst (txt (Hk n)))->Q (.ref l) H')->HA vs H Q X3
theorem KZ(G:GF K mg "decimal" NF ["number"])(T:Jl K mg):Aa P w K mg base 1 "decimal" HA:=by
 refine G.go (N:=["number","digit"]) ?_;rintro f a A b s H d Q E e g X D ⟨n,rfl,h,k⟩;refine⟨_,Ca (Oa (Yh (own:=[("digit",1)]) rfl e (V4 (Ij LY (by rfl) T.str (by rfl) (la (pv 0) pa))) (Wf (N:=["number","digit"]) (sc:=Qc NF) (by decide+kernel)) (λ_ _ _ _ _=>Md (i:=1)) (λ_ _ _ _ _=>nj)
  (λ_ _ _ _ _=>Cc X2 (by rfl) T.ord (by rfl) (la (pv 1) pa)))),?_⟩
 have j:((n:Int)).natAbs.log2< 1920:=by
  rw[Int.natAbs_natCast];by_cases l:n=0
  .subst l;decide
  .exact kg ((Nat.log2_lt l).mpr (kg h (by decide:10^12<=2^40))) (by decide)
 have m:(uf (Uo ((n:Nat):Int))).cps.size=(Hk n).length:=by
  unfold Hk;rw[Ng]
 have o:=vG h;refine{_,rfl,(n:Int),rfl,j,_,rfl,λD p=>eo (J0 _) (txt (Hk n)) (by rw[gc,m]) (λq r=>trivial) p (by rw[m];exact Jd (by omega)) (λv=>rfl) (λi x y q t u z r B C=>?_) (λq r F=>k q D r F)};obtain⟨c,I,rfl⟩:=z;rw[Xk] at u;have J:(Hk n)[i]?=ba c:=by
  unfold Hk;rw[Tf];exact I
 rw[J] at u;cases u;exact{_,rfl,_,rfl,rfl,C q (ka.refl q)}
noncomputable def ag(t:Text):Text:=Hk t.length++[58]++t
inductive eE(K:xa)(vs:List V)(H:Hp)(Q:VK)(X3:XK):Prop|mk:∀a t,vs=[.ref a]->H a=ba (.tup (txt t))->t.length<=100000->(∀H' l,ka H H'->H' l=ba (.lst (txt (ag t)))->Q (.ref l) H')->eE K vs H Q X3
theorem t7(G:GF K mg "with_length" yL ["text"])(T:Jl K mg)(Tl:mg "len"=ia)(b:Aa P w K mg base 1 "decimal" HA):Aa P w K mg base 2 "with_length" (eE K):=by
 refine G.go (N:=["text"]) ?_;rintro f c A d s H e Q E g h X D ⟨a,t,rfl,i,j,k⟩;refine{_,Ca (Oa (Fc dj (Fc dj (Ya b h (la (Cc je (by rfl) Tl Sd (la (pv 0) pa)) pa)) (ic (la (Wa T.Qm) pa))) (Ij As (by rfl) T.list (by rfl) (la (pv 0) pa)))),?_};have hd:t.length< 10^12:=Qi j (by decide);have l:=vG hd;refine{_,rfl,a,_,rfl,.inr (Ba.of i),(txt t).length,rfl,by rw[gc];exact hd,λm n p q=>?_};rw[gc] at q;refine{Lc,λr u=>?_};have v:=Qa (o:=HO.lst [V.int 58]) u;refine{n,r,_,_,rfl,rfl,v _ _ q,wa,Xf (by rw[gc];simp;omega),λx y=>?_};have z:=Qa (o:=HO.lst (txt (Hk t.length)++[V.int 58])) y;refine{_,rfl,a,_,rfl,.inr (Ba.of (z _ _ (v _ _ (p _ _ i)))),λB C=>?_};have F:=Qa (o:=HO.lst (txt t)) C;refine{x,B,_,_,rfl,rfl,F _ _ wa,wa,Xf (by rw[wd,gc,gc];simp;omega),λI J=>k _ I (p.trans (v.trans (z.trans (F.trans (Qa J))))) ?_};rw[wa];unfold ag;rw[Dk,Dk];rfl
def bytesOf(x:List Ent)(p:Text):Text:=(look x p).getD []
noncomputable def Hi(x:List Ent)(ts:List Text):Text:=ts.flatMap λp=>ag p++ag (bytesOf x p)
theorem lX{p:Text}(h:ts[i]?=ba p):Hi x (ts.take (i+1))=Hi x (ts.take i)++(ag p++ag (bytesOf x p)):=by
 unfold Hi;rw[ni,h,Du];simp
theorem i5(x:List Ent)(a:List Text)(i:Nat):(Hi x (a.take i)).length<=(Hi x a).length:=by
 conv=>rhs;rw[<-Ph i a]
 unfold Hi;rw[Du,wd];exact Zo _ _
structure Tight(x:List Ent):Prop where
 n:x.length<=64
 b:(x.map λf=>f.2.length).sum<=8192
theorem YP(g:α->Nat)(h:α->Nat)(c:Nat):∀l:List α,(∀a∈l,g a<=h a+c)->(l.map g).sum<=(l.map h).sum+c*l.length
 |[],_=>by simp
 |a::l,d=>by
  have e:=YP g h c l λb f=>d b (by simp[f]);have i:=d a (by simp);simp only[Nb,Em,Oc];rw[qy];omega
theorem tL(g:α->List Nat):∀l:List α,(l.flatMap g).length=(l.map λa=>(g a).length).sum
 |[]=>rfl
 |a::l=>by
  rw[Eu,wd,tL g l,Nb,Em]
theorem nM{t:Text}(h:t.length<=100000):(ag t).length<=t.length+13:=by
 have:=vG (show t.length< 10^12 from Qi h (by decide));unfold ag;rw[wd,wd];simp;omega
theorem D3(a:Small x)(b:Tight x)(c:ts.Perm (x.map (·.1))):(Hi x ts).length<=100000:=by
 have d:(Hi x ts).length=(Hi x (x.map (·.1))).length:=by
  unfold Hi;exact(c.flatMap_right _).length_eq
 rw[d];unfold Hi;rw[tL,yd];have e:=YP (λf:Ent=>(ag f.1++ag (bytesOf x f.1)).length) (λf=>f.2.length) 122 x λf hf=>by
  have g:bytesOf x f.1=f.2:=by unfold bytesOf;rw[Fj a.nd hf];rfl
  have h:=nM (a.p f hf);have i:=nM (a.b f hf);have j:=a.sq f hf;rw[wd,g];omega
 have k:=b.n;have l:=b.b;have m:(x.map ((λp=>(ag p++ag (bytesOf x p)).length)∘λx=>x.1)).sum=(x.map λf:Ent=>(ag f.1++ag (bytesOf x f.1)).length).sum:=rfl;rw[m];omega
inductive Rz(x:List Ent)(r:List Int):Prop|mk:∀ts,ts.Perm (x.map (·.1))->Cj ts->r=bh (Hi x ts++[46])->Rz x r
inductive dF(C:Addr)(vs:List V)(H:Hp)(Q:VK)(X3:XK):Prop|mk:∀tp d x,vs=[.ref tp]->uc C H tp d x->Small x->Tight x->(∀H' l r,ka H H'->Rz x r->H' l=ba (.lst (nums r))->Q (.ref l) H')->dF C vs H Q X3
theorem mX(G:GF K mg "archive_of" kN ["tree"])(T:ig K mg C)(T2:Jl K mg)(T3:Uk K mg)(h1:Aa P w K mg base 2 "with_length" (eE K)):Aa P w K mg base 3 "archive_of" (dF C):=by
 obtain⟨r,hr1,hr2⟩:=T2.JJ;refine G.go (N:=["tree","numbers","path"]) ?_;rintro f cdv A outer s H vs Q E nd hr X D ⟨tp,d,x,rfl,Tr,c,ht,k⟩;have hu1:=ei hr;refine⟨_,Ga (nc (i:=1) (ic (la Sb pa)))
  (Ga (Ji qi rfl (Ug (Cc (HF rfl) (by rfl) T3.sorted (by rfl) (la (vc (pv 0) rfl) pa))) (Md (i:=2))
   (Ca (vi (di Ri MB uS rJ (pv 1) (la (Fc dj (Ya h1 hr (la (pv 2) pa)) (Ya h1 hr (la (qk hu1 (vc (pv 0) rfl) (pv 2) (λ_ _=>rfl)) pa))) pa)))))
  (Ca (Oa (Fc dj (pv 1) (Ij As (by rfl) T2.list (by rfl) (la (Wa hr1) pa)))))),?_⟩
 refine{Lc,λl hl=>?_};have s0:=Qa (o:=HO.lst [V.int 0]) hl;obtain⟨⟨dx,hp1⟩,Dx⟩:=Tr.same s0;refine{_,rfl,tp,C,dx,ff d,.ref d,rfl,hp1,T.cl,T.nF,Me d,d,x,rfl,Dx,c.ne,c.n,λqs ts m e hpw tq h=>?_};have s1:ka H (upd (upd H l (.lst [.int 0])) m (.lst (qs.map V.ref))):=s0.trans (Qa h);have j:l≠m:=de wa h;have hmn:H m=ia:=by rw[Ja (Gc j)] at h;exact h
 have hql:=tq.len;have hbig:=D3 c ht e;refine⟨m,rfl,{_,Ia.of wa},sk (Wg (K:=K) (a:=m) (qs.map V.ref)) (λi σ n=>∃v,σ=[ba (.ref tp),ba (.ref l),v]/\ka H n/\n m=ba (.lst (qs.map V.ref))/\Wb n qs ts/\n l=ba (.lst (V.int 0::txt (Hi x (ts.take i)))))
  {ia,rfl,s1,wa,tq.Xa (ka.Xa (Qa h)),by rw[Ja j];exact wa} (λi σ n _ ⟨_,_,_,h4,_⟩=>Ia.of h4) ?_ ?_⟩
 .rintro i v σ H2 hi hv ⟨v0,rfl,s2,t,u,y⟩;rw[Ac] at hv;obtain⟨q,hq,rfl⟩:=Ie.mp hv;obtain⟨p,hp,z⟩:=Wb.get u hq;have hpm:p∈x.map (·.1):=e.mem_iff.mp (vd hp);obtain⟨g,hg,B⟩:=Mb.mp hpm;have F:=Fj c.nd hg;rw[B] at F;have I:bytesOf x p=g.2:=by unfold bytesOf;rw[F];rfl
  have J:=lX (x:=x) hp;have L:=i5 x ts (i+1);rw[J,wd,wd] at L;refine{_,rfl,.inl {rfl,_,Ia.of y},_,rfl,q,p,rfl,z,by have:=c.p g hg;rw[B] at this;exact this,λH3 l3 M O=>?_};obtain⟨⟨dx3,hp3⟩,R,hd3,en3⟩:=Tr.same (s2.trans M);have S:H3 q=ba (.tup ((key p).map kV)):=by rw[Xe];exact M _ _ z
  rcases Mj (q:=p) en3 with⟨U,_⟩ |⟨b,b5,U,h6,h7⟩
  .rw[F] at U;cases U
  rw[F] at U;cases U;refine{_,rfl,tp,C,dx3,ff d,.ref d,rfl,hp3,T.cl,T.nF,Me d,_,rfl,d,.ref b5,rfl,.inr {R,key p,q,.inl hd3,rfl,S,h6.symm},b5,g.2,rfl,h7,c.b g hg,λH4 l4 s4 W=>?_};refine{l3,l4,_,_,rfl,rfl,s4 _ _ O,W,Xf (by rw[gc,gc];rw[I] at L;omega),λl5 hl5=>?_};have s5:=Qa (o:=HO.lst (txt (ag p)++txt (ag g.2))) hl5;have Y:=M.trans (s4.trans s5);refine{l,l5,_,_,rfl,rfl,Y _ _ y,wa,Xf (by rw[Oc,wd,gc,gc,gc];rw[I] at L;omega),?_};have Z:=Y _ _ y;refine{ba (.ref q),rfl,Zg (s2.trans Y) hl,by rw[Ja (Gc j)];exact Y _ _ t,(u.Xa (ka.Xa Y)).Xa (Wl Z),?_};rw[wa,J,I,Dk,Dk];rfl
 .rintro σ H2 ⟨v0,rfl,s2,t,u,y⟩;rw[Na,hql,Cg] at y;refine{_,rfl,r,_,rfl,.inr (hr2 H2),λl3 O=>?_};have M:=Qa (o:=HO.lst (txt [46])) O;refine{l,l3,_,_,rfl,rfl,M _ _ y,wa,Xf (by rw[Oc,gc,gc];simp;omega),λl4 W=>k _ l4 _ (s2.trans (M.trans (Qa W))) ⟨ts,e,hpw,rfl⟩ ?_};rw[wa,Ym,Dk];rfl
noncomputable def Hf(t:Text):Bool:=if t=[] then ma else if t.all Gd=ma then ma else decide (t.length=1)|| !decide (t.head?=ba 48)
inductive Hv(g:Text->Bool)(vs:List V)(H:Hp)(Q:VK)(X3:XK):Prop|mk:∀a t,vs=[.ref a]->H a=ba (.tup (txt t))->t.length<=500->(∀H',ka H H'->Q (.bl (g t)) H')->Hv g vs H Q X3
theorem yU(G:GF K mg "is_decimal" uF ["signs"])(T:Jl K mg)(b:Cs mg):Aa P w K mg base 1 "is_decimal" (Hv Hf):=by
 refine G.go (N:=["signs","sign"]) ?_;rintro f d A g s H vs Q E l m X D ⟨a,t,rfl,n,hz,k⟩;have o:=m.units;refine⟨_,Ga (Lb (PW.pt (vh (fc (Ei o) (pv 0) (Mf pa) (Yb _)) (ij (Yf (Nd (Cc (Lr rfl) (by rfl) b.all (by rfl) (la (Yh (own:=[("sign",1)]) rfl l (Yw (pv 0)) (Wf (N:=["signs","sign"]) (sc:=Qc uF) (by decide+kernel)) (λ_ _ _ _ _=>Md (i:=1)) (λ_ _ _ _ _=>nj)
   (λ_ _ _ _ _=>LU Sh Sh (Wa T.UD) (pv 1) (Wa T.rZ))) pa))))))) (Ca (Oa xi)) Ob)
  (Ca (Oa (fq (oh Zf (Cc je (by rfl) b.len Sd (la (pv 0) pa)) Sb (Yb _)) (Lm (oh qC (Yl AE (pv 0) Sb (λ_ _=>rfl)) (Wa T.UD) (Yb _)))))),?_⟩
 have p:Pb H (Ol (tB (qh (KA K) (Kb (Jk (eQ K (Ua 0)) (Le 1) so (aA (pf λi j=> .bl (decide (i<=j))) (pf λi j=> .bl (decide (i<=j))) (tC (.int 48)) (Ua 1) (tC (.int 57))) [1]) Xb)))) [ba (.ref a),ia] (!t.all Gd):=by
  refine Pb.not λu Q1 B C=>?_;refine⟨_,rfl,a,rfl,{_,Ba.of (B _ _ n)},λD F=>eo (bx (txt t)) (t.map λc=>V.bl (Gd c)) (by rw[Na,gc]) (λI J=>Ba.of (J _ _ (B _ _ n))) F
   (by rw[gc];exact Jd (by omega)) (λv=>rfl) (λi x y I hi L M J O R=>?_) (λI J S=>?_)⟩
  .rw[Xk] at M;rw[Ac] at L;obtain⟨c,U,rfl⟩:=Ie.mp M;rw[U] at L;cases L
   replace R:∀W,ka I W->O (V.bl (Gd c)) W:=R
   have hd:Gd c=(decide ((48:Int)<=(c:Int))&&decide ((c:Int)<=57)):=by
    unfold Gd
    congr 1
    .exact mh.mpr (by omega)
    .exact mh.mpr (by omega)
   rw[hd] at R;refine{_,rfl,_,_,rfl,rfl,_,rfl,?_};cases h:decide ((48:Int)<=(c:Int)) with
   |true=>
    rw[h,gr] at R;exact wg {_,_,rfl,rfl,R I (ka.refl I)}
   |false=>
    rw[h,kh] at R;exact bj (R I (ka.refl I))
  .refine{D,t.map Gd,rfl,Ia.of (by rw[yd];exact S),_,rfl,?_};rw[tm];exact C I (B.trans J)
 refine Zb ((Ww (K:=K) [] rfl n (λ_ _ q=>q)).or λ_=>p) (ka.refl H) λu B=>cb (λU=>?_) (λU=>?_)
 .have e:Hf t=ma:=by
   unfold Hf;by_cases Y:t=[]
   .rw[qa Y]
   .rw[oa Y,qa (by rw[Rf Y,ll] at U;simpa using U)]
  show Q (.bl ma) u;rw[<-e];exact k u B
 have Z:¬t=[]/\¬t.all Gd=ma:=by
  rw[xS,aan] at U;exact{by simpa using U.1,by simpa using U.2}
 have e:Hf t=(decide (t.length=1)|| !decide (t.head?=ba 48)):=by unfold Hf;rw[oa Z.1,oa Z.2]
 obtain⟨x,r,rfl⟩:∃x r,t=x::r:=by
  cases t with
  |nil=>exact absurd rfl Z.1
  |cons x r=>exact⟨x,r,rfl⟩
 refine{_,rfl,a,_,rfl,.inr (Ba.of (B _ _ n)),rfl,_,rfl,?_};have e2:decide (V.int ((txt (x::r)).length:Int)=V.int 1)=decide ((x::r).length=1):=by
  rw[gc];refine mh.mpr {λz=>?_,λz=>?_}
  .injection z with z;omega
  .rw[z];rfl
 rw[e2];refine cb (λhd=>?_) (λhd=>?_)
 .rw[hd,LR] at e;show Q (.bl da) u;rw[<-e];exact k u B
 .refine{_,rfl,a,_,_,_,rfl,rfl,Ba.of (B _ _ n),Tp (j:=0) (v:= .int (x:Int)) rfl,rfl,?_};have e3:(!decide (V.int (x:Int)=V.int 48))=Hf (x::r):=by
   rw[e,show decide ((x::r).length=1)=ma by simpa using hd,ll]
   congr 1
   refine mh.mpr {λz=>?_,λz=>?_}
   .injection z with z;rw[show x=48 by omega];rfl
   .have:x=48:=Dd z;rw[this];rfl
  rw[e3];exact k u B
inductive YA(vs:List V)(H:Hp)(Q:VK)(X3:XK):Prop|mk:∀a t,vs=[.ref a]->H a=ba (.tup (txt t))->t.length<=5->(∀c∈t,48<=c/\c<=57)->(∀H',ka H H'->Q (.int ((lk t:Nat):Int)) H')->YA vs H Q X3
theorem AO:∀(t:Text)(n:Nat),(∀c∈t,48<=c/\c<=57)->t.foldl (λn c=>10*n+(c - 48)) n<=n*10^t.length+(10^t.length - 1)
 |[],n,_=>by simp
 |c::t,n,h=>by
  have a:=h c (by simp);have b:=AO t (10*n+(c - 48)) λd hd=>h d (by simp[hd]);rw[Bm,Oc,Dm];have e:0< 10^t.length:=BS (by decide);have f:(10*n+(c - 48))*10^t.length<=(10*n+9)*10^t.length:=aap _ (by omega);have g:(10*n+9)*10^t.length=n*(10^t.length*10)+9*10^t.length:=by
   rw[HH,nr 10 n,Fu,nr 10]
  omega
theorem vY(G:GF K mg "number_told" EJ ["digits"])(T:Jl K mg):Aa P w K mg base 1 "number_told" YA:=by
 refine G.go (N:=["digits","number","digit"]) ?_;rintro f b A d s H e Q E g h X D ⟨a,t,rfl,j,l,hd,k⟩;refine⟨_,Ga (nc (i:=1) Sb)
  (Ga (Ji qi rfl (Yw (pv 0)) (Md (i:=2)) (Ca (nc (i:=1) (Fc vE (Fc We (Fc DU (pv 1) Sb) (pv 2)) (Wa T.UD)))))
  (Ca (Oa (pv 1)))),?_⟩
 have m:∀i,(t.take i).foldl (λn c=>10*n+(c - 48)) 0< 1000000:=λi=>by
  have o:=AO (t.take i) 0 λc p=>hd c (CS p);have q:(t.take i).length<=5:=by rw[rd];omega
  have r:10^(t.take i).length<=10^5:=sy (by decide) q;omega
 refine⟨_,rfl,a,rfl,{_,Ba.of j},sk (bx (K:=K) (a:=a) (txt t)) (λi u y=>∃v,u=[ba (.ref a),ba (.int (((t.take i).foldl (λn c=>10*n+(c - 48)) 0:Nat):Int)),v]/\ka H y)
  {ia,rfl,ka.refl H} (λi u y _ ⟨_,_,z⟩=>Ba.of (z _ _ j)) ?_ ?_⟩
 .rintro i x u B C F ⟨v,rfl,z⟩;rw[Xk] at F;obtain⟨c,p,rfl⟩:=Ie.mp F;have I:=hd c (vd p);have J:=m i;have L:=MF (λn c=>10*n+(c - 48)) 0 p
  generalize M:(t.take i).foldl (λn c=>10*n+(c - 48)) 0=N at*
  refine{_,rfl,_,_,rfl,rfl,.inl {by omega,by omega},_,rfl,_,_,rfl,rfl,_,_,rfl,rfl,ba (.int (c:Int)),?_,z};rw[L];show [_,ba (V.int ((N:Int)*10+(c:Int) - 48)),_]=_;rw[show(((10*N+(c - 48):Nat)):Int)=(N:Int)*10+(c:Int) - 48 by omega]
 .rintro u B ⟨v,rfl,z⟩;rw[gc,Cg];exact{_,rfl,k B z}
end Tl
namespace L2
noncomputable abbrev d6:List Value:=[.type "ValueError",.type "Exception",.type "BaseException",.type "object"]
structure Lo(K:xa)(mg:Str->Option Value)(x:Str)(XC:Addr):Prop where
 mg:mg x=ba (.ref XC)
 ok:DS K XC d6 "ValueError.__new__"=da
inductive Jp(XC:Addr)(h:Heap)(e T:Addr):Prop|mk:∀oe vs a0 oT ts,h.get? e=ba oe->oe.cls= .ref XC->oe.data= .fields vs->vs[0]?=ba a0->vs[1]?=ba (.ref T)->T≠e->h.get? T=ba oT->oT.data= .fields ts->ts[3]?=ba .none->Jp XC h e T
def Uh(P:Va)(w:Pa)(XC:Addr):ib:=λouter H s E a s'=>∃e T H',a= .ref e/\s'.os=s.os/\AllBare s'.gens/\Un (Zd outer) [] H H' s.heap s'.heap/\ud P w H' s'.heap/\Jp XC s'.heap e T/\H' e=ia/\H' T=ia/\s.heap.get? e=ia/\s.heap.get? T=ia/\E (.ref XC) ia H'
structure Mm(fs xs:List Addr)(h1 h2:Heap):Prop where
 keep:∀b o,h1.get? b=ba o->b∉fs->b∉xs->h2.get? b=ba o
 slot:∀b o,h1.get? b=ba o->b∈fs->b∉xs->∃sl,h2.get? b=ba {o with slots:=sl}
theorem Mm.any{c xs:List Addr}{d f:Heap}(a:Mm c xs d f){o:Obj}(e:d.get? b=ba o)(m:b∉xs):∃sl,f.get? b=ba {o with slots:=sl}:=by
 by_cases g:b∈c
 .exact a.slot b o e g m
 .exact{o.slots,a.keep b o e g m}
theorem Un.Yv{a c xs:List Addr}{d:Hp}{f g:Heap}(u:Un a [] H d h f)(t:Mm c xs f g)(i:∀b∈xs,h.get? b=ia)(hf:∀b o,h.get? b=ba o->b∈c->b∈a):Un a [] H d h g where
 keep:=λb o e n j _=>t.keep b o (u.keep b o e n j (by simp)) (λz=>j (hf b o e z)) λz=>by rw[i b z] at e;cases e
 slot:=λb o e n j _=>by
  obtain⟨k,l⟩:=u.slot b o e n j (by simp);obtain⟨m,p⟩:=t.any l λz=>by rw[i b z] at e;cases e
  exact⟨m,p⟩
 free:=λb o e n _=>u.free b o e n (by simp)
 there:=λb o e _=>by
  obtain⟨q,l⟩:=u.there b o e (by simp);obtain⟨k,p⟩:=t.any l λz=>by rw[i b z] at e;cases e
  exact{_,p}
 Xa:=u.Xa
 Gk:=u.Gk
 Nm:=u.Nm
theorem ud.Yv{c xs:List Addr}{d f:Heap}(k:ud P w H d)(t:Mm c xs d f)(hf:∀b∈c,H b=ia)(g:∀b∈xs,H b=ia):ud P w H f:=λa o h=>
 (k a o h).Sk (λb u i e=>t.keep b u e (λz=>by
  rcases i with q|q
  .rw[hf a (q▸z)] at h;cases h
  .rw[hf b z] at q;cases q) λz=>by
  rcases i with q|q
  .rw[q] at z;rw[g a z] at h;cases h
  .rw[g b z] at q;cases q) (λ_ q=>q) λ_ _ q=>q
theorem yE{l:List va}(a:h.FunFrames base l)(c:b∈Zd l):∃o,h.get? b=ba o/\∀vs,o.data≠ .fields vs:=by
 obtain⟨_,o,d,e⟩:=a.mem c;exact⟨o,d,e⟩
theorem RC{l:List va}(xs:List Addr)(b:h.FunFrames base l):h.FunFrames (So h (Zd l++xs)) l:=
 PySem.W.funFrames_hide b λenv c a d=>Pe.mpr (.inl (Hx.mpr ⟨env,c,d⟩))
theorem xJ(h:Heap)(l:List Addr):(So h l).StaysIn h:=λb o e=>BG l e
theorem LF{h':Heap}{l:List va}{xs:List Addr}(a:h.FunFrames base l)(c:(So h (Zd l++xs)).StaysIn h')(d:∀b o,h.get? b=ba o->(∀vs,o.data≠ .fields vs)->∃sl,h'.get? b=ba {o with slots:=sl}):Mm (Zd l) xs h h' where
 keep:=λb o e n m=>c b o (AG _ e λz=>(Pe.mp z).elim n m)
 slot:=λb o e n _=>by
  obtain⟨f,g,i⟩:=yE a n;rw[e] at g;cases g;exact d b o e i
theorem uO{l:List va}{e:Addr}{XC:Addr}{a0:Value}(x:h.TracedW base e (.ref XC) a0):∃T,Jp XC h e T/\base.get? T=ia:=by
 obtain⟨a,b,T,c,d,f,⟨g,i⟩,hd,j,k,m,n,o,p⟩:=x;exact{T,⟨a,b,a0,c,d,f,g,hd,i,j,m,n,o,p⟩,k}
section
variable{M:ub}{XC e:Addr}{env:va}{outer:List va}{L:Addr}
theorem yV{args:List Value}{Q:Unit->ja->Prop}(a:A.frames=ba (env::outer))(hf:env.frame=ba L)(c:h.FunFrames base (env::outer))(d:Heap.MadeExcOf h s.heap e (.ref XC) args)
  (f:∀h' T,Jp XC h' e T->h.get? T=ia->Mm (Zd (env::outer)) [e] h h'->Q () {s with heap:=h'}):ra M A (EB env (.ref e)) Q E s:=by
 obtain⟨t,g,i,j⟩:=d.there;have k:s.heap.FunFrames base (env::outer):=c.of_keeps λb o p _=>{o,d.keeps b o p,rfl};have r:=RC (h:=h) [] c;have u:s.heap.FunFrames (So h (Zd (env::outer)++[])) (env::outer):=r.of_keeps λb o p _=>{o,d.keeps b o p,rfl};have v:(So h (Zd (env::outer)++[])).get? e=ia:=by
  cases q:(So h (Zd (env::outer)++[])).get? e with
  |none=>rfl
  |some o=>
   have:=BG _ q;rw[d.new] at this;cases this
 refine wpAny_leaving_firstW (a0:= .ref t) a u hf g (λb o p=>d.keeps b o (BG _ p)) v rfl rfl rfl λh' w=>?_;obtain⟨x,y,B,C⟩:=w;obtain⟨T,D,F⟩:=uO (l:=outer) B;refine f h' T D ?_ ?_
 .cases q:h.get? T with
  |none=>rfl
  |some o=>
   by_cases G:T∈Zd (env::outer)
   .obtain⟨H,I,J⟩:=yE y G;obtain⟨_,_,_,K,N,_,_,_,_,_,_,O,P,_⟩:=D;rw[O] at I;cases I;exact absurd P (J N)
   .rw[AG _ q λz=>by
     rcases Pe.mp z with z|z
     .exact G z
     .cases z] at F
    cases F
 .have R:=LF (xs:=[]) c (λb o p=>x b o p) λb o p J=>C b o (d.keeps b o p) J;exact{λb o p n m=>R.keep b o p n (by simp),λb o p n m=>R.slot b o p n (by simp)}
theorem r8{T:Addr}{Q:Unit->ja->Prop}(a:A.frames=ba (env::outer))(hf:env.frame=ba L)(b:s.heap.FunFrames base (env::outer))(c:Jp XC s.heap e T)
  (d:∀h' f,Jp XC h' e f->(f=T\/s.heap.get? f=ia)->Mm (Zd (env::outer)) [e,T] s.heap h'->Q () {s with heap:=h'}):ra M A (EB env (.ref e)) Q E s:=by
 obtain⟨g,i,j,k,m,n,p,hd,r,t,u,v,w,x⟩:=c;have y:=RC (h:=s.heap) [e,T] b;refine wpAny_leaving_nextW (a0:=j) (cls:= .ref XC) a y hf {g,i,T,k,m,n,⟨p,r⟩,hd,t,nB _ (by simp),u,v,w,x} (xJ _ _) (nB _ (by simp)) λh' B=>?_;obtain⟨C,D,F,G⟩:=B;obtain⟨f,H,I⟩:=uO (l:=outer) F;refine d h' f H ?_ (LF b C G);by_cases J:f=T
 .exact .inl J
 .refine .inr ?_;cases q:s.heap.get? f with
  |none=>rfl
  |some o=>
   by_cases K:f∈Zd (env::outer)
   .obtain⟨N,O,P⟩:=yE D K;obtain⟨_,_,_,R,S,_,_,_,_,_,_,U,V,_⟩:=H;rw[U] at O;cases O;exact absurd V (P S)
   .rw[AG _ q λz=>by
     rcases Pe.mp z with z|z
     .exact K z
     .have W:f=e\/f=T:=by simpa using z
      rcases W with W|W
      .obtain⟨_,_,_,_,_,_,_,_,_,_,X,_⟩:=H;exact X W
      .exact J W] at I
    cases I
end
theorem OP{a:List Value}{b:String}(X:K.In h)(q:DS K C a b=da):
  E4 λbm N nm c=>E4 λbs hd sn sub=>E4 λab col dd k0=>E4 λk1 k2 k3 k5=>∃d,h.get? C=ba (excClassObj nm c C N bs bm hd sn sub ab col dd k0 k1 k2 k3 k5 b)/\h.Ns N d/\d "__init__"=ia/\OwnTail h a bm:=by
 unfold DS at q;split at q
 .rename_i dd cd e f
  split at q
  .rename_i g bm k0 k1 k2 k3 n k5 i j
   simp only[Kc,Oh,IH] at q;obtain⟨⟨⟨⟨⟨k,l⟩,m⟩,o⟩,p⟩,r⟩:=q;subst k l;obtain⟨nm,bs,s,t,c,hd,sn,sub,ab,col,u⟩:=cd;dsimp only at i m p r;subst i m;have v:e=#[k0,k1,k2,k3,ba (.builtin n),k5]:=Y' (by simpa using j);subst v;exact{bm,t,nm,c,bs,hd,sn,sub,ab,col,dd,k0,k1,k2,k3,k5,_,X _ _ f,.of_isNs (PySem.W.isNs_of_in X p),PySem.W.nsMap_none_of_in X p r,PySem.W.tail_of_in X o}
  .cases q
 .cases q
section
variable{N:List Str}{qual:Str}{scope:jb}{f:Addr}{cd:Value}{outer:List va}{s0:ja}{H0:Hp}{E:XK}{XC:Addr}
theorem mM{e T:Addr}{h':Heap}{xs:List Addr}{g:Array QQ}{dr:Drawn}{tk:Nat}(I:Inv (ai (Uh P w XC) P w K mg base N qual scope f cd A outer s0 H0 E) pins σ H s)
  (a:Jp XC h' e T) (st:Mm (Zd (Sf qual scope s0.heap.objs.size f cd::outer)) xs s.heap h') (c:∀b∈xs,s0.heap.get? b=ia/\H b=ia) (d:s0.heap.get? e=ia/\H e=ia) (h:s0.heap.get? T=ia/\H T=ia) (i:AllBare g) (q:E (.ref XC) ia H):
  Uh P w XC outer H0 s0 E (.ref e) {s with heap:=h',gens:=g,drawn:=dr,toks:=tk}:=by
 have j:s0.heap.get? s0.heap.objs.size=ia:=v9 (rb _);have k:Zd (Sf qual scope s0.heap.objs.size f cd::outer)=s0.heap.objs.size::Zd outer:=rfl;refine{e,T,H,rfl,I.os,i,?_,?_,a,d.2,h.2,d.1,h.1,q}
 .have u:Un (Zd outer) [] H0 H s0.heap s.heap:=I.base;refine u.Yv st (λb l=>(c b l).1) λb o e l=>?_;rw[k] at l;rcases jc.mp l with z|z
  .rw[z,j] at e;cases e
  .exact z
 .exact ud.Yv I.vb st (λb l=>I.dA b l) λb l=>(c b l).2
def pQ(E:XK)(XC:Addr)(t:TA):TS:=λ_ σ H=>t σ H λvs H1=>vs.length<=1000/\E (.ref XC) ia H1
theorem Br(a:X.ex=[])(I:Inv X pins σ H s)(h:s.heap.get? b=ia):X.fg.heap.get? b=ia:=by
 cases q:X.fg.heap.get? b with
 |none=>rfl
 |some o=>
  obtain⟨c,e⟩:=I.base.there b o q (by rw[a];simp);rw[h] at e;cases e
theorem Cd.there{o:HO}(x:Cd P w H h a o):∃u,h.get? a=ba u:=by
 cases o with
 |lst b=>obtain⟨_,_,_,_,e⟩:=x;exact{_,e}
 |tup b=>obtain⟨_,_,_,⟨_,e,_⟩,_⟩:=x;exact{_,e}
 |dK c=>obtain⟨_,_,_,_,o,_,_,e,_⟩:=x;exact{_,e}
 |dT c=>obtain⟨_,_,_,_,o,_,_,e,_⟩:=x;exact{_,e}
 |set S n=>obtain⟨o,_,_,_,e,_⟩:=x;exact{_,e}
 |ins C d g=>obtain⟨_,_,_,e,_⟩:=x;exact{_,e}
 |own y=>obtain⟨_,e⟩:=x;exact{_,e}
 |xd g=>obtain⟨_,⟨_,_,_,e,_⟩,_⟩:=x;exact{_,e}
 |oo i j=>obtain⟨_,_,_,e⟩:=x;exact{_,e}
 |qc k u=>obtain⟨e,_⟩:=x;exact{_,e}
 |Qo l=>exact{_,show h.get? a=ba _ from x}
 |met f y=>exact{_,show h.get? a=ba _ from x}
 |ext φ=>obtain⟨_,⟨_,e⟩,_⟩:=x;exact{_,e}
theorem bz(k:ud P w H h)(e:h.get? b=ia):H b=ia:=by
 cases q:H b with
 |none=>rfl
 |some o=>
  obtain⟨u,a⟩:=(k b o q).there;rw[e] at a;cases a
theorem oA{x:Str}{a:ua}{t:TA}{c d pos:La}(i:Lo K mg x XC)(j:PA (ai (Uh P w XC) P w K mg base N qual scope f cd A outer s0 H0 E) [a] t)(k:autoParam (Gl (ai (Uh P w XC) P w K mg base N qual scope f cd A outer s0 H0 E) x) ZQ0._auto_1)
  (l:autoParam ((x==("__debug__":Str))=ma) ZQ1._auto_1) (m:autoParam (Jc [a] (Sf qual scope s0.heap.objs.size f cd)=[(ma,Ic a (Sf qual scope s0.heap.objs.size f cd))]) ZQ0._auto_1):
  PS (ai (Uh P w XC) P w K mg base N qual scope f cd A outer s0 H0 E) (.Raise (ba (.Call (.Name x c) [a] [] d)) ia pos) (pQ E XC t):=by
 intro n s o H D I h;obtain⟨p,NN,r,qn,u,hd,v,y,z,B,G,J,L,M,O,Q,mN,hC,hN,R,S⟩:=OP I.ok.mod.Dr i.ok;refine wpAny_Raise_call_subT (C:=XC) (nm:=r) (q:=qn) (N:=NN) (bs:=u) (bm:=p) (hdct:=hd) (sn:=v) (sub:=y) (ab:=z) (col:=B) (dd:=G) (k0:=J) (k1:=L) (k2:=M) (k3:=O) (k5:=Q) F.excBase_ValueError (S.hasType (by decide)) (I.ok.hd rfl) ?_ R
  (Wr I k i.mg {rfl,?_} l)
 .show(Ye d (Jc [a] (Sf qual scope s0.heap.objs.size f cd))).any (·.1)=ma;rw[m];rfl
 .have U:=j d n s o H _ I h;show ra _ _ (evalArgs (.ref XC) da (Ye d (Jc [a] (Sf qual scope s0.heap.objs.size f cd))) []) _ _ s;have U:ra (Ea P w) (A.deeper (Sf qual scope s0.heap.objs.size f cd)) (UQ (Ye d (Jc [a] (Sf qual scope s0.heap.objs.size f cd)))) _ _ s:=U;rw[m] at U⊢;refine zR (Gb U λus V ⟨vs,H2,I2,r2,hlen,q2⟩=>?_);refine{rfl,?_,I2.bk _ _ hC,hN.keeps I2.bk,S.keeps I2.bk,λh' e W=>?_}
  .rw[<-r2.length];exact Ag (Jd hlen)
  .show ra _ _ (EB (Sf qual scope s0.heap.objs.size f cd) (.ref e)) _ _ _;refine yV (s:={V with heap:=h'}) (base:=base) I2.ok.frames rfl I2.stack W λh3 T fl X st=>?_;have Y:=W.new;refine mM (s:=V) (g:=V.gens) (dr:=V.drawn) (tk:=V.toks) I2 fl st (λb Z=>?_) {Br rfl I2 Y,bz I2.vb Y} {Br rfl I2 X,bz I2.vb X} I2.bare q2;have Z:b=e:=by simpa using Z
   rw[Z];exact{Br rfl I2 Y,bz I2.vb Y}
theorem JF:vk (Uh P w XC) (ai (Uh P w XC) P w K mg base N qual scope f cd A outer s0 H0 E) E:=by
 intro a c H s d h I i;obtain⟨e,T,j,rfl,k,l,m,n,o,p,r,t,u,q⟩:=i;have v:Inv (ai (Uh P w XC) P w K mg base N qual scope f cd A outer s0 H0 E) a c j h:=I.kA (ch:=[]) k m n l λb z=>absurd z (by simp);show ra _ _ (EB (Sf qual scope s0.heap.objs.size f cd) (.ref e)) _ _ _;refine r8 (base:=base) v.ok.frames rfl v.stack o λx y B C D=>?_;have F:=Br rfl I t;have G:=Br rfl I u;refine mM (s:=h) (g:=h.gens) (dr:=h.drawn) (tk:=h.toks) v B D (λb J=>?_) ⟨F,p⟩ ?_ v.bare q
 .have J:b=e\/b=T:=by simpa using J
  rcases J with rfl|rfl
  .exact⟨F,p⟩
  .exact⟨G,r⟩
 .rcases C with rfl|L
  .exact⟨G,r⟩
  .exact{Br rfl v L,bz n L}
end
theorem Xj.sD{a:Addr}{x b:Str}{st:za}{f:Addr}{c:qb}{N:List Str}{sp:Sp}(F:Xj K x b st f c)(S:Vk N ps (Qc st))(d:∀vs H Q E,sp vs H Q E->vs.length=ps.length)
  (e:∀(cdv:Value)(A:bb)(outer:List va)(s:ja)(H:Hp)(vs:List V)(Q:VK)(E:XK),Ad k (A.deeper (Sf b (Qc st) s.heap.objs.size f cdv))->sp vs H Q E->
   ∃t,yh (ai (Uh P w a) P w K mg base N b (Qc st) f cdv A outer s H E) (Uj st) t/\t {nx:=λ_ H'=>Q .Tb H',rt:=Q} (start N vs) H):Te P w K mg base (Uh P w a) (k+1) f c ps sp:=by
 obtain⟨g,h,kV,i,j,l,cdv,m,n,rfl,o,p⟩:=F.ex;exact NL o p S d λA outer s H vs Q E q r=>e cdv A outer s H vs Q E q r
noncomputable abbrev Cx.Ds(X:Cx)(a:bb):Cx:={X with A:=a,calm:=ma,xe:=λ_ _=>False}
noncomputable abbrev Cx.Po(X:Cx)(pn:List (Addr×Obj))(xe:Value->ja->Prop):Cx:={X with xe:=xe,pn:=pn}
section
variable{pins2 pn:List (Addr×Obj)}{xe:Value->ja->Prop}
theorem SY(a:X.Ok):(X.Po pn xe).Ok:=⟨a.mod,a.kind,a.glob,a.blt,a.above,a.inj,a.has,a.ko,a.hd,a.frames,a.oq,a.kq,a.bs,a.Vj,a.Eo,a.zo,a.Vh,a.Sl⟩
theorem b8(a:(X.Po pn xe).Ok):X.Ok:=⟨a.mod,a.kind,a.glob,a.blt,a.above,a.inj,a.has,a.ko,a.hd,a.frames,a.oq,a.kq,a.bs,a.Vj,a.Eo,a.zo,a.Vh,a.Sl⟩
theorem XZ(I:Inv X pins σ H s):Inv (X.Po (X.pn++pins) xe) [] σ H s:={SY I.ok,I.os,I.bare,I.base,I.loc,I.cell,I.free,I.eh,λp a=>I.pin p (by simpa using a),I.vb,I.len}
theorem Rp(I:Inv (X.Po (X.pn++pins) xe) pins2 σ H s):Inv X pins σ H s:={b8 I.ok,I.os,I.bare,I.base,I.loc,I.cell,I.free,I.eh,λp a=>I.pin p (Pe.mpr (.inl a)),I.vb,I.len}
theorem IQ{a:bb}(b:a.frames=X.A.frames)(I:Inv X pins σ H s):Inv (X.Ds a) pins σ H s:=
 {{I.ok.mod,I.ok.kind,I.ok.glob,I.ok.blt,I.ok.above,I.ok.inj,I.ok.has,I.ok.ko,λz=>mi z,b.trans I.ok.frames,I.ok.oq,I.ok.kq,I.ok.bs,I.ok.Vj,I.ok.Eo,I.ok.zo,I.ok.Vh,I.ok.Sl},I.os,I.bare,I.base,I.loc,I.cell,I.free,I.eh,I.pin,I.vb,I.len}
theorem cA{a:bb}(b:X.Ok)(I:Inv (X.Ds a) pins σ H s):Inv X pins σ H s:=⟨b,I.os,I.bare,I.base,I.loc,I.cell,I.free,I.eh,I.pin,I.vb,I.len⟩
theorem kE{D:Ends}{f:Flow}{s':ja}(h:SP (X.Po (X.pn++pins) xe) pins2 D f s'):SP X pins D f s':=by
 cases f with
 |next=>obtain⟨a,b,I,q⟩:=h;exact{a,b,Rp I,q}
 |brk=>obtain⟨a,b,I,q⟩:=h;exact{a,b,Rp I,q}
 |cont=>obtain⟨a,b,I,q⟩:=h;exact{a,b,Rp I,q}
 |ret u=>obtain⟨v,a,b,I,r,q⟩:=h;exact{v,a,b,Rp I,r,q}
end
theorem TN{st:za}{v:ua}{tb:XK->TS}{a:TE}{c:Str}{np d g pos:La}{i:Addr}(j:X.stack=X.env::X.outer)(hf:X.env.frame=ba X.env.locals)(XE:Lo X.K X.mg c i)(hg:Gl X c)
  (hb:∀(pn:List (Addr×Obj))(xe:Value->ja->Prop)(E:XK),vk (Uh X.prog X.w i) (X.Po pn xe) E->PS (X.Po pn xe) st (tb E))
  (hv:∀A':bb,PE (X.Ds A') v a) (k:autoParam ((c==("__debug__":Str))=ma) ZQ1._auto_1):
  PS X (.Try [st] [.ExceptHandler (ba (.Name c np)) ia [.Return (ba v) d] g] [] [] pos) (λD σ H=>tb (λ_ _ H'=>∀l,a l H' D.rt) D σ H):=by
 intro m s σ H D I h;refine wpAny_Try_except ?_;have key:=Ca (hb (X.pn++m) (λe s1=>ra (Ea X.prog X.w) X.A (JR e X.env) (λ_ n=>ra (Ea X.prog X.w) X.A (setFlight e ia) (λ_ s3=>
   ra (Ea X.prog X.w) X.A (handleBy e X.env [.ExceptHandler (ba (.Name c np)) ia [.Return (ba v) d] g]) (SP X m D) X.xe s3) X.xe n) X.xe s1) (λ_ _ H'=>∀l,a l H' D.rt) ?pass)
 case pass=>
  intro pins2 p H2 n ev r I2 hx;obtain⟨e,T,H',rfl,ho,t,un,w,fl,he,hT,x,y,q⟩:=hx;have I':=I2.kA (ch:=[]) ho un w t λb z=>absurd z (by simp);have A:X.A.frames=ba (X.env::X.outer):=by rw[<-j];exact I.ok.frames
  have hl:r.heap.FunFrames X.base (X.env::X.outer):=by rw[<-j];exact I'.stack
  have fl0:=fl;obtain⟨oe,vs,a0,oT,ts,B,hc,hd,h0,h1,C,F,hdT,h3⟩:=fl;have G:Heap.FlyingW (So r.heap (Zd (X.env::X.outer)++[e,T])) (X.env::X.outer) e (.ref i) a0 r.heap:=
   {xJ _ _,nB _ (by simp),RC [e,T] hl,oe,vs,T,oT,ts,B,⟨hc,h0⟩,hd,h1,nB _ (by simp),C,F,hdT,h3}
  have J:∀b∈[e,T],n.heap.get? b=ia/\H' b=ia:=λb K=>by
   have K:b=e\/b=T:=by simpa using K
   rcases K with rfl|rfl
   .exact⟨x,he⟩
   .exact⟨y,hT⟩
  have L:∀M:Heap,(So r.heap (Zd (X.env::X.outer)++[e,T])).StaysIn M->r.heap.UpToSlots M->Inv (X.Po (X.pn++m) _) pins2 p H' {r with heap:=M}:=λM hs5 N=>by
   have O:Mm (Zd (X.env::X.outer)) [e,T] r.heap M:=LF hl hs5 N;have un5:Un (Zd X.stack) [] H2 H' n.heap M:=Un.Yv un (by rw[j];exact O) (λb K=>(J b K).1) λb o _ z=>z;refine I2.kA (s':={r with heap:=M}) (ch:=[]) ho un5 ?_ t λb z=>absurd z (by simp);exact ud.Yv w O (λb K=>I'.dA b (by show b∈Zd X.stack;rw[j];exact K)) λb K=>(J b K).2
  show ra (Ea X.prog X.w) X.A (JR (.ref e) X.env) _ _ r;refine wpAny_looks_onW A hf G λh4 P hu4=>?_;refine wpAny_landsW P λM Q R=>?_;have N:=hu4.trans R;have I5:=L M Q.1 N;have J5:Inv (X.Ds (X.A.mark (ba (.ref e)))) m p H' {r with heap:=M}:=IQ rfl (Rp I5);obtain⟨bm,NN,nm,qn,bs,hdd,sn,sub,ab,col,dd,k0,k1,k2,k3,k5,mN,hC,hN,hni,TL⟩:=OP I.ok.mod.Dr XE.ok;obtain⟨ob,hob,S⟩:=Q.there;refine wpAny_handleBy_cons (codeAny_handlers_test (Wr (X:=X.Ds (X.A.mark (ba (.ref e)))) J5 hg XE.mg ?_ k)) (by intro z;cases z);refine wpAny_excMatches_sub_self (J5.bk _ _ hC) hob S (TL.hasType (by decide)) (codeAny_handlers_suite ?_);refine lands_againW Q λh6 U hu6=>?_;have I6:=L h6 U.1 (N.trans hu6);have J6:Inv (X.Ds (X.A.mark (ba (.ref e)))) m p H' {r with heap:=h6}:=IQ rfl (Rp I6);refine jh (Ca (Oa (hv (X.A.mark (ba (.ref e))))) m _ p H' D J6 (q p)) (λf s3 V=>?_) λ_ _ z=>Og z;cases f with
  |next=>obtain⟨l,W,Y,Z⟩:=V;exact{l,W,cA I.ok Y,Z}
  |brk=>obtain⟨l,W,Y,Z⟩:=V;exact{l,W,cA I.ok Y,Z}
  |cont=>obtain⟨l,W,Y,Z⟩:=V;exact{l,W,cA I.ok Y,Z}
  |ret u=>obtain⟨v3,l,W,Y,r3,Z⟩:=V;exact{v3,l,W,cA I.ok Y,r3,Z}
 refine jh (key [] s σ H D (XZ I) h) (λf s1 V=>?_) λ_ _ z=>z;cases f with
 |next=>
  obtain⟨l,H',I1,q⟩:=V;exact oB {l,H',Rp I1,q}
 |brk=>exact kE V
 |cont=>exact kE V
 |ret u=>exact kE V
end L2
namespace Tl
inductive Kv(P:Va)(w:Pa)(K:xa)(mg:Str->Option Value)(base:Heap)(XC:Addr)(k:Nat)(x:Str)(ps:List Str)(sp:Sp):Prop|mk:∀f fd,mg x=ba (.ref f)->km K (.ref f)=da->Binds K fd ps []->Te P w K mg base (Uh P w XC) k f fd ps sp->Kv P w K mg base XC k x ps sp
inductive Gr(P:Va)(w:Pa)(K:xa)(mg:Str->Option Value)(base:Heap)(XC:Addr)(k:Nat)(C:Addr)(m:Str)(ps:List Str)(sp:Sp):Prop|mk:∀f fd,Vw K C m f->Binds K fd ps []->Te P w K mg base (Uh P w XC) k f fd ps sp->Gr P w K mg base XC k C m ps sp
theorem bL{x:Str}{sp:Sp}{p pos:La}{es:List ua}{t:TA}{a:Addr}{E:XK}(h:Kv X.prog X.w X.K X.mg X.base a k x ps sp)(b:Ad k X.A)(c:vk (Uh X.prog X.w a) X E)(d:PA X (e::es) t)(g:autoParam (Gl X x) ZQ0._auto_1)
  (i:autoParam ((x==("__debug__":Str))=ma) ZQ1._auto_1) (j:autoParam (Jc (e::es) X.env=(ma,Ic e X.env)::Jc es X.env) ZQ0._auto_1) (l:autoParam ((Ye pos (Jc es X.env)).any (·.1)=ma) ZQ0._auto_1):
  PE X (.Call (.Name x p) (e::es) [] pos) (me sp [] E t):=by
 obtain⟨f,m,n,o,q,r⟩:=h;exact AQ r b g n o q .nil c d i j l
theorem vC{m:Str}{sp:Sp}{a pos:La}{o:ua}{b:TE}{d:Addr}{E:XK}{pl:Ma Bool}(h:Gr X.prog X.w X.K X.mg X.base d k C m ps sp)(c:dh X.K C)(e:Ad k X.A)(g:vk (Uh X.prog X.w d) X E)(i:PE X o b)
  (j:autoParam (Ic (.Call (.Attribute o m a) [] [] pos) X.env=(do
   let l<-Ic o X.env
   Fx a.atName
   let(f,first)<-To [l] (zB l m pl)
   kR pos f first (Ye pos (Jc [] X.env)) (Mx pos (Ox [] X.env)))) ZQ0._auto_1):PE X (.Call (.Attribute o m a) [] [] pos) (Il C m sp [] E b Xb):=by
 obtain⟨f,n,p,q,r⟩:=h;exact cM i c p r e q .nil g j
theorem Ig{m:Str}{sp:Sp}{a pos:La}{o:ua}{b:TE}{pl:Ma Bool}(h:Ue X.prog X.w X.K X.mg X.base k C m ps sp)(c:dh X.K C)(d:Ad k X.A)(e:PE X o b)
  (g:autoParam (Ic (.Call (.Attribute o m a) [] [] pos) X.env=(do
   let i<-Ic o X.env
   Fx a.atName
   let(f,first)<-To [i] (zB i m pl)
   kR pos f first (Ye pos (Jc [] X.env)) (Mx pos (Ox [] X.env)))) ZQ0._auto_1):PE X (.Call (.Attribute o m a) [] [] pos) (Il C m sp [] E0 b Xb):=by
 obtain⟨f,j,l,n,p⟩:=h;exact cM e c l p d n .nil nz g
noncomputable def af(a:Addr)(p:Nat):List (Str×V):=Bd "place" (.int (p:Int)) (Bd "text" (.ref a) [])
theorem aE(a:Addr)(p:Nat):(af a p).lookup ("text":Str)=ba (.ref a):=by
 unfold af;rw[Ah,oa (by decide),Ah,qa rfl]
theorem Zp(a:Addr)(p:Nat):(af a p).lookup ("place":Str)=ba (.int (p:Int)):=by
 unfold af;rw[Ah,qa rfl]
theorem CO(a:Addr)(p q:Nat):Bd "place" (.int (q:Int)) (af a p)=af a q:=by
 show(if("text":Str)="place" then _ else(("text":Str),V.ref a)::(if("place":Str)="place" then _ else _))=_;rw[oa (by decide),qa rfl];rfl
theorem mB(a:Addr)(p:Nat){m:Str}(b:¬m="text")(c:¬m="place"):(af a p).lookup m=ia:=by
 unfold af;rw[Ah,oa c,Ah,oa b];rfl
structure Th(CA:Addr)(H:Hp)(rp a:Addr)(p:Nat)(t:Text):Prop where
 ins:∃dx,H rp=ba (.ins CA dx (af a p))
 txt:H a=ba (.tup (txt t))
def ed(H H':Hp)(rp:Addr):Prop:=∀b u,H b=ba u->b≠rp->H' b=ba u
theorem ka.ye{a:Hp}(s:ka H a)(c:Addr):ed H a c:=λb u h _=>s b u h
theorem ed.trans{d e f:Hp}{g:Addr}(a:ed d e g)(b:ed e f g):ed d f g:=λc u h n=>b c u (a c u h n) n
theorem Th.same{b:Addr}{c:Hp}{d:Addr}{p:Nat}{t:Text}(h:Th b H d a p t)(s:ka H c):Th b c d a p t:=by
 obtain⟨⟨e,f⟩,g⟩:=h;exact{{e,s _ _ f},s _ _ g}
structure js(K:xa)(CA:Addr):Prop where
 cl:dh K CA
 nT:Gh K CA "text"
 nP:Gh K CA "place"
noncomputable def rk(t:Text)(p:Nat):Option (Nat×Nat):=
 if((t.take (p+5)).drop p).contains 58=ma then ia else
  let a:=((t.take (p+5)).drop p).take (((t.take (p+5)).drop p).findIdx (·==58))
  if Hf a=ma then ia else ba (lk a,p+a.length+1)
noncomputable def Eh(t:Text)(p:Nat):Option (Text×Nat):=match rk t p with
 |none=>ia
 |some (n,q)=>if¬((t.take (q+n)).drop q).length=n then ia else ba ((t.take (q+n)).drop q,q+n)
inductive ox(CA:Addr)(vs:List V)(H:Hp)(Q:VK)(X3:XK):Prop|mk:∀(rp dx a:Addr)(t:Text),vs=[.ref rp,.ref a]->H rp=ba (.ins CA dx [])->H a=ba (.tup (txt t))->(∀H':Hp,Th CA H' rp a 0 t->(∀b o,H b=ba o->b≠rp->H' b=ba o)->Q .Tb H')->ox CA vs H Q X3
theorem lV{c:Addr}(G:GI K mg "ArchiveReader" c "ArchiveReader.__init__" PJ ["self","text"])(T:js K c):Bh P w K mg base 1 "ArchiveReader" c ["self","text"] (ox c):=by
 obtain⟨f,d,G,e,g,h⟩:=G;refine{f,d,g,e,h,G.go (N:=["self","text"]) ?_};rintro i A j s H l Q E m n X D ⟨p,q,a,t,rfl,r,u,k⟩;refine{_,Ga (Rh (pv 0) (pv 1) rfl) (Ca (Rh (pv 0) Sb rfl)),?_};refine{_,rfl,_,rfl,p,c,q,[],rfl,r,T.cl,T.nT,(by show 0< 1000;decide),?_};refine{_,rfl,p,c,q,_,rfl,wa,T.cl,T.nP,(by show 1< 1000;decide),?_};have v:a≠p:=Vb u r;refine k _ {⟨q,wa⟩,by rw[Ja v,Ja v];exact u} λb o e x=>by rw[Ja x,Ja x];exact e
inductive Qv(CA:Addr)(vs:List V)(H:Hp)(Q:VK)(X3:XK):Prop|mk:∀rp a p t,vs=[.ref rp]->Th CA H rp a p t->(∀H',ka H H'->Q (.bl (decide (t.drop p=[46]))) H')->Qv CA vs H Q X3
theorem D0{b:Addr}(G:GM K b "at_last" "ArchiveReader.at_last" eK ["self"])(T:js K b)(c:Jl K mg):Ue P w K mg base 1 b "at_last" ["self"] (Qv b):=by
 obtain⟨f,d,G,g,h⟩:=G;obtain⟨r,i,j⟩:=c.JJ;refine{f,d,h,g,G.go (N:=["self"]) ?_};rintro l A m s H n Q E o u X D ⟨v,a,p,t,rfl,⟨⟨x,y⟩,z⟩,k⟩;have B:=u.units;refine{_,Ca (Oa (oh (Ei B) (Oe Ff (vc (pv 0) rfl) (Ud (vc (pv 0) rfl)) Gg) (Wa i) (Yb _))),?_};refine{_,rfl,v,b,x,_,.ref a,rfl,y,T.cl,T.nT,aE _ _,_,rfl,v,b,x,_,.int (p:Int),rfl,y,T.cl,T.nP,Zp _ _,_,rfl,a,t,rfl,z,λq C F I=>?_};have e:cut t (ba (p:Int)) ia=t.drop p:=Km t p;rw[e] at I;exact{q,r,_,[46],rfl,rfl,Ba.of I,j C,k C F}
inductive lG(CA XC:Addr)(vs:List V)(H:Hp)(Q:VK)(E:XK):Prop|mk:∀rp a p t,vs=[.ref rp]->Th CA H rp a p t->t.length<=100000->p<=t.length->(∀H' n q,rk t p=ba (n,q)->ed H H' rp->Th CA H' rp a q t->Q (.int (n:Int)) H')->(rk t p=ia->∀H',ka H H'->E (.ref XC) ia H')->lG CA XC vs H Q E
theorem ML:Vk ["self","signs","digits"] ["self"] (Qc qD):=by k_extra "s"
theorem GY{d e:Addr}(G:GM K d "read_length" "ArchiveReader.read_length" qD ["self"])(T:js K d)(g:Jl K mg)(Tl:mg "len"=ia)(XE:Lo K mg "NotAnArchive" e)(h1:Aa P w K mg base 1 "is_decimal" (Hv Hf))(h2:Aa P w K mg base 1 "number_told" YA):
  Gr P w K mg base e 2 d "read_length" ["self"] (lG d e):=by
 obtain⟨f,fd,G,j,hm⟩:=G;refine{f,fd,hm,j,G.sD ML (λvs H Q E h=>?_) (λcdv A k s H vs Q E hr h=>?_)}
 .obtain⟨l,a,p,t,rfl,_⟩:=h;rfl
 obtain⟨l,a,p,t,rfl,⟨⟨m,n⟩,o⟩,hz,hp,k1,k2⟩:=h;have nd:=ML.nd;refine⟨_,Ga (nc (i:=1) (Oe Ff (vc (pv 0) rfl) (Ud (vc (pv 0) rfl)) (Ud (Fc We (Fc We (vc (pv 0) rfl) (Wa g.AZ)) Sb))))
  (Ga (Lb (fc oO (Wa g.Qm) (pv 1) (by with_unfolding_all rfl)) (Ca (oA XE (la Iz pa))) Ob)
  (Ga (nc (i:=2) (Oe Ff (pv 1) Gg (Ud (oz uH lH eS DF (pv 1) (la (Wa g.Qm) pa)))))
  (Ga (Lb (Yf (Nd (Ya h1 hr (la (pv 2) pa)))) (Ca (oA XE (la Iz pa))) Ob)
  (Ga (Rh (pv 0) (Fc We (Fc We (vc (pv 0) rfl) (Cc je (by rfl) Tl Sd (la (pv 2) pa))) Sb) rfl)
  (Ca (Oa (Ya h2 hr (la (pv 2) pa)))))))),?_⟩
 refine{_,rfl,l,d,m,_,.ref a,rfl,n,T.cl,T.nT,aE _ _,_,rfl,l,d,m,_,.int (p:Int),rfl,n,T.cl,T.nP,Zp _ _,_,rfl,_,rfl,l,d,m,_,.int (p:Int),rfl,n,T.cl,T.nP,Zp _ _,_,_,rfl,rfl,_,_,rfl,rfl,_,rfl,a,t,rfl,o,λq H1 r v=>?_};have e1:cut t (ba (p:Int)) (ba ((p:Int)+4+1))=(t.take (p+5)).drop p:=by
  have:=mv t p (p+5);rw[show(((p+5:Nat)):Int)=(p:Int)+4+1 by omega] at this;exact this
 rw[e1] at v;have x:rk t p=if((t.take (p+5)).drop p).contains 58=ma then ia else if Hf (((t.take (p+5)).drop p).take (((t.take (p+5)).drop p).findIdx (·==58)))=ma then ia else
   ba (lk (((t.take (p+5)).drop p).take (((t.take (p+5)).drop p).findIdx (·==58))),p+(((t.take (p+5)).drop p).take (((t.take (p+5)).drop p).findIdx (·==58))).length+1):=rfl
 have hsg5:((t.take (p+5)).drop p).length<=5:=by rw[ue,rd];omega
 generalize hsg:(t.take (p+5)).drop p=sg at*
 refine Zb (BO (K:=K) 1 58 rfl v) (ka.refl H1) λH2 y=>cb (λz=>?_) (λz=>?_)
 .refine{by decide,k2 ?_ H2 (r.trans y)};rw[x,qa (by simpa using z)]
 have B:¬sg.contains 58=ma:=by simpa using z
 have C:58∈sg:=by simpa using z
 rw[oa B] at x;refine{_,rfl,_,rfl,{q,_,rfl,y _ _ v},q,sg,58,rfl,rfl,y _ _ v,C,_,rfl,q,sg,rfl,y _ _ v,λD H3 s3 F=>?_};have e3:cut sg ia (ba ((sg.findIdx (·==58):Nat):Int))=sg.take (sg.findIdx (·==58)):=Nt sg _;rw[e3] at F;have I:(sg.take (sg.findIdx (·==58))).length<=5:=by rw[rd];omega
 generalize hdg:sg.take (sg.findIdx (·==58))=dg at*
 have tn:Pb H3 (Ol (tB (me (Hv Hf) [] E0 (Kb (Ua 2) Xb)))) [ba (.ref l),ba (.ref q),ba (.ref D)] (!Hf dg):=Pb.not λH' Q' s' q'=>{_,rfl,D,dg,rfl,s' _ _ F,by omega,λJ L=>{_,rfl,q' J (s'.trans L)}};refine Zb tn (ka.refl H3) λJ L=>cb (λM=>?_) (λM=>?_)
 .refine{by decide,k2 ?_ J (r.trans (y.trans (s3.trans L)))};rw[x,qa (by simpa using M)]
 have N:Hf dg=da:=by simpa using M
 rw[oa (by rw[N];exact mi)] at x;have O:=r.trans (y.trans (s3.trans L));have R:=O _ _ n;refine{_,rfl,l,d,m,_,.int (p:Int),rfl,R,T.cl,T.nP,Zp _ _,_,rfl,D,_,rfl,.inr (Ba.of (L _ _ F)),_,_,rfl,rfl,_,_,rfl,rfl,_,rfl,l,d,m,_,rfl,R,T.cl,T.nP,(by show 2< 1000;decide),?_};rw[gc];have e5:Bd "place" (V.int ((p:Int)+(dg.length:Int)+1)) (af a p)=af a (p+dg.length+1):=by
  have:=CO a p (p+dg.length+1);rw[show(((p+dg.length+1:Nat)):Int)=(p:Int)+(dg.length:Int)+1 by omega] at this;exact this
 rw[e5];have S:D≠l:=Vb (L _ _ F) R;have U:a≠l:=Vb (O _ _ o) R;have W:∀c∈dg,48<=c/\c<=57:=λc X=>by
  unfold Hf at N;split at N
  .cases N
  .split at N
   .cases N
   .rename_i h6
    have:=Df.mp (show dg.all Gd=da by simpa using h6) c X;unfold Gd at this;simp at this;exact this
 refine{_,rfl,D,dg,rfl,by rw[Ja S];exact L _ _ F,I,W,λH5 Y=>k1 H5 _ _ x (λb u j Z=>Y _ _ (by rw[Ja Z];exact O _ _ j)) ?_};exact{{m,Y _ _ wa},Y _ _ (by rw[Ja U];exact O _ _ o)}
inductive mG(CA XC:Addr)(vs:List V)(H:Hp)(Q:VK)(E:XK):Prop|mk:∀rp a p t,vs=[.ref rp]->Th CA H rp a p t->t.length<=100000->p<=t.length->(∀H' b u q,Eh t p=ba (u,q)->ed H H' rp->Th CA H' rp a q t->H' b=ba (.tup (txt u))->Q (.ref b) H')->(Eh t p=ia->∀H',ed H H' rp->E (.ref XC) ia H')->mG CA XC vs H Q E
theorem iQ:Vk ["self","length","text"] ["self"] (Qc nE):=by k_extra "s"
theorem EZ{d g:Addr}(G:GM K d "read_text" "ArchiveReader.read_text" nE ["self"])(T:js K d)(Tl:mg "len"=ia)(j:Lo K mg "NotAnArchive" g)(k:Gr P w K mg base g 2 d "read_length" ["self"] (lG d g)):
  Gr P w K mg base g 3 d "read_text" ["self"] (mG d g):=by
 obtain⟨f,fd,G,l,hm⟩:=G;refine{f,fd,hm,l,G.sD iQ (λvs H Q E h=>?_) (λcdv A m s H vs Q E hr h=>?_)}
 .obtain⟨o,a,p,t,rfl,_⟩:=h;rfl
 obtain⟨o,a,p,t,rfl,r,hz,hp,k1,x⟩:=h;have nd:=iQ.nd;refine⟨_,Ga (nc (i:=1) (vC k T.cl hr JF (pv 0)))
  (Ga (nc (i:=2) (Oe Ff (vc (pv 0) rfl) (Ud (vc (pv 0) rfl)) (Ud (Fc We (vc (pv 0) rfl) (pv 1)))))
  (Ga (Lb (fc qC (Cc je (by rfl) Tl Sd (la (pv 2) pa)) (pv 1) (Yb _)) (Ca (oA j (la Iz pa))) Ob)
  (Ga (Rh (pv 0) (Fc We (vc (pv 0) rfl) (pv 1)) rfl)
  (Ca (Oa (pv 2)))))),?_⟩
 obtain⟨⟨y,z⟩,ha0⟩:=id r;refine{_,rfl,o,y,_,rfl,z,mB _ _ (by decide) (by decide),o,a,p,t,rfl,r,hz,hp,λH1 n q hl B C=>?_,λhn H' s'=>x (by unfold Eh;rw[hn]) H' (ka.ye s' _)};obtain⟨⟨D,F⟩,I⟩:=id C;have J:Eh t p=if¬((t.take (q+n)).drop q).length=n then ia else ba ((t.take (q+n)).drop q,q+n):=by unfold Eh;rw[hl]
 refine{_,rfl,o,d,D,_,.ref a,rfl,F,T.cl,T.nT,aE _ _,_,rfl,o,d,D,_,.int (q:Int),rfl,F,T.cl,T.nP,Zp _ _,_,rfl,_,rfl,o,d,D,_,.int (q:Int),rfl,F,T.cl,T.nP,Zp _ _,_,rfl,_,_,rfl,rfl,_,rfl,a,t,rfl,I,λc L M N=>?_};have e1:cut t (ba (q:Int)) (ba ((q:Int)+(n:Int)))=(t.take (q+n)).drop q:=by
  have:=mv t q (q+n);rw[show(((q+n:Nat)):Int)=(q:Int)+(n:Int) by omega] at this;exact this
 rw[e1] at N
 generalize hu:(t.take (q+n)).drop q=u at*
 have tt:Pb L (Ed (Vc MC (qh (λxs H Q=>∃p O,xs=[V.ref p]/\(Ia K H p O\/Ba K H p O)/\Q (.int O.length) H) (Kb (Ua 2) Xb)) (Ua 1))) [ba (.ref o),ba (.int (n:Int)),ba (.ref c)] (!decide (u.length=n)):=λR Q3 S q3=>by
  refine{_,rfl,c,_,rfl,.inr (Ba.of (S _ _ N)),_,rfl,rfl,_,rfl,?_};rw[gc,show decide (V.int (u.length:Int)=V.int (n:Int))=decide (u.length=n) from mh.mpr {λe=>by injection e with e;omega,λe=>by rw[e]}];exact q3 R S
 refine Zb tt (ka.refl L) λR S=>cb (λhd=>?_) (λhd=>?_)
 .refine{by decide,x (by rw[J,qa (by simpa using hd)]) R (B.trans (ka.ye (M.trans S) _))}
 have U:u.length=n:=by simpa using hd
 rw[oa (by simpa using U)] at J;have W:=S _ _ (M _ _ F);refine{_,rfl,o,d,D,_,.int (q:Int),rfl,W,T.cl,T.nP,Zp _ _,_,rfl,_,_,rfl,rfl,_,rfl,o,d,D,_,rfl,W,T.cl,T.nP,(by show 2< 1000;decide),?_};have e5:Bd "place" (V.int ((q:Int)+(n:Int))) (af a q)=af a (q+n):=by
  have:=CO a q (q+n);rw[show(((q+n:Nat)):Int)=(q:Int)+(n:Int) by omega] at this;exact this
 rw[e5];have X:c≠o:=Vb (S _ _ N) W;have Y:a≠o:=Vb (S _ _ (M _ _ I)) W;refine{_,rfl,k1 _ c u (q+n) J (λb v l Z=>by rw[Ja Z];exact S _ _ (M _ _ (B b v l Z))) {⟨D,wa⟩,by rw[Ja Y];exact S _ _ (M _ _ I)} (by rw[Ja X];exact S _ _ N)}
theorem U4{p:Text}(h:p∉x.map (·.1)):others x p=x:=by
 unfold others;rw[List.filter_eq_self];intro f hf;have:¬f.1=p:=λe=>h (Mb.mpr ⟨f,hf,e⟩);simpa using this
theorem Z7{g:Ent}{p b:Text}(h:¬g.1=p):md (g::x) p b=g::md x p b:=by
 unfold md;rw[ji,Rf h,ll,Nb,oa h];split<;>rfl
theorem DN{p b:Text}:∀{x:List Ent},(x.map (·.1)).Nodup->(md x p b).Perm ((p,b)::others x p)
 |[],_=>by
  unfold md others;exact JH _
 |g::x,a=>by
  obtain⟨c,d⟩:=tj.mp (show(g.1::x.map (·.1)).Nodup from a);by_cases h:g.1=p
  .have i:p∉x.map (·.1):=h▸c;have j:md (g::x) p b=(p,b)::x:=by
    unfold md;rw[ji,Xc h,LR,qa rfl,Nb,qa h,h]
    congr 1
    refine(Am λf hf=>?_).trans (Cu x);have:¬f.1=p:=λe=>i (Mb.mpr ⟨f,hf,e⟩);rw[oa this];rfl
   have k:others (g::x) p=x:=by
    unfold others;rw[jk,oa (by simpa using h)];exact U4 i
   rw[j,k]
  .have k:others (g::x) p=g::others x p:=by
    unfold others;rw[jk,qa (by simpa using h)]
   rw[Z7 h,k];exact((DN d).cons g).trans (aaq _ _ _)
theorem zD{p:Text}{f:Ent}(h:f∈others x p):f∈x/\¬f.1=p:=by
 obtain⟨a,b⟩:=Mc.mp h;exact{a,by simpa using b}
theorem SW{p b:Text}(c:Small x)(d:gb p=da)(e:b.length<=4096)(hf:¬xk x p b=da):Small (md x p b)/\Tight (md x p b):=by
 have g:=DN (p:=p) (b:=b) c.nd;have i:=g.length_eq;have j:((md x p b).map λf=>f.2.length).sum=b.length+((others x p).map λf=>f.2.length).sum:=by
  rw[(g.map λf=>f.2.length).sum_nat];rfl
 unfold xk at hf;have k:(others x p).length+1<=64/\((others x p).map λf=>f.2.length).sum+b.length<=8192:=by
  have m:∀l:List Ent,(l.map λf=>((f.2.length:Nat):Int)).sum=(((l.map λf=>f.2.length).sum:Nat):Int):=by
   intro l
   induction l with
   |nil=>rfl
   |cons a l n=>rw[Nb,Em,n,Nb,Em];omega
  rw[m] at hf;simp at hf;omega
 have o:∀f∈md x p b,f=(p,b)\/f∈others x p:=λf h=>jc.mp (g.mem_iff.mp h);refine{{?_,λf h=>?_,λf h=>?_,?_},{?_,?_}}
 .rw[i,Oc];omega
 .rcases o f h with rfl|h
  .exact d
  .exact c.path f (zD h).1
 .rcases o f h with rfl|h
  .exact Bc e (by decide)
  .exact c.b f (zD h).1
 .rw[(g.map (·.1)).nodup_iff,Nb,tj];refine{λh=>?_,?_}
  .obtain⟨f,q,r⟩:=Mb.mp h;exact(zD q).2 r
  .exact c.nd.sublist (DH _ (zl))
 .rw[i,Oc];omega
 .rw[j];omega
theorem wQ{p b:Text}(a:Small x)(c:Tight x):Small (Vd x p b).2/\Tight (Vd x p b).2:=by
 unfold Vd;split
 .exact⟨a,c⟩
 .rename_i d
  split
  .exact⟨a,c⟩
  .rename_i e
   split
   .exact⟨a,c⟩
   .split
    .exact⟨a,c⟩
    .rename_i f
     exact SW a (by simpa using d) (by omega) f
noncomputable def zi:Nat->Text->Nat->List Ent->Option (List Ent)
 |0,_,_,_=>ia
 |k+1,t,p,x=>if t.drop p=[46] then ba x else match Eh t p with
  |none=>ia
  |some (u,q)=>match Eh t q with
   |none=>ia
   |some (v,a)=>if(Vd x u v).1=[1] then zi k t a (Vd x u v).2 else ia
theorem RX{t:Text}{p n q:Nat}(h:rk t p=ba (n,q)):p< q/\q<=t.length:=by
 unfold rk at h;split at h
 .cases h
 .rename_i a
  have b:58∈(t.take (p+5)).drop p:=by simpa using a
  have c:((t.take (p+5)).drop p).findIdx (·==58)< ((t.take (p+5)).drop p).length:=mH.mpr {58,b,by simp};have d:((t.take (p+5)).drop p).length=min (p+5) t.length - p:=by rw[ue,rd]
  simp only at h;split at h
  .cases h
  .cases h;rw[rd];omega
theorem cz{t u:Text}{p q:Nat}(h:Eh t p=ba (u,q)):p< q/\q<=t.length/\u.length<=t.length:=by
 unfold Eh at h;cases a:rk t p with
 |none=>rw[a] at h;cases h
 |some nq=>
  obtain⟨n,b⟩:=nq;rw[a] at h;simp only at h;have c:=RX a;split at h
  .cases h
  .rename_i d
   cases h;have d:((t.take (b+n)).drop b).length=n:=by simpa using d
   have e:=d;rw[ue,rd] at e;omega
theorem WE(t:Text):∀(k:Nat)(p:Nat)(x:List Ent),p<=t.length->t.length+1 - p<=k->zi k t p x=zi (t.length+1 - p) t p x
 |0,p,x,a,b=>by omega
 |k+1,p,x,a,b=>by
  rw[show t.length+1 - p=(t.length - p)+1 by omega];unfold zi;split
  .rfl
  .cases c:Eh t p with
   |none=>rfl
   |some uq=>
    obtain⟨u,q⟩:=uq;have d:=cz c;simp only;cases e:Eh t q with
    |none=>rfl
    |some vq=>
     obtain⟨v,f⟩:=vq;have g:=cz e;simp only;split
     .rw[WE t k f _ g.2.1 (by omega),WE t (t.length - p) f _ g.2.1 (by omega)]
     .rfl
noncomputable def Vl(t:Text):Option (List Ent):=zi (t.length+1) t 0 []
theorem gK(t:Text):∀(k:Nat)(p:Nat)(x y:List Ent),Small x->Tight x->zi k t p x=ba y->Small y/\Tight y
 |0,p,x,y,_,_,h=>by cases h
 |k+1,p,x,y,a,c,h=>by
  unfold zi at h;split at h
  .cases h;exact⟨a,c⟩
  .cases d:Eh t p with
   |none=>rw[d] at h;cases h
   |some uq=>
    rw[d] at h;simp only at h;cases e:Eh t uq.2 with
    |none=>rw[e] at h;cases h
    |some vq=>
     rw[e] at h;simp only at h;split at h
     .have:=wQ (p:=uq.1) (b:=vq.1) a c;exact gK t k _ _ _ this.1 this.2 h
     .cases h
theorem QI:Tight []:={by decide,by decide}
theorem J1{t:Text}{y:List Ent}(h:Vl t=ba y):Small y/\Tight y:=gK t _ _ _ _ IC QI h
theorem nN(t:Ka):Oi (.list (Se t))=da:=by
 unfold Oi;have a:=Xy t;rw[Kc];constructor
 .simp only[wm,jw]
 .simp only[ip];exact Xc (by omega:Dg (Se t)+1<=_)
inductive SE(K:xa)(x:V)(y:V)(H:Hp)(Q:VK):Prop|mk:∀l m a b,x= .ref l->y= .ref m->Ia K H l (nums a)->Ia K H m (nums b)->Q (.bl (!decide (a=b))) H->SE K x y H Q
theorem K7(c:X.A.units+64< Wc):zd X (ee .NotEq) (SE X.K):=by
 intro d s e H x y v u Q I f g h;obtain⟨l,m,a,b,rfl,rfl,i,j,q⟩:=h;refine kG c d s e H _ _ v u Q I f g {_,_,.lst i (Gq a),.lst j (Gq b),nN a,nN b,?_};simp only[og,mz];exact q
theorem U1{b:Addr}{Q:VK}{t:Text}(c:σ[i]?=ba (ba (.ref a)))(d:H a=ba (.tup (txt t)))(k:∀(H':Hp)(rp:Addr),ka H H'->H rp=ia->Th b H' rp a 0 t->Q (.ref rp) H'):
  Tn b (ox b) [] E0 (Kb (Ua i) Xb) σ H Q:=by
 refine{_,c,λx e f g h=>{x,e,a,t,rfl,wa,?_,λH' j l=>{rfl,k H' x (ka.made f g l) f j}}};rw[Ja (de d f),Ja (de d g)];exact d
inductive Vs(C XC:Addr)(vs:List V)(H:Hp)(Q:VK)(E:XK):Prop|mk:∀a t,vs=[.ref a]->H a=ba (.tup (txt t))->t.length<=100000->(∀H' p d x,Vl t=ba x->ka H H'->H p=ia->H d=ia->uc C H' p d x->Q (.ref p) H')->(Vl t=ia->∀H',ka H H'->E (.ref XC) ia H')->Vs C XC vs H Q E
noncomputable abbrev MW:List Str:=["text","tree","reader","path","data"]
theorem aJ:Vk MW ["text"] (Qc JD):=by k_extra "s"
theorem K6{g j:Addr}(G:GF K mg "tree_in_archive" JD ["text"])(T:js K g)(XE:Lo K mg "NotAnArchive" j)(h1:Bh P w K mg base 1 "Tree" C ["self"] (jq C))(h2:Bh P w K mg base 1 "ArchiveReader" g ["self","text"] (ox g))
  (h3:Ue P w K mg base 1 g "at_last" ["self"] (Qv g)) (h4:Gr P w K mg base j 3 g "read_text" ["self"] (mG g j)) (h5:Aa P w K mg base 4 "put_file" (Ho C Vd)):
  Kv P w K mg base j 5 "tree_in_archive" ["text"] (Vs C j):=by
 obtain⟨f,fd,G⟩:=G;refine{f,fd,G.mg,G.fn.kp,G.bd,G.fn.sD aJ (λvs H Q E h=>?_) (λcdv A outer s H vs Q E k h=>?_)}
 .obtain⟨a,t,rfl,_⟩:=h;rfl
 obtain⟨a,t,rfl,ha,hz,k1,k2⟩:=h;have n:=k.units;have nd:=aJ.nd;refine⟨_,Ga (nc (i:=1) (xA h1 (k.mono (by decide))))
  (Ga (nc (i:=2) (aK h2 (k.mono (by decide)) (la (pv 0) pa)))
  (Ga (yF XQ.leaving (Yf (Nd (Ig h3 T.cl (k.mono (by decide)) (pv 2))))
   (Ga (nc (i:=3) (vC h4 T.cl (k.mono (by decide)) JF (pv 2)))
   (Ga (nc (i:=4) (vC h4 T.cl (k.mono (by decide)) JF (pv 2)))
   (Ca (Lb (fc (K7 n) (Ya h5 k (la (pv 1) (la (pv 3) (la (pv 4) pa)))) (ic (la Sb pa)) (Yb _)) (Ca (oA XE (la Iz pa))) Ob)))))
  (Ca (Oa (pv 1))))),?_⟩
 refine Of (wG λH1 r d1 s1 y hd1 Tr1=>?_);refine Of (U1 (a:=a) (t:=t) rfl (s1 _ _ ha) λH2 B s2 hrp AR2=>?_);have D:H B=ia:=s1.free hrp;have nrt:∀{F:Hp}{d p x},uc C F r d x->Th g F B a p t->B≠r/\B≠d/\a≠r/\a≠d:=λ{F d p x} Tr AR=>by
  obtain⟨⟨dt,ht⟩,kv,hd,_⟩:=Tr;obtain⟨⟨dr,hr0⟩,ha0⟩:=AR;refine{Vb hr0 ht (λe=>?_),Vb hr0 hd,Vb ha0 ht,Vb ha0 hd};injection e with _ _ e3;have:=wc He e3;have h1:(af a p).length=2:=rfl;have h2:(ff d).length=1:=rfl;omega
 refine{λm σ F=>E4 λp d x v3=>∃v4,A5 (σ=[ba (.ref a),ba (.ref r),ba (.ref B),v3,v4]) (m=t.length+1 - p) (p<=t.length) (ka H F) (A5 (H d=ia) (uc C F r d x) (Th g F B a p t) (Small x) (Tight x/\Vl t=zi (t.length+1 - p) t p x)),
  {_,0,d1,[],ia,ia,rfl,rfl,Pd _,s1.trans s2,hd1,Tr1.same s2,AR2,IC,QI,rfl},?_}
 rintro m σ H3 ⟨p,d,x,v3,v4,rfl,rfl,hp,s3,hd,Tr,AR,hs,ht,I⟩;obtain⟨⟨dr,hi⟩,hat⟩:=id AR;have tl:Pb H3 (Ol (tB (Il g "at_last" (Qv g) [] E0 (Ua 2) Xb))) [ba (.ref a),ba (.ref r),ba (.ref B),v3,v4] (!decide (t.drop p=[46])):=Pb.not λH4 Q4 J q4=>
  {_,rfl,B,dr,_,rfl,J _ _ hi,mB _ _ (by decide) (by decide),B,a,p,t,rfl,AR.same J,λH5 s5=>{_,rfl,q4 H5 (J.trans s5)}}
 refine tl H3 _ (ka.refl H3) λH4 J=>cb (λL=>?_) (λL=>?_)
 .have hnl:¬t.drop p=[46]:=by simpa using L
  rw[show t.length+1 - p=(t.length - p)+1 by omega] at I;unfold zi at I;rw[oa hnl] at I;refine{λσ' F=>E4 λM d x v3=>∃v4,A5 (σ'=[ba (.ref a),ba (.ref r),ba (.ref B),v3,v4]) (p< M) (M<=t.length) (ka H F) (A5 (H d=ia) (uc C F r d x) (Th g F B a M t) (Small x) (Tight x/\Vl t=zi (t.length+1 - M) t M x)),
   (by rintro σ' F ⟨M,d',x',w3,w4,g1,g2,g3,g4,g5,g6,g7,g8,g9,g10⟩;exact{t.length+1 - M,by omega,M,d',x',w3,w4,g1,rfl,g3,g4,g5,g6,g7,g8,g9,g10}),?_}
  have N:=AR.same J;have Tr4:=Tr.same J;have s04:=s3.trans J;obtain⟨n1,n2,n3,n4⟩:=nrt Tr4 N;have O:∀{R Hb:Hp},ka H R->ed R Hb B->ka H Hb:=λsa kb b u S=>kb b u (sa b u S) (λz=>by rw[z,D] at S;cases S);have kT:∀{R Hb:Hp},ed R Hb B->Th g R B a p t\/True->uc C R r d x->(∃dx fs,R B=ba (.ins g dx fs))->uc C Hb r d x:=λkb _ Ta ⟨dx,fs,hr1⟩=>by
   refine Ta.at_ (λu n=>kb _ _ n (Gc n1)) (λu n=>kb _ _ n (Gc n2)) λb xs S=>kb b _ S (Vb S hr1)
  obtain⟨⟨dr4,hi4⟩,_⟩:=id N;refine{_,rfl,B,dr4,_,rfl,hi4,mB _ _ (by decide) (by decide),B,a,p,t,rfl,N,hz,hp,λH5 b u q hrd kp AR5 S=>?_,λhn H5 kp=>k2 (by rw[I,hn]) H5 (O s04 kp)};have b1:=cz hrd;rw[hrd] at I;simp only at I;have s05:=O s04 kp;have Tr5:=kT kp (.inr trivial) Tr4 {_,_,hi4};obtain⟨⟨dr5,U⟩,_⟩:=id AR5;refine{_,rfl,B,dr5,_,rfl,U,mB _ _ (by decide) (by decide),B,a,q,t,rfl,AR5,hz,b1.2.1,λH6 b' v q2 W X AR6 hb'=>?_,λhn H6 X=>k2 (by rw[I,hn]) H6 (O s05 X)};have b2:=cz W;rw[W] at I;simp only at I;have s06:=O s05 X;have Tr6:=kT X (.inr trivial) Tr5 {_,_,U};have hb6:H6 b=ba (.tup (txt u)):=X _ _ S (Vb S U);obtain⟨ok1,ok2⟩:=wQ (p:=u) (b:=v) hs ht;show Jm (Ed (Vc (SE K) (me (Ho C Vd) [] E0 (Kb (Ua 1) (Kb (Ua 3) (Kb (Ua 4) Xb)))) (jo (Kb (tC (.int 1)) Xb)))) (pQ E j (Kb (tC (.str _)) Xb)) qF _ [ba (.ref a),ba (.ref r),ba (.ref B),ba (.ref b),ba (.ref b')] H6;refine{_,rfl,_,rfl,_,rfl,r,d,x,b,u,b',v,rfl,Tr6,hs,hb6,hb',by omega,by omega,λH7 l d' Y Tr7 hd7 hl7 hl=>?_};refine{Lc,λl1 hl1=>?_};have sl:=Qa (o:=HO.lst [V.int 1]) hl1;refine{l,l1,(Vd x u v).1,[1],rfl,rfl,Ia.of (sl _ _ hl),Ia.of wa,_,rfl,?_};obtain⟨m1,m2,m3,m4⟩:=nrt Tr6 AR6;have s07:ka H H7:=λc w L=>Y c w (s06 c w L) (λz=>by rw[z,y] at L;cases L) (λz=>by rw[z,hd] at L;cases L);have s08:ka H (upd H7 l1 (.lst [.int 1])):=s07.trans sl;have AR7:Th g H7 B a q2 t:=by
   obtain⟨⟨dr6,hi6⟩,ha6⟩:=AR6;exact{{dr6,Y _ _ hi6 m1 m2},Y _ _ ha6 m3 m4}
  refine cb (λZ=>?_) (λZ=>?_)
  .refine{by decide,k2 ?_ _ s08};rw[I,oa (by simpa using Z)]
  .have hone:(Vd x u v).1=[1]:=by simpa using Z
   rw[qa hone,WE t (t.length - p) q2 _ b2.2.1 (by omega)] at I;refine{q2,d',(Vd x u v).2,ba (.ref b),ba (.ref b'),rfl,by omega,b2.2.1,s08,?_,Tr7.same sl,AR7.same sl,ok1,ok2,I};rcases hd7 with e|e
   .rw[e];exact hd
   .exact s06.free e
 .have hyl:t.drop p=[46]:=by simpa using L
  rw[show t.length+1 - p=(t.length - p)+1 by omega] at I;unfold zi at I;rw[qa hyl] at I;exact{_,rfl,k1 H4 r d x I (s3.trans J) y hd (Tr.same J)}
noncomputable def Fk(x:List Ent)(t:Text):List Int×List Ent:=match Vl t with
 |none=>([-11],x)
 |some y=>([(y.length:Int)],y)
noncomputable abbrev tO:List Str:=["tree","text","archived"]
theorem c3{c:Addr}(G:GF K mg "read_archive" MP ["tree","text"])(T:ig K mg C)(T2:Jl K mg)(Tl:mg "len"=ia)(XE:Lo K mg "NotAnArchive" c)(h1:Kv P w K mg base c 5 "tree_in_archive" ["text"] (Vs C c)):
  Aa P w K mg base 6 "read_archive" (uv C Fk):=by
 refine G.go (N:=tO) ?_;rintro f cdv A g s H vs Q E nd hr X D ⟨h,d,x,a,t,rfl,j,m,ha,hz,k⟩;refine⟨_,Ga (TN (tb:=λn=>Co (me (Vs C c) [] n (Kb (Ua 1) Xb)) (Le 2)) rfl rfl XE rfl (λpn xe n m=>nc (i:=2) (bL h1 hr m (la (pv 1) pa))) (λA'=>ic (la (Wa T2.ARCHIVE) pa)))
  (Ga (Rh (pv 0) (vc (pv 2) rfl) rfl)
  (Ca (Oa (ic (la (Cc CM (by rfl) Tl Sd (la (vc (pv 0) rfl) pa)) pa))))),?_⟩
 refine{_,rfl,a,t,rfl,ha,hz,λp q e y r v B he Ty=>?_,λhn p v σ'=>?_}
 .have F:Fk x t=([(y.length:Int)],y):=by unfold Fk;rw[r]
  obtain⟨⟨dy,hy⟩,I,J,L⟩:=Ty;obtain⟨⟨M,O⟩,kv,hd,en⟩:=j.same v;have hqt:q≠h:=λz=>by
   obtain⟨⟨_,h0⟩,_⟩:=j;rw[z,h0] at B;cases B
  have R:e≠h:=Vb J O;refine{_,rfl,q,C,dy,_,.ref e,rfl,hy,T.cl,T.nF,Me e,_,rfl,h,C,M,_,rfl,O,T.cl,T.nF,(by show 1< 1000;decide),?_};have e0:Bd "files" (V.ref e) (ff d)=ff e:=ND d e;rw[e0];refine{_,rfl,h,C,M,_,.ref e,rfl,wa,T.cl,T.nF,Me e,e,I,rfl,by rw[Ja R];exact J,Lc,λl S=>?_};have sl:=Qa (o:=HO.lst [V.int (I.length:Int)]) S;have U:I.length=y.length:=bf L;have tu:Fe p (upd p h (.ins C M (ff e))):=λb xs W=>by
   rw[Ja (Vb W O)];exact W
  have Y:H l=ia:=by
   have Z:l≠h:=λz=>by rw[z,wa] at S;cases S
   rw[Ja Z] at S;exact v.free S
  refine k _ l e (λb u W n1 n2=>sl _ _ (by rw[Ja n1];exact v _ _ W)) ?_ (.inr he) Y ?_
  .rw[F];exact uc.same {⟨M,wa⟩,I,by rw[Ja R];exact J,L.Xa tu} sl
  .rw[F,wa,U];rfl
 .have F:Fk x t=([-11],x):=by unfold Fk;rw[hn]
  refine{Lc,λl S=>k _ l d (ka.lz (v.trans (Qa S)) _ _) ?_ (.inl rfl) (v.free S) ?_}
  .rw[F];exact j.same (v.trans (Qa S))
  .rw[F,wa];rfl
def aq(x:List Ent)(t:Text)(r:List Int):Prop:=match Vl t with
 |none=>r=[-11]
 |some y=>zx x y r
theorem E8{b:Addr}(G:GF K mg "compare_with_archive" DK ["tree","text"])(c:Jl K mg)(g:Lo K mg "NotAnArchive" b)(h:Kv P w K mg base b 5 "tree_in_archive" ["text"] (Vs C b))(j:Aa P w K mg base 5 "differences" (kz C)):
  Aa P w K mg base 6 "compare_with_archive" (Kj C aq):=by
 refine G.go (N:=tO) ?_;rintro f m A n s H o Q E p u X D ⟨v,d,x,a,t,rfl,z,B,F,I,k⟩;refine⟨_,Ga (TN (tb:=λJ=>Co (me (Vs C b) [] J (Kb (Ua 1) Xb)) (Le 2)) rfl rfl g rfl (λL xe J B=>nc (i:=2) (bL h u B (la (pv 1) pa))) (λA'=>ic (la (Wa c.ARCHIVE) pa)))
  (Ca (Oa (Ya j u (la (pv 0) (la (pv 2) pa))))),?_⟩
 refine{_,rfl,a,t,rfl,F,I,λM q e y O R hq he S=>?_,λT M R U=>?_}
 .refine{_,rfl,_,rfl,v,d,x,q,e,y,rfl,z.same R,B,S,(J1 O).1,λV l r W Y Z=>k V l r (R.trans W) ?_ Z};unfold aq;rw[O];exact Y
 .refine{Lc,λl Z=>k _ l [-11] (R.trans (Qa Z)) ?_ wa};unfold aq;rw[T]
noncomputable def rf(c:Addr)(p:Nat):List (Str×V):=Bd "place" (.int (p:Int)) (Bd "calls" (.ref c) [])
theorem uE(c:Addr)(p:Nat):(rf c p).lookup ("calls":Str)=ba (.ref c):=by
 unfold rf;rw[Ah,oa (by decide),Ah,qa rfl]
theorem jx(c:Addr)(p:Nat):(rf c p).lookup ("place":Str)=ba (.int (p:Int)):=by
 unfold rf;rw[Ah,qa rfl]
theorem ZM(c:Addr)(p q:Nat):Bd "place" (.int (q:Int)) (rf c p)=rf c q:=by
 show(if("calls":Str)="place" then _ else(("calls":Str),V.ref c)::(if("place":Str)="place" then _ else _))=_;rw[oa (by decide),qa rfl];rfl
theorem IA(c:Addr)(p:Nat){m:Str}(a:¬m="calls")(b:¬m="place"):(rf c p).lookup m=ia:=by
 unfold rf;rw[Ah,oa b,Ah,oa a];rfl
structure sd(K:xa)(CR:Addr)(H:Hp)(rp c:Addr)(p:Nat)(zs:Ka):Prop where
 ins:∃dx,H rp=ba (.ins CR dx (rf c p))
 lst:Ia K H c (nums zs)
 le:p<=zs.length
theorem zz{a:Hp}{c:Addr}{xs:List V}(h:Ia K H c xs)(k:∀u,H c=ba u->a c=ba u):Ia K a c xs:=by
 rcases h with(h|⟨o,h⟩) |h
 .exact .inl (.inl (k _ h))
 .exact .inl (.inr {o,k _ h})
 .exact .inr h
theorem sd.keep{CR:Addr}{a:Hp}{b c:Addr}{p:Nat}{zs:Ka}(h:sd K CR H b c p zs)(k1:∀u,H b=ba u->a b=ba u)(k2:∀u,H c=ba u->a c=ba u):sd K CR a b c p zs:=by
 obtain⟨⟨d,e⟩,f,g⟩:=h;exact{{d,k1 _ e},zz f k2,g}
theorem sd.same{CR:Addr}{a:Hp}{b c:Addr}{p:Nat}{zs:Ka}(h:sd K CR H b c p zs)(s:ka H a):sd K CR a b c p zs:=h.keep (λu e=>s _ _ e) λu e=>s _ _ e
theorem AA{a:Hp}{c:Addr}{xs:List V}(h:Ia K H c xs)(k:∀u,H c=ba u->(u= .lst xs\/∃o,u= .qc o (.lst xs))->a c=ba u):Ia K a c xs:=by
 rcases h with(h|⟨o,h⟩) |h
 .exact .inl (.inl (k _ h (.inl rfl)))
 .exact .inl (.inr {o,k _ h (.inr ⟨o,rfl⟩)})
 .exact .inr h
theorem Fo{c:Addr}{xs:List V}{u v:HO}(h:H c=ba u)(a:u= .lst xs\/∃o,u= .qc o (.lst xs))(d:H b=ba v)(f:∀ys,v≠ .lst ys)(g:∀o w,v≠ .qc o w):c≠b:=by
 intro e;rw[e,d] at h;cases h;rcases a with z|⟨o,z⟩
 .exact f _ z
 .exact g _ _ z
theorem sd.ye{CR:Addr}{a:Hp}{b c:Addr}{p:Nat}{zs:Ka}(h:sd K CR H b c p zs)(k:ed H a b):Ia K a c (nums zs):=by
 obtain⟨⟨d,e⟩,f⟩:=h;exact AA f λu g i=>k _ _ g (Fo g i e (by intro j z;cases z) (by intro o w z;cases z))
structure Xi(K:xa)(CR:Addr):Prop where
 cl:dh K CR
 nC:Gh K CR "calls"
 nP:Gh K CR "place"
inductive Rv(K:xa)(CR:Addr)(vs:List V)(H:Hp)(Q:VK)(X3:XK):Prop|mk:∀(rp dx c:Addr)(zs:Ka),vs=[.ref rp,.ref c]->H rp=ba (.ins CR dx [])->Ia K H c (nums zs)->(∀H':Hp,sd K CR H' rp c 0 zs->(∀b o,H b=ba o->b≠rp->H' b=ba o)->Q .Tb H')->Rv K CR vs H Q X3
theorem eV{CR:Addr}(G:GI K mg "Reader" CR "Reader.__init__" HN ["self","calls"])(T:Xi K CR):Bh P w K mg base 1 "Reader" CR ["self","calls"] (Rv K CR):=by
 obtain⟨f,a,G,d,e,g⟩:=G;refine{f,a,e,d,g,G.go (N:=["self","calls"]) ?_};rintro h A i s H j Q E l m X D ⟨n,p,c,q,rfl,r,t,k⟩;refine{_,Ga (Rh (pv 0) (pv 1) rfl) (Ca (Rh (pv 0) Sb rfl)),?_};refine{_,rfl,_,rfl,n,CR,p,[],rfl,r,T.cl,T.nC,(by show 0< 1000;decide),?_};refine{_,rfl,n,CR,p,_,rfl,wa,T.cl,T.nP,(by show 1< 1000;decide),?_};have v:∀b o,H b=ba o->b≠n->upd (upd H n (.ins CR p (Bd "calls" (.ref c) []))) n (.ins CR p (Bd "place" (.int 0) (Bd "calls" (.ref c) []))) b=ba o:=λb o d x=>by rw[Ja x,Ja x];exact d
 refine k _ {⟨p,wa⟩,AA t λu y B=>v _ _ y (Fo y B r (by intro C z;cases z) (by intro o w z;cases z)),Pd _} v
theorem QV{CR:Addr}{Q:VK}{c:Addr}{zs:Ka}(a:σ[i]?=ba (ba (.ref c)))(b:Ia K H c (nums zs))(k:∀(H':Hp)(rp:Addr),ka H H'->sd K CR H' rp c 0 zs->Q (.ref rp) H'):
  Tn CR (Rv K CR) [] E0 (Kb (Ua i) Xb) σ H Q:=by
 refine{_,a,λx d e f g=>{x,d,c,zs,rfl,wa,?_,λH' R h=>{rfl,k H' x (ka.made e f h) R}}};refine zz b λu j=>?_;rw[Ja (de j e),Ja (de j f)];exact j
inductive Tw(K:xa)(CR:Addr)(vs:List V)(H:Hp)(Q:VK)(X3:XK):Prop|mk:∀rp c p zs,vs=[.ref rp]->sd K CR H rp c p zs->Q (.bl (decide (p=zs.length))) H->Tw K CR vs H Q X3
theorem eX{CR:Addr}(G:GM K CR "at_end" "Reader.at_end" kP ["self"])(T:Xi K CR)(Tl:mg "len"=ia):Ue P w K mg base 1 CR "at_end" ["self"] (Tw K CR):=by
 obtain⟨f,a,G,b,d⟩:=G;refine{f,a,d,b,G.go (N:=["self"]) ?_};rintro g A h s H i Q E j l X D ⟨m,c,p,n,rfl,⟨⟨o,q⟩,r⟩,k⟩;refine{_,Ca (Oa (oh Zf (vc (pv 0) rfl) (Cc je (by rfl) Tl Sd (la (vc (pv 0) rfl) pa)) (Yb _))),?_};refine{_,rfl,m,CR,o,_,.int (p:Int),rfl,q,T.cl,T.nP,jx _ _,_,rfl,m,CR,o,_,.ref c,rfl,q,T.cl,T.nC,uE _ _,c,_,rfl,.inl r,rfl,?_};have e:decide (V.int (p:Int)=V.int ((nums n).length:Int))=decide (p=n.length):=by
  unfold nums;rw[Na];exact mh.mpr {λe=>by injection e with e;omega,λe=>by rw[e]}
 rw[e];exact k
inductive Lp(K:xa)(CR:Addr)(vs:List V)(H:Hp)(Q:VK)(X3:XK):Prop|mk:∀rp c p zs n,vs=[.ref rp]->sd K CR H rp c p zs->zs[p]?=ba n->(∀H',ed H H' rp->sd K CR H' rp c (p+1) zs->Q (.int n) H')->Lp K CR vs H Q X3
theorem P8{CR:Addr}(G:GM K CR "read_number" "Reader.read_number" pN ["self"])(T:Xi K CR):Ue P w K mg base 1 CR "read_number" ["self"] (Lp K CR):=by
 obtain⟨f,a,G,d,e⟩:=G;refine{f,a,e,d,G.go (N:=["self","number"]) ?_};rintro g A h s H j Q E l m X D ⟨o,c,p,q,n,rfl,R,r,k⟩;obtain⟨⟨t,x⟩,y,z⟩:=id R;have B:=(Cf.mp r).1;refine⟨_,Ga (nc (i:=1) (Yl lq (vc (pv 0) rfl) (vc (pv 0) rfl) (λ_ _=>rfl)))
  (Ga (Rh (pv 0) (Fc We (vc (pv 0) rfl) Sb) rfl) (Ca (Oa (pv 1)))),?_⟩
 refine{_,rfl,o,CR,t,_,.ref c,rfl,x,T.cl,T.nC,uE _ _,_,rfl,o,CR,t,_,.int (p:Int),rfl,x,T.cl,T.nP,jx _ _,c,_,_,_,rfl,rfl,y,Tp (v:= .int n) (by unfold nums;rw[Ac,r];rfl),?_};refine{_,rfl,o,CR,t,_,.int (p:Int),rfl,x,T.cl,T.nP,jx _ _,_,_,rfl,rfl,_,rfl,o,CR,t,_,rfl,x,T.cl,T.nP,(by show 2< 1000;decide),?_};have C:Bd "place" (V.int ((p:Int)+1)) (rf c p)=rf c (p+1):=ZM c p (p+1);rw[C];have F:ed H (upd H o (.ins CR t (rf c (p+1)))) o:=λb u d I=>by rw[Ja I];exact d
 exact{_,rfl,k _ F {⟨t,wa⟩,sd.ye R F,B}}
inductive uD(K:xa)(CR:Addr)(vs:List V)(H:Hp)(Q:VK)(X3:XK):Prop|mk:∀rp c p zs m,vs=[.ref rp]->sd K CR H rp c p zs->zs[p]?=ba ((m:Nat):Int)->p+1+m<=zs.length->zs.length<=100000->(∀H' b,ed H H' rp->sd K CR H' rp c (p+1+m) zs->H' b=ba (.tup (jd ((zs.drop (p+1)).take m)))->Q (.ref b) H')->uD K CR vs H Q X3
theorem G2{CR:Addr}(G:GM K CR "read_row" "Reader.read_row" sN ["self"])(T:Xi K CR)(a:mg "tuple"=ia)(d:Ue P w K mg base 1 CR "read_number" ["self"] (Lp K CR)):Ue P w K mg base 2 CR "read_row" ["self"] (uD K CR):=by
 obtain⟨f,e,G,g,h⟩:=G;refine{f,e,h,g,G.go (N:=["self","size","start"]) ?_};rintro j A n s H vs Q E nd q X D ⟨r,c,p,t,m,rfl,R,v,x,hz,k⟩;refine⟨_,Ga (nc (i:=1) (Ig d T.cl q (pv 0)))
  (Ga (nc (i:=2) (vc (pv 0) rfl))
  (Ga (Rh (pv 0) (Fc We (pv 2) (pv 1)) rfl)
  (Ca (Oa (Ij S1 (by rfl) a (by rfl) (la (Oe tV (vc (pv 0) rfl) (Ud (pv 2)) (Ud (vc (pv 0) rfl))) pa)))))),?_⟩
 obtain⟨⟨y,z⟩,B⟩:=id R;refine{_,rfl,r,y,_,rfl,z,IA _ _ (by decide) (by decide),r,c,p,t,(m:Int),rfl,R,v,λC F I=>?_};obtain⟨⟨J,L⟩,hc⟩:=id I;refine{_,rfl,r,CR,J,_,.int ((p+1:Nat):Int),rfl,L,T.cl,T.nP,jx _ _,?_};refine{_,rfl,_,rfl,_,_,rfl,rfl,_,rfl,r,CR,J,_,rfl,L,T.cl,T.nP,(by show 2< 1000;decide),?_};have M:Bd "place" (V.int (((p+1:Nat):Int)+(m:Int))) (rf c (p+1))=rf c (p+1+m):=by
  have:=ZM c (p+1) (p+1+m);rw[show(((p+1+m:Nat)):Int)=((p+1:Nat):Int)+(m:Int) by omega] at this;exact this
 rw[M];have O:ed C (upd C r (.ins CR J (rf c (p+1+m)))) r:=λb u g S=>by rw[Ja S];exact g
 have U:=sd.ye I O;refine{_,rfl,r,CR,J,_,.ref c,rfl,wa,T.cl,T.nC,uE _ _,_,rfl,_,rfl,_,rfl,r,CR,J,_,.int ((p+1+m:Nat):Int),rfl,wa,T.cl,T.nP,jx _ _,_,rfl,c,_,rfl,U,λl hl=>?_};have e6:Qj (nums t) (ba ((p+1:Nat):Int)) (ba ((p+1+m:Nat):Int))=jd ((t.drop (p+1)).take m):=by
  have:=uP t (ba ((p+1:Nat):Int)) (ba ((p+1+m:Nat):Int));rw[Ky,ly,show p+1+m - (p+1)=m by omega] at this;exact this
 rw[e6];have W:=Qa (o:=HO.lst (jd ((t.drop (p+1)).take m))) hl;refine{l,_,rfl,.inl {Ia.of wa,λb g=>?_}};have Y:=Qa (o:=HO.tup (jd ((t.drop (p+1)).take m))) g;have Z:ed C _ r:=O.trans (ka.ye (W.trans Y) r);exact k _ b (F.trans Z) {{J,Y _ _ (W _ _ wa)},sd.ye I Z,x} wa
def ve(p:Text):Text:=(Za 47 p).headD []
noncomputable def Vg(p:Text):Text:=if(Za 47 p).length=1 then ve p else ve p++[47]
noncomputable def Jf(ts:List Text):List Ent:=ts.foldl (λz p=>md z (ve p) (Vg p)) []
theorem RV{t:Text}(h:ts[i]?=ba t):Jf (ts.take (i+1))=md (Jf (ts.take i)) (ve t) (Vg t):=by
 unfold Jf;rw[ni,h,aaf];rfl
theorem TF:∀(ts:List Text)(y:List Ent),(ts.foldl (λz p=>md z (ve p) (Vg p)) y).length<=y.length+ts.length
 |[],y=>rb _
 |t::ts,y=>by
  rw[Bm,Oc];have a:=TF ts (md y (ve t) (Vg t));have b:=zP y (ve t) (Vg t);omega
theorem kZ{y:List Ent}{q d:Text}{f:Ent}(h:f∈md y q d):f∈y\/f=(q,d):=by
 unfold md at h;split at h
 .obtain⟨g,a,e⟩:=Mb.mp h;by_cases b:g.1=q
  .rw[qa b] at e
   right
   rw[<-e,b]
  .rw[oa b] at e
   left
   rw[<-e];exact a
 .rcases Pe.mp h with h|h
  .exact .inl h
  .exact .inr (by simpa using h)
theorem IP:∀(ts:List Text)(y:List Ent)(f:Ent),f∈ts.foldl (λz p=>md z (ve p) (Vg p)) y->f∈y\/∃t∈ts,f=(ve t,Vg t)
 |[],y,f,h=> .inl h
 |t::ts,y,f,h=>by
  rcases IP ts _ f h with h|⟨u,a,e⟩
  .rcases kZ h with h|e
   .exact .inl h
   .exact .inr {t,by simp,e}
  .exact .inr {u,by simp[a],e}
theorem lD{f:Ent}(h:f∈Jf ts):∃t∈ts,f=(ve t,Vg t):=by
 rcases IP ts [] f h with h|h
 .simp at h
 .exact h
inductive HD(vs:List V)(H:Hp)(Q:VK)(X3:XK):Prop|mk:∀a ps ts,vs=[.ref a]->H a=ba (.lst (ps.map V.ref))->Wb H ps ts->ts.length<=1000->(∀t∈ts,t.length<=100000)->(∀H' e,ka H H'->H e=ia->DictAt H' e (Jf ts)->Q (.ref e) H')->HD vs H Q X3
theorem j9(G:GF K mg "parts_in_directory" iJ ["inside"])(T1:Cs mg)(h1:Aa P w K mg base 1 "parts_of" Mo):Aa P w K mg base 2 "parts_in_directory" HD:=by
 refine G.go (N:=["inside","shown","path","parts"]) ?_;rintro f cdv A outer s H vs Q E nd hr X D ⟨a,ps,ts,rfl,ha,tx,hz,hzt,k⟩;have hu1:=ei hr;refine⟨_,Ga (nc (i:=1) cE)
  (Ga (Ji qi rfl (Ug (pv 0)) (Md (i:=2))
   (Ga (nc (i:=3) (Ya h1 hr (la (pv 2) pa)))
    (Ca (Cr hu1 (pv 1) (Yl lq (pv 3) Sb (λ_ _=>rfl)) (PD (fc Zf (Cc je (by rfl) T1.len Sd (la (pv 3) pa)) Sb (Yb _)) (Yl lq (pv 3) Sb (λ_ _=>rfl))
     (Fc az (Yl lq (pv 3) Sb (λ_ _=>rfl)) (Mf (la (Wa T1.SLASH) pa)))) rfl))))
  (Ca (Oa (pv 1)))),?_⟩
 intro e he;have sE:ka H (upd H e (.dT [])):=Qa he;have hpl:=tx.len;refine⟨_,rfl,a,rfl,{_,Ia.of (sE _ _ ha)},sk (Wg (K:=K) (a:=a) (ps.map V.ref)) (λi σ H'=>∃g n,σ=[ba (.ref a),ba (.ref e),g,n]/\ka H H'/\DictAt H' e (Jf (ts.take i)))
  {ia,ia,rfl,sE,[],wa,.nil} (λi σ H' _ ⟨_,_,_,o,_⟩=>Ia.of (o _ _ ha)) ?_ ?_⟩
 .rintro i x σ H1 hi v ⟨g,n,rfl,o,De⟩;rw[Ac] at v;cases hp:ps[i]? with
  |none=>rw[hp] at v;cases v
  |some p=>
  obtain⟨t,ht,hpt⟩:=Wb.get tx hp;rw[hp] at v;cases v;have y:=hzt t (vd ht);refine{_,rfl,p,t,rfl,o _ _ hpt,y,λB l qs s2 hl tq=>?_};obtain⟨q,C,u,F,I,J⟩:∃q C u F,qs=q::C/\Za 47 t=u::F:=by
   have L:Za 47 t≠[]:=Ki 47 t;have M:=tq.len;cases O:qs with
   |nil=>
    rw[O] at M;exact absurd (zm.mp M.symm) L
   |cons q C=>
    cases e2:Za 47 t with
    |nil=>exact absurd e2 L
    |cons u F=>exact⟨q,C,u,F,rfl,rfl⟩
  have hq:B q=ba (.tup (txt u)):=by
   rw[I,J] at tq;cases tq with
   |cons h _=>exact h
  have S:ve t=u:=by unfold ve;rw[J];rfl
  have hul:u.length<=100000:=Bc (split_len 47 t u (by rw[J];simp)) y;have M:(qs.map V.ref).length=(Za 47 t).length:=by rw[Na,tq.len]
  have T:∀U:Hp,ka B U->∀R:VK,R (.ref q) U->Vc (qv K) (Ua 3) (tC (.int 0)) [ba (.ref a),ba (.ref e),ba (.ref p),ba (.ref l)] U R:=λU W R r=>
   {_,rfl,l,_,_,.ref q,rfl,rfl,Ia.of (W _ _ hl),by rw[I];exact Tp (j:=0) rfl,r}
  obtain⟨Y,he2,en2⟩:=De.same s2;have hl2:Y.length< sizeLine:=by
   have e2:Y.length=_:=bf en2;rw[e2];refine Jd (Bc (TF _ _) ?_);rw[rd];simp;omega
  have Z:∀(b:Addr)(U:Hp),ka B U->U b=ba (.tup (txt (Vg t)))->∃aa H4,V.ref e=V.ref aa/\ej U aa (.ref q) (.ref b) H4/\∃g n,([ba (V.ref a),ba (V.ref e),ba (V.ref p),ba (V.ref l)]:L2.St)=[ba (.ref a),ba (.ref e),g,n]/\ka H H4/\DictAt H4 e (Jf (ts.take (i+1))):=λb U W hb=>by
   have he3:=W _ _ he2;refine{e,_,rfl,ej.tt (k:=key (ve t)) he3 (by rw[Xe,S];exact W _ _ hq) hl2,ba (.ref p),ba (.ref l),rfl,Zg (o.trans (s2.trans W)) he,_,wa,?_};have t5:Fe U (upd U e (.dT (putK Y (key (ve t)) (.ref b)))):=λb ys e5=>by
    rw[Ja (Vb e5 he3)];exact e5
   rw[RV ht];exact qw ((en2.Xa (ka.Xa W)).Xa t5) (t5 _ _ hb)
  refine{_,rfl,l,_,rfl,.inl (Ia.of hl),rfl,_,rfl,?_};rw[M];refine cb (λhc=>?_) (λhc=>?_)
  .have O:(Za 47 t).length=1:=by
    have:=Qe hc;injection this with this;omega
   refine T B (ka.refl B) _ {_,rfl,T B (ka.refl B) _ ?_};obtain⟨a,b,c,d,e⟩:=Z q B (ka.refl B) (by unfold Vg;rw[qa O,S];exact hq);exact⟨a,b,c,d,e⟩
  .have O:¬(Za 47 t).length=1:=λz=>hc (by rw[z];exact Xc rfl);refine T B (ka.refl B) _ {Lc,λm hm=>{q,m,u,[47],rfl,rfl,Qa hm _ _ hq,wa,Xf (by simp;omega),λr U W hr3=>?_}};have s23:ka B U:=(Qa hm).trans W;refine{_,rfl,T U s23 _ ?_};obtain⟨a,b,c,d,e⟩:=Z r U s23 (by unfold Vg;rw[oa O,S];exact hr3);exact⟨a,b,c,d,e⟩
 .rintro σ H1 ⟨g,n,rfl,o,De⟩;rw[Na,hpl,Cg] at De;exact{_,rfl,k H1 e o he De}
noncomputable def inside(x:List Ent)(p:Text):List Text:=((x.map (·.1)).filter λt=>qd t p).map λt=>Je p t
theorem HW{t u:Text}(h:gb t=da)(hd:qd t u=da):∀p∈Za 47 (Je u t),Bg p=da:=by
 cases u with
 |nil=>exact dz h
 |cons c r=>
  have a:t.take ((c::r).length+1)=(c::r)++[47]:=by
   unfold qd Af at hd;simpa using hd
  have e:t=(c::r)++47::Je (c::r) t:=by
   have:=Ph ((c::r).length+1) t;rw[a,cf] at this;exact this.symm
  intro p b;refine dz h p ?_;rw[e,ot];exact Pe.mpr (.inr b)
theorem dU{t u:Text}(h:gb t=da)(hd:qd t u=da):Bg (ve (Je u t))=da:=by
 refine HW h hd _ ?_;unfold ve;cases e:Za 47 (Je u t) with
 |nil=>exact absurd e (Ki 47 _)
 |cons y l=>simp
theorem RT(u t:Text):(Je u t).length<=t.length:=by
 unfold Je;split
 .exact rb _
 .rw[ue];exact Nat.sub_le _ _
def Kw(x:List Ent)(p:Text)(r:List Int):Prop:=
 (xf p=ma/\r=[-1])\/(xf p=da/\p≠[]/\inside x p=[]/\r=[-5])\/
 (xf p=da/\¬(p≠[]/\inside x p=[])/\∃ts,ts.Perm ((Jf (inside x p)).map (·.1))/\Cj ts/\r=bh (Hd (ts.map λt=>(look (Jf (inside x p)) t).getD [])))
theorem Wp{p:Text}(a:Small x):(inside x p).length<=1000/\∀t∈inside x p,t.length<=96/\Bg (ve t)=da:=by
 constructor
 .unfold inside;rw[Na];exact Bc (xl _ _) (by rw[Na];exact a.n)
 .intro t b;unfold inside at b;obtain⟨u,c,e⟩:=Mb.mp b;obtain⟨d,g⟩:=Mc.mp c;obtain⟨f,hf,h⟩:=Mb.mp d;subst h;subst e;exact{Bc (RT p f.1) (a.sq f hf),dU (a.path f hf) g}
theorem IU(G:GF K mg "list_directory" Bz ["tree","directory"])(T:ig K mg C)(T2:Uk K mg)(h1:Aa P w K mg base 4 "is_empty_or_path" (spT xf))(h2:Aa P w K mg base 2 "is_in_directory" (Sj qd))
  (h3:Aa P w K mg base 1 "behind_directory" wx) (h4:Aa P w K mg base 2 "parts_in_directory" HD) (h5:Aa P w K mg base 1 "in_lines" Vn):Aa P w K mg base 5 "list_directory" (Kj C Kw):=by
 refine G.go (N:=["tree","directory","inside","shown","path","part"]) ?_;rintro f cdv A outer s H vs Q E nd b X D ⟨tp,d,x,a,p,rfl,Tr,hx,ha,hzp,k⟩;have hu:=b.units;have hu1:=ei b;have hr1:Ad 1 _:=b.mono (by decide);have hr2:Ad 2 _:=b.mono (by decide);refine⟨_,Ga (Lb (Yf (Nd (Ya h1 b (la (pv 1) pa)))) (Ca (Oa (ic (la (Wa T.PATH) pa)))) Ob)
  (Ga (mw (Qp (i:=2) (own:=[("path",4)]) rfl nd rfl rfl (Cq rfl rfl rfl (by decide+kernel)) (Um (vc (pv 0) rfl)) (Wf (N:=["tree","directory","inside","shown","path","part"]) (sc:=Qc Bz) (by decide+kernel)) (λ_ _ _ _ _=>Md (i:=4))
   (λ_ _ _ _ _=>Pm (Nd (Ya h2 hr2 (la (pv 4) (la (pv 1) pa))))) (λ_ _ _ _ _=>Ya h3 hr1 (la (pv 4) (la (pv 1) pa)))))
  (Ga (Lb (PW.pt (Er (fc (yx hu) (pv 1) (Mf pa) (Yb _)) (ft (fc (UE hu) (pv 2) (ic pa) (Yb _))))) (Ca (Oa (ic (la (Wa T.ABSENT) pa)))) Ob)
  (Ga (Qs (i:=3) nd rfl (Dn rfl) (Ya h4 hr2 (la (pv 2) pa)))
  (Ca (Oa (Fc dj (ic (la Sb pa)) (Ya h5 hr1 (la (Yh (own:=[("part",5)]) rfl nd (Ug (Cc (HF rfl) (by rfl) T2.sorted (by rfl) (la (pv 3) pa))) (Wf (N:=["tree","directory","inside","shown","path","part"]) (sc:=Qc Bz) (by decide+kernel)) (λ_ _ _ _ _=>Md (i:=5)) (λ_ _ _ _ _=>nj)
   (λ_ _ _ _ _=>qk hu1 (pv 3) (pv 5) (λ_ _=>rfl))) pa)))))))),?_⟩
 obtain⟨b1,b2⟩:=Wp (p:=p) hx;refine Zb (Yj (g:=xf) 1 rfl ha) (ka.refl H) λH1 s1=>cb (λc=>?_) (λc=>?_)
 .exact{Lc,λl hl=>k _ l [-1] (s1.trans (Qa hl)) (.inl {by simpa using c,rfl}) wa}
 have e1:xf p=da:=by simpa using c
 refine YI (tw T.cl T.nF (Tr.same s1) rfl Wj ((x.map (·.1)).map λt=>if qd t p=da then ba (Je p t) else ia) (by rw[Na,Na]) Bo (Jd hx.n) (λv=>rfl) (λkvs kk q f o h hd en L hf j hq kn ky hkn n=>?_) (λacc H2 D s2 hD F I=>?_))
 .rw[Ac,Ac,hf] at j;have j:=Dd j;have ha':=L.txt hd (s1 _ _ ha);refine(qz (g:=qd) 4 1 rfl rfl hq ha' hzp) h _ (ka.refl h) λH3 J=>cb (λM=>?_) (λM=>?_)
  .exact{_,rfl,_,rfl,q,a,f.1,p,rfl,J _ _ hq,J _ _ ha',λH4 p4 s4 h4=>n _ _ H4 (by rw[<-j];exact qa M) (J.trans s4) ⟨p4,rfl,h4⟩}
  .exact hkn H3 (by rw[<-j];exact oa M) J
 rw[gq] at I;obtain⟨qs,e,tx⟩:=yn I;rw[e] at F;have O:ka H H2:=s1.trans s2;have tx:Wb H2 qs (inside x p):=tx;refine Zb ((GV (K:=K) (i:=1) [] rfl (O _ _ ha) (λ_ _ q=>q)).and λ_=>ME (K:=K) 2 rfl F tx) (ka.refl H2) λH3 J=>cb (λM=>?_) (λM=>?_)
 .rw[Kc] at M;exact{Lc,λl hl=>k _ l [-5] (O.trans (J.trans (Qa hl))) (.inr (.inl {e1,by simpa using M.1,Qe M.2,rfl})) wa}
 have e2:¬(p≠[]/\inside x p=[]):=λz=>M (by rw[Kc];exact{by simpa using z.1,Xc z.2});have s13:ka H H3:=O.trans J;refine{_,rfl,D,qs,inside x p,rfl,J _ _ F,tx.Xa (ka.Xa J),b1,λt ht=>Bc (b2 t ht).1 (by decide),λH4 sh s4 hsh Dsh=>?_};refine{Lc,λl hl=>?_};have sl:=Qa (o:= .lst [.int 0]) hl;have hne:∀f∈Jf (inside x p),f.1≠[]:=λf hf=>by
  obtain⟨t,ht,e⟩:=lD hf;rw[e];exact pO (b2 t ht).2
 have hsl:(Jf (inside x p)).length<=1000:=Bc (TF _ _) (by simp;exact b1);refine{_,rfl,sh,_,rfl,Dsh.same sl,hne,hsl,λks R m S hpw tk hm=>?_};have hkl:=tk.len;have htl:R.length<=1000:=by rw[S.length_eq,Na];exact hsl
 have sm:=Qa (o:= .lst (ks.map V.ref)) hm;obtain⟨kvs,hk6,en6⟩:=(Dsh.same sl).same sm;refine⟨m,rfl,{_,Ia.of wa},λD2 hD2=>Sm (Wg (ks.map V.ref)) Wj (R.map λt=>ba ((look (Jf (inside x p)) t).getD [])) (by rw[Na,Na,hkl]) Bo (λh s'=>Ia.of (s' _ _ wa)) hD2 (by rw[Na];exact Jd (by omega)) (λv=>rfl)
  (λi y o h hi j hy s' kn ky hkn n=>?_) (λacc2 H7 s7 U W=>?_)⟩
 .rw[Ac] at hy;cases hp:ks[i]? with
  |none=>rw[hp] at hy;cases hy
  |some q=>
  obtain⟨u,Y,hqu⟩:=Wb.get (tk.Xa (ka.Xa sm)) hp;rw[hp] at hy;cases hy;rw[Ac,Y] at j;have j:=Dd j;have hum:u∈(Jf (inside x p)).map (·.1):=S.mem_iff.mp (vd Y);rcases Mj (q:=u) en6 with⟨Z,_⟩ |⟨dd,b5,Z,hv,hb5⟩
  .exfalso;obtain⟨g,hg,eg⟩:=Mb.mp hum;unfold look at Z;rw[aar,mr] at Z;exact Z g hg (by simpa using eg)
  .have j:ba ((look (Jf (inside x p)) u).getD [])=o:=j;rw[Z] at j;exact wg (B:=kn h) {_,rfl,_,rfl,sh,.ref b5,rfl,.inr {kvs,key u,q,.inl (s' _ _ hk6),rfl,by rw[Xe];exact s' _ _ hqu,hv.symm},n _ _ h j.symm (ka.refl h) {b5,rfl,s' _ _ hb5}}
 rw[show(R.map λt=>ba ((look (Jf (inside x p)) t).getD []))=(R.map λt=>(look (Jf (inside x p)) t).getD []).map ba by rw[yd];rfl,Iw] at W;obtain⟨rs,e6,tr⟩:=yn W;rw[e6] at U;have hval:∀t∈(R.map λt=>(look (Jf (inside x p)) t).getD []),t.length<=97:=λt ht=>by
  obtain⟨u,Y,e⟩:=Mb.mp ht;subst e;cases Z:look (Jf (inside x p)) u with
  |none=>exact Pd _
  |some dd=>
   obtain⟨g,hg,_,e8⟩:=VP Z;obtain⟨v,hv,e9⟩:=lD hg;rw[e9] at e8;have:=fW (b2 v hv).2;show dd.length<=97;rw[<-e8];show(Vg v).length<=97;unfold Vg;split
   .omega
   .rw[wd];show(ve v).length+1<=97;omega
 have hlt:(Hd (R.map λt=>(look (Jf (inside x p)) t).getD [])).length<=1000000:=by
  have:=Ov _ hval;rw[Na] at this;omega
 refine{D2,rs,_,rfl,U,tr,hlt,λH8 m8 s8 hm80 hm8=>?_};have sl8:ka (upd H4 l (.lst [.int 0])) H8:=sm.trans (s7.trans s8);refine{l,m8,_,_,rfl,rfl,sl8 _ _ wa,hm8,WA (by rw[gc];simp;omega),λr b=>k _ r _ (s13.trans (s4.trans (sl.trans (sl8.trans (Qa b))))) (.inr (.inr ⟨e1,e2,R,S,hpw,rfl⟩)) ?_};rw[wa,Ym];rfl
def gd(t:Ka):Ka:=(t.length:Int)::t
noncomputable def num:yf->Int
 | .put _ _=>0
 | .remove _=>1
 | .move _ _=>2
 | .get _=>3
 | .list _=>4
 | .files=>5
 | .packages=>6
 | .owner _=>7
 | .label _ _=>8
 | .resolve _=>9
 | .glob _ _ _=>10
 | .matches_ _ _=>11
 | .archive=>12
 | .read _=>13
 | .compare _=>14
 | .keep _=>15
 | .back _=>16
 | .changed _=>17
noncomputable def args:yf->Ka
 | .put p b=>gd (Jb p)++gd (Jb b)
 | .remove p=>gd (Jb p)
 | .move a b=>gd (Jb a)++gd (Jb b)
 | .get p=>gd (Jb p)
 | .list p=>gd (Jb p)
 | .files=>[]
 | .packages=>[]
 | .owner p=>gd (Jb p)
 | .label p t=>gd (Jb p)++gd (Jb t)
 | .resolve t=>gd (Jb t)
 | .glob p y n=>gd (Jb p)++(gd y++gd n)
 | .matches_ q n=>gd (Jb q)++gd (Jb n)
 | .archive=>[]
 | .read t=>gd (Jb t)
 | .compare t=>gd (Jb t)
 | .keep k=>[k]
 | .back k=>[k]
 | .changed k=>[k]
theorem Zh(t:Text):(Jb t).length=t.length:=Na _
def Su(c:yf)(x:List Ent)(r:List Int)(x':List Ent):Prop:=match c with
 | .put p b=>r=(Vd x p b).1/\x'=(Vd x p b).2
 | .remove p=>r=(Bj x p).1/\x'=(Bj x p).2
 | .move a b=>r=(Ek x a b).1/\x'=(Ek x a b).2
 | .get p=>Zm x p r/\x'=x
 | .list p=>Kw x p r/\x'=x
 | .files=>zw x r/\x'=x
 | .packages=>Ow x r/\x'=x
 | .owner p=>Jz x p r/\x'=x
 | .label p t=>r=Fd (yp p t)/\x'=x
 | .resolve t=>r=lj x t/\x'=x
 | .glob p y n=>Wn x p y n r/\x'=x
 | .matches_ q n=>r=Xm q n/\x'=x
 | .archive=>Rz x r/\x'=x
 | .read t=>r=(Fk x t).1/\x'=(Fk x t).2
 | .compare t=>aq x t r/\x'=x
 |_=>False
def ZA(H H':Hp)(tp d rp:Addr):Prop:=∀b u,H b=ba u->b≠tp->b≠d->b≠rp->H' b=ba u
inductive Nj(K:xa)(C CR:Addr)(ok:yf->Bool)(vs:List V)(H:Hp)(Q:VK)(X3:XK):Prop|mk:∀tp d x rp cl p zs c rest,vs=[.ref tp,.int (num c),.ref rp]->ok c=da->uc C H tp d x->Small x->Tight x->sd K CR H rp cl p zs->zs.drop p=args c++rest->zs.length<=100000->(∀H' l d' p' r x',ZA H H' tp d rp->uc C H' tp d' x'->(d'=d\/H d'=ia)->sd K CR H' rp cl p' zs->zs.drop p'=rest->Su c x r x'->H' l=ba (.lst (nums r))->Q (.ref l) H')->Nj K C CR ok vs H Q X3
theorem qU{zs t rest:Ka}{p:Nat}(h:zs.drop p=gd t++rest):zs[p]?=ba ((t.length:Nat):Int)/\p+1+t.length<=zs.length/\(zs.drop (p+1)).take t.length=t/\zs.drop (p+1+t.length)=rest:=by
 have h:zs.drop p=((t.length:Nat):Int)::(t++rest):=h;have a:zs[p]?=ba ((t.length:Nat):Int):=by
  have:=wc (λl=>l[0]?) h;simpa using this
 have b:zs.drop (p+1)=t++rest:=by
  have:=wc (aas 1) h;rw[Hn] at this;exact this
 have c:=wc He h;rw[ue,Oc,wd] at c;refine{a,by omega,by rw[b,XB],?_};rw[<-Hn,b,aat]
inductive Ej(K:xa)(CR:Addr)(vs:List V)(H:Hp)(Q:VK)(X3:XK):Prop|mk:∀rp c p zs t rest,vs=[.ref rp]->sd K CR H rp c p zs->zs.drop p=gd t++rest->zs.length<=100000->(∀H' b p',ed H H' rp->sd K CR H' rp c p' zs->zs.drop p'=rest->t.length<=100000->H' b=ba (.tup (jd t))->Q (.ref b) H')->Ej K CR vs H Q X3
theorem Ue.imp{m:Str}{sp a:Sp}(h:Ue P w K mg base k C m ps sp)(b:∀vs H Q E,a vs H Q E->sp vs H Q E):Ue P w K mg base k C m ps a:=by
 obtain⟨f,c,d,e,g⟩:=h;exact{f,c,d,e,g.imp b}
theorem fX{CR:Addr}(h:Ue P w K mg base 2 CR "read_row" ["self"] (uD K CR)):Ue P w K mg base 2 CR "read_row" ["self"] (Ej K CR):=by
 refine h.imp λa H Q E h=>?_;obtain⟨d,c,p,e,t,f,rfl,R,hd,g,k⟩:=h;obtain⟨i,j,l,m⟩:=qU hd;refine{d,c,p,e,t.length,rfl,R,i,j,g,λn b o q r=>k n b _ o q m (by omega) ?_};rw[l] at r;exact r
theorem Be{H0:Hp}{n m:Int}(a:σ[i]?=ba (ba (.int n))):Pb H0 (Ed (Vc kB (Ua i) (tC (.int m)))) σ (decide (n=m)):=λH Q s q=>by
 refine{_,a,rfl,_,rfl,?_};rw[show decide (V.int n=V.int m)=decide (n=m) from mh.mpr {λe=>by injection e,λe=>by rw[e]}];exact q H s
theorem fh{CR:Addr}{Q:VK}{a c:Addr}{p:Nat}{zs t rest:Ka}(d:σ[i]?=ba (ba (.ref a)))(R:sd K CR H a c p zs)(hd:zs.drop p=gd t++rest)(hz:zs.length<=100000)
  (k:∀H' b e,ed H H' a->sd K CR H' a c e zs->zs.drop e=rest->t.length<=100000->H' b=ba (.tup (jd t))->Q (.ref b) H'):Il CR "read_row" (Ej K CR) [] E0 (Ua i) Xb σ H Q:=by
 obtain⟨⟨f,g⟩,_⟩:=id R;exact{_,d,a,f,_,rfl,g,IA _ _ (by decide) (by decide),a,c,p,zs,t,rest,rfl,R,hd,hz,k}
theorem Rk{CR:Addr}{a:Hp}{c f cl:Addr}{p:Nat}{zs:Ka}(T:uc C H c d x)(R:sd K CR H f cl p zs)(k:ed H a f):uc C a c d x/\f≠c/\f≠d:=by
 obtain⟨⟨g,h⟩,i,hd,j⟩:=id T;obtain⟨⟨l,m⟩,_⟩:=R;have n:f≠c:=Vb m h (λe=>by
  injection e with _ _ e3;have:=wc He e3;have o:(rf cl p).length=2:=rfl;have q:(ff d).length=1:=rfl;omega)
 have r:f≠d:=Vb m hd;exact{T.at_ (λu s=>k _ _ s (Gc n)) (λu s=>k _ _ s (Gc r)) λb t v=>k b _ v (Vb v m),n,r}
theorem lE{CR:Addr}{a:Hp}{b c cl:Addr}{p:Nat}{zs:Ka}(R:sd K CR H c cl p zs)(T:uc C H b d x)(e:c≠b)(f:c≠d)(k:Ny H a b d):sd K CR a c cl p zs:=by
 obtain⟨⟨g,h⟩,i,j⟩:=R;obtain⟨⟨l,m⟩,n,hd,_⟩:=T;refine{{g,k _ _ h e f},?_,j};exact(AA i λu q r=>k _ _ q (Fo q r m (by intro s z;cases z) (by intro o w z;cases z)) (Fo q r hd (by intro s z;cases z) (by intro o w z;cases z)))
theorem Et{a:Hp}{c:Addr}{xs:List V}{d:Addr}{e:List (Str×V)}(k:ed H a c)(f:H c=ba (.ins C d e))(g:H b=ba (.tup xs)):a b=ba (.tup xs):=k _ _ g (Vb g f)
theorem Sz{a:Hp}{c:Addr}{u:HO}(k:ed H a c)(d:a c=ba u)(h:a b=ia):H b=ia:=by
 cases e:H b with
 |none=>rfl
 |some v=>
  by_cases f:b=c
  .rw[f,d] at h;cases h
  .rw[k _ _ e f] at h;cases h
structure mo(mg:Str->Option Value):Prop where
 vM:bc mg "PUT" (.int 0)
 mK:bc mg "REMOVE" (.int 1)
 fZ:bc mg "MOVE" (.int 2)
 oJ:bc mg "GET" (.int 3)
 nW:bc mg "LIST" (.int 4)
 FILES:bc mg "FILES" (.int 5)
 KI:bc mg "PACKAGES" (.int 6)
 IL:bc mg "OWNER" (.int 7)
 LABEL:bc mg "LABEL_desk" (.int 8)
 S5:bc mg "RESOLVE" (.int 9)
 rV:bc mg "GLOB" (.int 10)
 yX:bc mg "MATCH" (.int 11)
 ARCHIVE:bc mg "ARCHIVE_desk" (.int 12)
 aP:bc mg "READ" (.int 13)
 b6:bc mg "COMPARE" (.int 14)
 qP:bc mg "KEEP" (.int 15)
 XP:bc mg "BACK" (.int 16)
 U6:bc mg "CHANGED" (.int 17)
noncomputable def Xu:yf->Bool
 | .put _ _=>da
 | .remove _=>da
 | .move _ _=>da
 |_=>ma
theorem lW{CR:Addr}(G:GF K mg "answer_edit" VJ ["tree","number","reader"])(T:mo mg)(TR:Xi K CR)(h1:Ue P w K mg base 2 CR "read_row" ["self"] (Ej K CR))(h2:Aa P w K mg base 4 "put_file" (Ho C Vd))
  (h3:Aa P w K mg base 4 "remove_files" (uv C Bj)) (h4:Aa P w K mg base 4 "move_files" (Ho C Ek)):Aa P w K mg base 5 "answer_edit" (Nj K C CR Xu):=by
 refine G.go (N:=["tree","number","reader","path"]) ?_;rintro f cdv A outer s H vs Q E nd j X D ⟨tp,d,x,rp,cl,p,zs,c,o,rfl,ok,Tr,hx,ht,R,hd,hz,k⟩;refine⟨_,Ga (nc (i:=3) (Ig h1 TR.cl (j.mono (by decide)) (pv 2)))
  (Ga (Lb (fc Zf (pv 1) (Wa T.vM) (Yb _)) (Ca (Oa (Ya h2 j (la (pv 0) (la (pv 3) (la (Ig h1 TR.cl (j.mono (by decide)) (pv 2)) pa)))))) Ob)
  (Ga (Lb (fc Zf (pv 1) (Wa T.mK) (Yb _)) (Ca (Oa (Ya h3 j (la (pv 0) (la (pv 3) pa))))) Ob)
  (Ca (Oa (Ya h4 j (la (pv 0) (la (pv 3) (la (Ig h1 TR.cl (j.mono (by decide)) (pv 2)) pa)))))))),?_⟩
 have q:∀(g:List Ent->Text->Text->List Int×List Ent)(a b:Text),Su c x (g x a b).1 (g x a b).2->∀(r:Hp)(v:Addr)(y:Nat),ed H r rp->sd K CR r rp cl y zs->zs.drop y=gd (Jb b)++o->r v=ba (.tup (txt a))->a.length<=100000->
   me (Ho C g) [] E0 (Kb (Ua 0) (Kb (Ua 3) (Kb (Il CR "read_row" (Ej K CR) [] E0 (Ua 2) Xb) Xb))) [ba (.ref tp),ba (.int (num c)),ba (.ref rp),ba (.ref v)] r Q:=λg a b hg r v y z B F I J=>by
  obtain⟨Tr1,n1,n2⟩:=Rk Tr R z;refine{_,rfl,_,rfl,fh rfl B F hz λH2 q2 p2 L R2 hd2 M O=>?_};obtain⟨S,_,_⟩:=Rk Tr1 B L;obtain⟨⟨dr1,hr1⟩,_⟩:=id B;rw[<-zg] at O;rw[Zh] at M;refine{tp,d,x,v,a,q2,b,rfl,S,hx,Et L hr1 I,O,J,M,λH3 l d' U V W hl0 hl=>k H3 l d' p2 _ _ (λe u he m1 m2 m3=>U _ _ (L _ _ (z _ _ he m3) m3) m1 m2) V ?_ (lE R2 S n1 n2 U) hd2 hg hl};rcases W with e|e
  .exact .inl e
  .obtain⟨⟨dr2,hr2⟩,_⟩:=id R2;exact .inr (Sz z hr1 (Sz L hr2 e))
 cases c with
 |put a b=>
  refine Of (fh (t:=Jb a) (rest:=gd (Jb b)++o) rfl R (by rw[hd];exact cf _ _ _) hz λr v y z B F J I=>?_);rw[<-zg] at I;rw[Zh] at J;exact Zb (Be (n:=0) (m:=0) rfl) (ka.refl r) λH2 Y=>cb (λ_=>q Vd a b ⟨rfl,rfl⟩ H2 v y (z.trans (ka.ye Y _)) (B.same Y) F (Y _ _ I) J) (λh=>absurd (by decide) h)
 |remove a=>
  refine Of (fh (t:=Jb a) (rest:=o) rfl R hd hz λr v y z B F J I=>?_);rw[<-zg] at I;rw[Zh] at J;refine Zb (Be (n:=1) (m:=0) rfl) (ka.refl r) λH2 Y=>cb (λh=>absurd h (by decide)) (λ_=>?_);refine Zb (Be (n:=1) (m:=1) rfl) Y λH3 Z=>cb (λ_=>?_) (λh=>absurd (by decide) h);have U:=z.trans (ka.ye Z _);obtain⟨V,n1,n2⟩:=Rk Tr R U;have R3:=B.same Z;obtain⟨⟨dr3,hr3⟩,_⟩:=id R3;refine{_,rfl,_,rfl,tp,d,x,v,a,rfl,V,hx,Z _ _ I,J,λH4 l d' kp4 Tr4 W hl0 hl=>k H4 l d' y _ _ (λe u he m1 m2 m3=>kp4 _ _ (U _ _ he m3) m1 m2) Tr4 ?_ (lE R3 V n1 n2 kp4) F ⟨rfl,rfl⟩ hl};rcases W with e|e
  .exact .inl e
  .exact .inr (Sz U hr3 e)
 |move a b=>
  refine Of (fh (t:=Jb a) (rest:=gd (Jb b)++o) rfl R (by rw[hd];exact cf _ _ _) hz λr v y z B F J I=>?_);rw[<-zg] at I;rw[Zh] at J;refine Zb (Be (n:=2) (m:=0) rfl) (ka.refl r) λH2 Y=>cb (λh=>absurd h (by decide)) (λ_=>?_);refine Zb (Be (n:=2) (m:=1) rfl) Y λH3 Z=>cb (λh=>absurd h (by decide)) (λ_=>?_);exact q Ek a b ⟨rfl,rfl⟩ H3 v y (z.trans (ka.ye Z _)) (B.same Z) F (Z _ _ I) J
 |_=>cases ok
theorem ed.vn{a c:Hp}{e f:Addr}(k:ed H a e)(s:ka a c):ZA H c f d e:=λb u g _ _ n=>s _ _ (k _ _ g n)
noncomputable def jv:yf->Bool
 | .get _=>da
 | .list _=>da
 | .files=>da
 |_=>ma
theorem c9{CR:Addr}(G:GF K mg "answer_view" hP ["tree","number","reader"])(T:mo mg)(TR:Xi K CR)(h1:Ue P w K mg base 2 CR "read_row" ["self"] (Ej K CR))(h2:Aa P w K mg base 2 "all_files" (Nv C zw))
  (h3:Aa P w K mg base 4 "get_file" (Kj C Zm)) (h4:Aa P w K mg base 5 "list_directory" (Kj C Kw)):Aa P w K mg base 6 "answer_view" (Nj K C CR jv):=by
 refine G.go (N:=["tree","number","reader","path"]) ?_;rintro f cdv A b s H vs Q E nd e X D ⟨j,d,x,o,cl,p,zs,c,q,rfl,ok,u,hx,ht,R,hd,hz,k⟩;refine⟨_,Ga (Lb (fc Zf (pv 1) (Wa T.FILES) (Yb _)) (Ca (Oa (Ya h2 e (la (pv 0) pa)))) Ob)
  (Ga (nc (i:=3) (Ig h1 TR.cl (e.mono (by decide)) (pv 2)))
  (Ga (Lb (fc Zf (pv 1) (Wa T.oJ) (Yb _)) (Ca (Oa (Ya h3 e (la (pv 0) (la (pv 3) pa))))) Ob)
  (Ca (Oa (Ya h4 e (la (pv 0) (la (pv 3) pa))))))),?_⟩
 have v:∀(g:List Ent->Text->List Int->Prop)(a:Text),(∀r,g x a r->Su c x r x)->∀(y:Hp)(z:Addr)(B:Nat),ed H y o->sd K CR y o cl B zs->zs.drop B=q->y z=ba (.tup (txt a))->a.length<=100000->
   me (Kj C g) [] E0 (Kb (Ua 0) (Kb (Ua 3) Xb)) [ba (.ref j),ba (.int (num c)),ba (.ref o),ba (.ref z)] y Q:=λg a hg y z B F I J L M=>by
  obtain⟨O,n1,n2⟩:=Rk u R F;exact{_,rfl,_,rfl,j,d,x,z,a,rfl,O,hx,L,M,λS l r U V W=>k S l d B r x (F.vn U) (O.same U) (.inl rfl) (I.same U) J (hg r V) W}
 cases c with
 |files=>
  refine Zb (Be (n:=5) (m:=5) rfl) (ka.refl H) λy Y=>cb (λ_=>?_) (λh=>absurd (by decide) h);have F:ed H y o:=ka.ye Y _;exact{_,rfl,j,d,x,rfl,u.same Y,hx,λS l r U V W=>k S l d p r x (F.vn U) ((u.same Y).same U) (.inl rfl) ((R.same Y).same U) hd ⟨V,rfl⟩ W}
 |get a=>
  refine Zb (Be (n:=3) (m:=5) rfl) (ka.refl H) λH0 Z=>cb (λh=>absurd h (by decide)) (λ_=>?_);refine Of (fh (t:=Jb a) (rest:=q) rfl (R.same Z) hd hz λy z B F I J M L=>?_);rw[<-zg] at L;rw[Zh] at M;have kp:=ed.trans (ka.ye Z o) F;exact Zb (Be (n:=3) (m:=3) rfl) (ka.refl y) λS U=>cb (λ_=>v Zm a (λr V=>⟨V,rfl⟩) S z B (kp.trans (ka.ye U _)) (I.same U) J (U _ _ L) M) (λh=>absurd (by decide) h)
 |list a=>
  refine Zb (Be (n:=4) (m:=5) rfl) (ka.refl H) λH0 Z=>cb (λh=>absurd h (by decide)) (λ_=>?_);refine Of (fh (t:=Jb a) (rest:=q) rfl (R.same Z) hd hz λy z B F I J M L=>?_);rw[<-zg] at L;rw[Zh] at M;have kp:=ed.trans (ka.ye Z o) F;exact Zb (Be (n:=4) (m:=3) rfl) (ka.refl y) λS U=>cb (λh=>absurd h (by decide)) (λ_=>v Kw a (λr V=>⟨V,rfl⟩) S z B (kp.trans (ka.ye U _)) (I.same U) J (U _ _ L) M)
 |_=>cases ok
noncomputable def Ou:yf->Bool
 | .packages=>da
 | .owner _=>da
 | .glob _ _ _=>da
 |_=>ma
noncomputable abbrev eZ:List Str:=["tree","number","reader","package","patterns"]
theorem r0{CR:Addr}(G:GF K mg "answer_package" kM ["tree","number","reader"])(T:mo mg)(b:Xi K CR)(g:Ue P w K mg base 2 CR "read_row" ["self"] (Ej K CR))(h2:Aa P w K mg base 3 "all_packages" (Nv C Ow))
  (h3:Aa P w K mg base 4 "owner_of" (Kj C Jz)) (h4:Aa P w K mg base 5 "glob_package" (XD C)):Aa P w K mg base 6 "answer_package" (Nj K C CR Ou):=by
 refine G.go (N:=eZ) ?_;rintro f cdv A outer s H vs Q E nd j X D ⟨tp,d,x,rp,cl,p,zs,c,o,rfl,ok,q,hx,ht,R,hd,u,k⟩;refine⟨_,Ga (Lb (fc Zf (pv 1) (Wa T.KI) (Yb _)) (Ca (Oa (Ya h2 j (la (pv 0) pa)))) Ob)
  (Ga (Lb (fc Zf (pv 1) (Wa T.IL) (Yb _)) (Ca (Oa (Ya h3 j (la (pv 0) (la (Ig g b.cl (j.mono (by decide)) (pv 2)) pa))))) Ob)
  (Ga (nc (i:=3) (Ig g b.cl (j.mono (by decide)) (pv 2)))
  (Ga (nc (i:=4) (Ig g b.cl (j.mono (by decide)) (pv 2)))
  (Ca (Oa (Ya h4 j (la (pv 0) (la (pv 3) (la (pv 4) (la (Ig g b.cl (j.mono (by decide)) (pv 2)) pa)))))))))),?_⟩
 cases c with
 |packages=>
  refine Zb (Be (n:=6) (m:=6) rfl) (ka.refl H) λH1 v=>cb (λ_=>?_) (λh=>absurd (by decide) h);have z:ed H H1 rp:=ka.ye v _;exact{_,rfl,tp,d,x,rfl,q.same v,hx,λH2 l r B F I=>k H2 l d p r x (z.vn B) ((q.same v).same B) (.inl rfl) ((R.same v).same B) hd ⟨F,rfl⟩ I}
 |owner a=>
  refine Zb (Be (n:=7) (m:=6) rfl) (ka.refl H) λH0 s0=>cb (λh=>absurd h (by decide)) (λ_=>?_);refine Zb (Be (n:=7) (m:=7) rfl) s0 λH0' J=>cb (λ_=>?_) (λh=>absurd (by decide) h);refine{_,rfl,fh (t:=Jb a) (rest:=o) rfl (R.same J) hd u λH1 q1 p1 z R1 L M O=>?_};rw[<-zg] at O;rw[Zh] at M;have S:=ed.trans (ka.ye J rp) z;obtain⟨U,n1,n2⟩:=Rk q R S;exact{tp,d,x,q1,a,rfl,U,hx,O,M,λH2 l r B F I=>k H2 l d p1 r x (S.vn B) (U.same B) (.inl rfl) (R1.same B) L ⟨F,rfl⟩ I}
 |glob a y e=>
  refine Zb (Be (n:=10) (m:=6) rfl) (ka.refl H) λH0 s0=>cb (λh=>absurd h (by decide)) (λ_=>?_);refine Zb (Be (n:=10) (m:=7) rfl) s0 λH0' J=>cb (λh=>absurd h (by decide)) (λ_=>?_);refine Of (fh (t:=Jb a) (rest:=gd y++(gd e++o)) rfl (R.same J) (by rw[hd];show _++(_++_)++_=_;rw[cf,cf]) u λH1 q1 p1 z R1 L M O=>?_);rw[<-zg] at O;rw[Zh] at M;refine Of (fh (t:=y) (rest:=gd e++o) rfl R1 L u λH2 q2 p2 V R2 hd2 hl2 hq2=>?_);refine{_,rfl,_,rfl,_,rfl,fh (t:=e) (rest:=o) rfl R2 hd2 u λH3 q3 p3 W R3 hd3 hl3 hq3=>?_};have Y:=ed.trans (ka.ye J rp) (z.trans V);have S:=Y.trans W;obtain⟨Z,n1,n2⟩:=Rk q R S;obtain⟨⟨dr1,hr1⟩,_⟩:=id R1;obtain⟨⟨dr2,F⟩,_⟩:=id R2;exact{tp,d,x,q1,a,q2,y,q3,e,rfl,Z,hx,Et W F (Et V hr1 O),M,Et W F hq2,hl2,hq3,hl3,λH4 l r s4 hr4 I=>k H4 l d p3 r x (S.vn s4) (Z.same s4) (.inl rfl) (R3.same s4) hd3 ⟨hr4,rfl⟩ I}
 |_=>cases ok
noncomputable def pA:yf->Bool
 | .label _ _=>da
 | .resolve _=>da
 |_=>ma
theorem b3{CR:Addr}(G:GF K mg "answer_label" SN ["tree","number","reader"])(T:mo mg)(TR:Xi K CR)(h1:Ue P w K mg base 2 CR "read_row" ["self"] (Ej K CR))(h2:Aa P w K mg base 7 "label_in" (Xr λp t=>Fd (yp p t)))
  (h3:Aa P w K mg base 6 "resolve_label" (Kj C λx t r=>r=lj x t)):Aa P w K mg base 8 "answer_label" (Nj K C CR pA):=by
 refine G.go (N:=["tree","number","reader","text"]) ?_;rintro f cdv A e s H vs Q E nd g X D ⟨tp,d,x,rp,cl,p,zs,c,j,rfl,ok,Tr,hx,ht,R,hd,o,k⟩;refine⟨_,Ga (nc (i:=3) (Ig h1 TR.cl (g.mono (by decide)) (pv 2)))
  (Ga (Lb (fc Zf (pv 1) (Wa T.LABEL) (Yb _)) (Ca (Oa (Ya h2 g (la (pv 3) (la (Ig h1 TR.cl (g.mono (by decide)) (pv 2)) pa))))) Ob)
  (Ca (Oa (Ya h3 g (la (pv 0) (la (pv 3) pa)))))),?_⟩
 cases c with
 |label a b=>
  refine Of (fh (t:=Jb a) (rest:=gd (Jb b)++j) rfl R (by rw[hd];exact cf _ _ _) o λq u p1 v y z B F=>?_);rw[<-zg] at F;rw[Zh] at B;refine Zb (Be (n:=8) (m:=8) rfl) (ka.refl q) λH2 I=>cb (λ_=>?_) (λh=>absurd (by decide) h);refine{_,rfl,fh (t:=Jb b) (rest:=j) rfl (y.same I) z o λH3 q3 p3 J R3 L M O=>?_};rw[<-zg] at O;rw[Zh] at M;have S:=(v.trans (ka.ye I rp)).trans J;obtain⟨U,n1,n2⟩:=Rk Tr R S;obtain⟨⟨dr2,V⟩,_⟩:=id (y.same I);exact{u,q3,a,b,rfl,Et J V (I _ _ F),O,B,M,λH4 l W Y=>k H4 l d p3 _ x (S.vn W) (U.same W) (.inl rfl) (R3.same W) L ⟨rfl,rfl⟩ Y}
 |resolve a=>
  refine Of (fh (t:=Jb a) (rest:=j) rfl R hd o λq u p1 v y z B F=>?_);rw[<-zg] at F;rw[Zh] at B;refine Zb (Be (n:=9) (m:=8) rfl) (ka.refl q) λH2 I=>cb (λh=>absurd h (by decide)) (λ_=>?_);have S:=v.trans (ka.ye I rp);obtain⟨Z,n1,n2⟩:=Rk Tr R S;exact{_,rfl,_,rfl,tp,d,x,u,a,rfl,Z,hx,I _ _ F,B,λH3 l r s3 hr3 Y=>k H3 l d p1 r x (S.vn s3) (Z.same s3) (.inl rfl) ((y.same I).same s3) z ⟨hr3,rfl⟩ Y}
 |_=>cases ok
noncomputable def uw:yf->Bool
 | .archive=>da
 | .read _=>da
 | .compare _=>da
 |_=>ma
theorem b9{CR:Addr}(G:GF K mg "answer_archive" oP ["tree","number","reader"])(T:mo mg)(TR:Xi K CR)(h1:Ue P w K mg base 2 CR "read_row" ["self"] (Ej K CR))(h2:Aa P w K mg base 3 "archive_of" (dF C))
  (h3:Aa P w K mg base 6 "read_archive" (uv C Fk)) (h4:Aa P w K mg base 6 "compare_with_archive" (Kj C aq)):Aa P w K mg base 7 "answer_archive" (Nj K C CR uw):=by
 refine G.go (N:=["tree","number","reader","text"]) ?_;rintro f cdv A b s H vs Q E nd g X D ⟨j,d,x,o,cl,p,zs,c,q,rfl,ok,v,y,ht,R,hd,hz,k⟩;refine⟨_,Ga (Lb (fc Zf (pv 1) (Wa T.ARCHIVE) (Yb _)) (Ca (Oa (Ya h2 g (la (pv 0) pa)))) Ob)
  (Ga (nc (i:=3) (Ig h1 TR.cl (g.mono (by decide)) (pv 2)))
  (Ga (Lb (fc Zf (pv 1) (Wa T.aP) (Yb _)) (Ca (Oa (Ya h3 g (la (pv 0) (la (pv 3) pa))))) Ob)
  (Ca (Oa (Ya h4 g (la (pv 0) (la (pv 3) pa))))))),?_⟩
 cases c with
 |archive=>
  refine Zb (Be (n:=12) (m:=12) rfl) (ka.refl H) λz B=>cb (λ_=>?_) (λh=>absurd (by decide) h);have F:ed H z o:=ka.ye B _;exact{_,rfl,j,d,x,rfl,v.same B,y,ht,λH2 l r I J L=>k H2 l d p r x (F.vn I) ((v.same B).same I) (.inl rfl) ((R.same B).same I) hd ⟨J,rfl⟩ L}
 |read a=>
  refine Zb (Be (n:=13) (m:=12) rfl) (ka.refl H) λH0 M=>cb (λh=>absurd h (by decide)) (λ_=>?_);refine Of (fh (t:=Jb a) (rest:=q) rfl (R.same M) hd hz λz q1 p1 F R1 O S U=>?_);rw[<-zg] at U;rw[Zh] at S;refine Zb (Be (n:=13) (m:=13) rfl) (ka.refl z) λH3 V=>cb (λ_=>?_) (λh=>absurd (by decide) h);have W:=(ed.trans (ka.ye M o) F).trans (ka.ye V _);obtain⟨Y,n1,n2⟩:=Rk v R W;have R3:=R1.same V;obtain⟨⟨dr3,hr3⟩,_⟩:=id R3;refine{_,rfl,_,rfl,j,d,x,q1,a,rfl,Y,y,V _ _ U,S,λH4 l d' Z Tr4 hd' hl0 L=>k H4 l d' p1 _ _ (λe u he m1 m2 m3=>Z _ _ (W _ _ he m3) m1 m2) Tr4 ?_ (lE R3 Y n1 n2 Z) O ⟨rfl,rfl⟩ L};rcases hd' with e|e
  .exact .inl e
  .exact .inr (Sz W hr3 e)
 |compare a=>
  refine Zb (Be (n:=14) (m:=12) rfl) (ka.refl H) λH0 M=>cb (λh=>absurd h (by decide)) (λ_=>?_);refine Of (fh (t:=Jb a) (rest:=q) rfl (R.same M) hd hz λz q1 p1 F R1 O S U=>?_);rw[<-zg] at U;rw[Zh] at S;refine Zb (Be (n:=14) (m:=13) rfl) (ka.refl z) λH3 V=>cb (λh=>absurd h (by decide)) (λ_=>?_);have W:=(ed.trans (ka.ye M o) F).trans (ka.ye V _);obtain⟨Y,n1,n2⟩:=Rk v R W;exact{_,rfl,_,rfl,j,d,x,q1,a,rfl,Y,y,V _ _ U,S,λH4 l r s4 hr4 L=>k H4 l d p1 r x (W.vn s4) (Y.same s4) (.inl rfl) ((R1.same V).same s4) O ⟨hr4,rfl⟩ L}
 |_=>cases ok
theorem iK(a kd c:Addr)(p:Nat):hf a kd≠rf c p:=by
 intro e;have b:(hf a kd).head?=ba (("tree":Str),V.ref a):=rfl;have d:(rf c p).head?=ba (("calls":Str),V.ref c):=rfl;rw[e,d] at b;have:(("calls":Str))="tree":=wc Prod.fst (Dd b);exact absurd this (by decide)
theorem LV(d c:Addr)(p:Nat):ff d≠rf c p:=by
 intro e;have a:(ff d).length=1:=rfl;have b:(rf c p).length=2:=rfl;have:=wc He e;omega
def Tv(c:yf)(x:List Ent)(ks:List Cb)(r:List Int)(x':List Ent)(ks':List Cb):Prop:=match c with
 | .keep k=>fx x ks k r x' ks'
 | .back k=>Pw x ks k r x' ks'
 | .changed k=>Sv x ks k r x' ks'
 |c=>Su c x r x'/\ks'=ks
def uZ(H H':Hp)(hp tp d kd rp:Addr):Prop:=∀b u,H b=ba u->b≠hp->b≠tp->b≠d->b≠kd->b≠rp->H' b=ba u
theorem uc.bK{CR:Addr}{q a b dr c:Addr}{p:Nat}(T:uc C H q a x)(d:H b=ba (.ins CR dr (rf c p))):q≠b/\a≠b:=by
 obtain⟨⟨f,g⟩,h,hd,_⟩:=T;exact{Vb g d (λe=>by injection e with _ _ e3;exact LV _ _ _ e3),Vb hd d}
theorem Nf.RI{f CR:Addr}{g:Hp}{i j kd d' k dr c:Addr}{p:Nat}{l:List Ent}{m:List Cb}(h:Nf C f H i j d kd x m)(n:H k=ba (.ins CR dr (rf c p)))(o:ZA H g j d k)(T:uc C g j d' l)(r:d'=d\/H d'=ia)(s:Small l):Nf C f g i j d' kd l m:=by
 obtain⟨⟨t,v⟩,w,h3,⟨y,A,B⟩,D⟩:=h;obtain⟨⟨dt,E⟩,F,G,I⟩:=id w;have J:i≠j:=Vb v E (λe=>by injection e with _ _ e3;exact nJ _ _ _ e3.symm);have K:i≠d:=Vb v G;have L:kd≠j:=Vb A E;have M:kd≠d:=Vb A G;have N:i≠k:=Vb v n (λe=>by injection e with _ _ e3;exact iK _ _ _ _ e3);have O:kd≠k:=Vb A n;have P:Fe H g:=λb xs Q=>o b _ Q (Vb Q E) (Vb Q G) (Vb Q n);refine{{t,o _ _ v J K N},T,s,{y,o _ _ A L M O,B.map λq dq x a b c=>{a,?_,?_}},D}
 .rcases r with e|e
  .rw[e];exact b
  .intro z;obtain⟨_,R,S,_⟩:=c;rw[z,e] at S;cases S
 .obtain⟨U,V⟩:=c.bK n;obtain⟨⟨W,X⟩,R,S,Y⟩:=id c;exact c.at_ (λu Z=>o _ _ Z a (λz=>by rw[z,G] at Z;rw[z,G] at X;cases X) U) (λu Z=>o _ _ Z (λz=>by rw[z,E] at S;cases S) b V) P
theorem VF{a CR:Addr}{e:Hp}{f g kd i c:Addr}{p:Nat}{j:List Cb}{zs:Ka}(h:Nf C a H f g d kd x j)(R:sd K CR H i c p zs)(k:ed H e i):Nf C a e f g d kd x j:=by
 obtain⟨⟨l,m⟩,_⟩:=id R;exact h.RI m (λb u o _ _ n=>k b u o n) (Rk h.tree R k).1 (.inl rfl) h.sm
theorem cU{a CR:Addr}{b:Hp}{f g kd i c:Addr}{p:Nat}{j:List Cb}{zs:Ka}(h:Nf C a H f g d kd x j)(R:sd K CR H i c p zs)(k:wF H b f g d kd):sd K CR b i c p zs:=by
 obtain⟨⟨l,m⟩,n,q⟩:=R;obtain⟨⟨r,s⟩,t,v,⟨y,A,B⟩,D⟩:=h;obtain⟨E,F⟩:=t.bK m;obtain⟨⟨G,I⟩,J,L,M⟩:=id t;have N:f≠i:=Vb s m (λe=>by injection e with _ _ e3;exact iK _ _ _ _ e3);have O:kd≠i:=Vb A m;refine{{l,k _ _ m N.symm E.symm F.symm O.symm},AA n λu P Q=>k _ _ P ?_ ?_ ?_ ?_,q}
 .exact Fo P Q s (by intro S z;cases z) (by intro o w z;cases z)
 .exact Fo P Q I (by intro S z;cases z) (by intro o w z;cases z)
 .exact Fo P Q L (by intro S z;cases z) (by intro o w z;cases z)
 .exact Fo P Q A (by intro S z;cases z) (by intro o w z;cases z)
inductive Jt(K:xa)(C CH CR:Addr)(ok:yf->Bool)(vs:List V)(H:Hp)(Q:VK)(X3:XK):Prop|mk:∀hp tp d kd x ks rp cl p zs c rest,vs=[.ref hp,.int (num c),.ref rp]->ok c=da->Nf C CH H hp tp d kd x ks->Tight x->(∀r x' ks',Tv c x ks r x' ks'->Small x')->sd K CR H rp cl p zs->zs.drop p=args c++rest->zs.length<=100000->(∀H' l tp' d' p' r x' ks',uZ H H' hp tp d kd rp->Nf C CH H' hp tp' d' kd x' ks'->sd K CR H' rp cl p' zs->zs.drop p'=rest->Tv c x ks r x' ks'->H' l=ba (.lst (nums r))->Q (.ref l) H')->Jt K C CH CR ok vs H Q X3
noncomputable def wz:yf->Bool
 | .keep _=>da
 | .back _=>da
 | .changed _=>da
 |_=>ma
theorem Yz{CR:Addr}{Q:VK}{a c:Addr}{p:Nat}{zs rest:Ka}{n:Int}(b:σ[i]?=ba (ba (.ref a)))(R:sd K CR H a c p zs)(hd:zs.drop p=n::rest)
  (k:∀H',ed H H' a->sd K CR H' a c (p+1) zs->zs.drop (p+1)=rest->Q (.int n) H'):Il CR "read_number" (Lp K CR) [] E0 (Ua i) Xb σ H Q:=by
 obtain⟨⟨d,e⟩,_⟩:=id R;have f:zs[p]?=ba n:=by
  have:=wc (λl=>l[0]?) hd;simpa using this
 have g:zs.drop (p+1)=rest:=by
  have:=wc (aas 1) hd;rw[Hn] at this;exact this
 exact{_,b,a,d,_,rfl,e,IA _ _ (by decide) (by decide),a,c,p,zs,n,rfl,R,f,λH' h j=>k H' h j g}
noncomputable abbrev RZ:List Str:=["holder","number","reader","k"]
theorem O3{a CR:Addr}{n:Nat}(hn:4<=n)(G:GF K mg "answer_kept" oQ ["holder","number","reader"])(T:mo mg)(TR:Xi K CR)(h1:Ue P w K mg base 1 CR "read_number" ["self"] (Lp K CR))(h2:Aa P w K mg base 4 "keep_tree" (Oo C a fx))
  (h3:Aa P w K mg base 4 "back_to_kept" (Oo C a Pw)) (h4:Aa P w K mg base n "changed_from_kept" (Oo C a Sv)):Aa P w K mg base (n+1) "answer_kept" (Jt K C a CR wz):=by
 refine G.go (N:=RZ) ?_;rintro f cdv A e s H vs Q E nd o X D ⟨hp,tp,d,kd,x,q,t,cl,p,zs,c,v,rfl,ok,Hh,ht,hsm,R,hd,hz,k⟩;refine⟨_,Ga (nc (i:=3) (Ig h1 TR.cl (o.mono (by omega)) (pv 2)))
  (Ga (Lb (fc Zf (pv 1) (Wa T.qP) (Yb _)) (Ca (Oa (Ya h2 (o.mono (by omega)) (la (pv 0) (la (pv 3) pa))))) Ob)
  (Ga (Lb (fc Zf (pv 1) (Wa T.XP) (Yb _)) (Ca (Oa (Ya h3 (o.mono (by omega)) (la (pv 0) (la (pv 3) pa))))) Ob)
  (Ca (Oa (Ya h4 o (la (pv 0) (la (pv 3) pa))))))),?_⟩
 have y:∀(g:List Ent->List Cb->Int->List Int->List Ent->List Cb->Prop)(j:Int),(∀r z B,g x q j r z B->Tv c x q r z B)->∀(F:Hp)(I:Nat),ed H F t->sd K CR F t cl I zs->zs.drop I=v->
   me (Oo C a g) [] E0 (Kb (Ua 0) (Kb (Ua 3) Xb)) [ba (.ref hp),ba (.int (num c)),ba (.ref t),ba (.int j)] F Q:=λg j hg F I J L M=>by
  have O:=VF Hh R J;exact{_,rfl,_,rfl,hp,tp,d,kd,x,q,j,rfl,O,λS l U d' r z B V W hr2 hl=>k S l U d' I r z B (λb u hb m1 m2 m3 m4 m5=>V _ _ (J _ _ hb m5) m1 m2 m3 m4) W (cU O L V) M (hg r z B hr2) hl}
 cases c with
 |keep j=>
  refine Of (Yz (n:=j) (rest:=v) rfl R hd λF J L M=>?_);exact Zb (Be (n:=15) (m:=15) rfl) (ka.refl F) λS Y=>cb (λ_=>y fx j (λr z B h=>h) S _ (J.trans (ka.ye Y _)) (L.same Y) M) (λh=>absurd (by decide) h)
 |back j=>
  refine Of (Yz (n:=j) (rest:=v) rfl R hd λF J L M=>?_);refine Zb (Be (n:=16) (m:=15) rfl) (ka.refl F) λS Y=>cb (λh=>absurd h (by decide)) (λ_=>?_);exact Zb (Be (n:=16) (m:=16) rfl) Y λH3 Z=>cb (λ_=>y Pw j (λr z B h=>h) H3 _ (J.trans (ka.ye Z _)) (L.same Z) M) (λh=>absurd (by decide) h)
 |changed j=>
  refine Of (Yz (n:=j) (rest:=v) rfl R hd λF J L M=>?_);refine Zb (Be (n:=17) (m:=15) rfl) (ka.refl F) λS Y=>cb (λh=>absurd h (by decide)) (λ_=>?_);exact Zb (Be (n:=17) (m:=16) rfl) Y λH3 Z=>cb (λh=>absurd h (by decide)) (λ_=>y Sv j (λr z B h=>h) H3 _ (J.trans (ka.ye Z _)) (L.same Z) M)
 |_=>cases ok
theorem Hc{H0:Hp}{a:TT}{t r:TS}{D:Ends}(h:Pb H0 a σ ma)(s:ka H0 H)(k:∀H',ka H0 H'->r D σ H'):yo (Jm a t qF) r D σ H:=Zb h s λH' b=>cb (λh=>absurd h (by decide)) λ_=>k H' b
theorem Lg{H0:Hp}{a:TT}{t u r:TS}{D:Ends}(h:Pb H0 a σ da)(s:ka H0 H)(k:∀H',ka H0 H'->t {D with nx:=r D} σ H'):yo (Jm a t u) r D σ H:=Zb h s λH' b=>cb (λ_=>k H' b) λh=>absurd rfl h
theorem Dc{H0:Hp}{n a b c:Int}{t:Bool}(d:σ[i]?=ba (ba (.int n)))(f:(decide (a=n)||(decide (b=n)||decide (c=n)))=t):Pb H0 (Ed (Vc (Ut K ma) (Ua i) (Kp (Kb (tC (.int a)) (Kb (tC (.int b)) (Kb (tC (.int c)) Xb)))))) σ t:=λH Q s q=>by
 refine{_,d,(by show 3<=sizeLine;decide),λp g=>{p,_,rfl,.inr (Ba.of wa),rfl,rfl,_,rfl,?_}};have e:gh (.int n) [.int a,.int b,.int c]=t:=by
  rw[<-f];show((a==n)||((b==n)||((c==n)||ma)))=_;rw[su];rfl
 show Q (gh (.int n) [.int a,.int b,.int c]) _;rw[e];exact q _ (Zg s (s.free g))
theorem Hm{H0:Hp}{n a b:Int}{t:Bool}(c:σ[i]?=ba (ba (.int n)))(d:(decide (a=n)||decide (b=n))=t):Pb H0 (Ed (Vc (Ut K ma) (Ua i) (Kp (Kb (tC (.int a)) (Kb (tC (.int b)) Xb))))) σ t:=λH Q s q=>by
 refine{_,c,(by show 2<=sizeLine;decide),λp f=>{p,_,rfl,.inr (Ba.of wa),rfl,rfl,_,rfl,?_}};have e:gh (.int n) [.int a,.int b]=t:=by
  rw[<-d];show((a==n)||((b==n)||ma))=_;rw[su];rfl
 show Q (gh (.int n) [.int a,.int b]) _;rw[e];exact q _ (Zg s (s.free f))
theorem Mp{H0:Hp}{n m:Int}{t:Bool}(a:σ[i]?=ba (ba (.int n)))(b:decide (n=m)=t):Pb H0 (Ed (Vc kB (Ua i) (tC (.int m)))) σ t:=by
 rw[<-b];exact Be a
noncomputable abbrev j4:List Str:=["holder","number","reader","pattern"]
theorem K3{CH CR:Addr}(G:GF K mg "answer_call" GN ["holder","number","reader"])(T:mo mg)(TH:Vt K mg CH)(TR:Xi K CR)
  (h1:Aa P w K mg base 5 "answer_edit" (Nj K C CR Xu)) (h2:Aa P w K mg base 6 "answer_view" (Nj K C CR jv)) (h3:Aa P w K mg base 6 "answer_package" (Nj K C CR Ou))
  (h4:Aa P w K mg base 8 "answer_label" (Nj K C CR pA)) (h5:Aa P w K mg base 4 "match_name" (Xr Xm)) (h6:Aa P w K mg base 7 "answer_archive" (Nj K C CR uw))
  (h7:Aa P w K mg base 7 "answer_kept" (Jt K C CH CR wz)) (h8:Ue P w K mg base 2 CR "read_row" ["self"] (Ej K CR)):Aa P w K mg base 9 "answer_call" (Jt K C CH CR λ_=>da):=by
 refine G.go (N:=j4) ?_;rintro f cdv A outer s H vs Q E nd g X D ⟨hp,tp,d,kd,x,ks,m,cl,p,zs,c,o,rfl,ok,Hh,ht,hsm,R,hd,hz,k⟩;refine⟨_,Ga (Lb (fc Zl (pv 1) (Mf (la (Wa T.vM) (la (Wa T.mK) (la (Wa T.fZ) pa)))) (by with_unfolding_all rfl)) (Ca (Oa (Ya h1 g (la (vc (pv 0) rfl) (la (pv 1) (la (pv 2) pa)))))) Ob)
  (Ga (Lb (fc Zl (pv 1) (Mf (la (Wa T.oJ) (la (Wa T.nW) (la (Wa T.FILES) pa)))) (by with_unfolding_all rfl)) (Ca (Oa (Ya h2 g (la (vc (pv 0) rfl) (la (pv 1) (la (pv 2) pa)))))) Ob)
  (Ga (Lb (fc Zl (pv 1) (Mf (la (Wa T.KI) (la (Wa T.IL) (la (Wa T.rV) pa)))) (by with_unfolding_all rfl)) (Ca (Oa (Ya h3 g (la (vc (pv 0) rfl) (la (pv 1) (la (pv 2) pa)))))) Ob)
  (Ga (Lb (fc Zl (pv 1) (Mf (la (Wa T.LABEL) (la (Wa T.S5) pa))) (by with_unfolding_all rfl)) (Ca (Oa (Ya h4 g (la (vc (pv 0) rfl) (la (pv 1) (la (pv 2) pa)))))) Ob)
  (Ga (Lb (fc Zf (pv 1) (Wa T.yX) (Yb _)) (Ga (nc (i:=3) (Ig h8 TR.cl (g.mono (by decide)) (pv 2))) (Ca (Oa (Ya h5 g (la (pv 3) (la (Ig h8 TR.cl (g.mono (by decide)) (pv 2)) pa)))))) Ob)
  (Ga (Lb (fc Zl (pv 1) (Mf (la (Wa T.ARCHIVE) (la (Wa T.aP) (la (Wa T.b6) pa)))) (by with_unfolding_all rfl)) (Ca (Oa (Ya h6 g (la (vc (pv 0) rfl) (la (pv 1) (la (pv 2) pa)))))) Ob)
  (Ga (Lb (fc Zl (pv 1) (Mf (la (Wa T.qP) (la (Wa T.XP) (la (Wa T.U6) pa)))) (by with_unfolding_all rfl)) (Ca (Oa (Ya h7 g (la (pv 0) (la (pv 1) (la (pv 2) pa)))))) Ob)
  (Ca SU))))))),?_⟩
 obtain⟨⟨dr0,hr0⟩,_⟩:=id R;have q:∀ok:yf->Bool,ok c=da->(∀r v,Su c x r v->Tv c x ks r v ks)->∀z,ka H z->
   me (Nj K C CR ok) [] E0 (Kb (zt K (Ua 0) "tree") (Kb (Ua 1) (Kb (Ua 2) Xb))) [ba (.ref hp),ba (.int (num c)),ba (.ref m),ia] z Q:=λok B F z I=>by
  obtain⟨⟨dx,hi⟩,Tr,sm,_,Bk⟩:=Hh.same I;refine{_,rfl,hp,CH,dx,_,.ref tp,rfl,hi,TH.cl,TH.nT,Pz _ _,_,rfl,_,rfl,tp,d,x,m,cl,p,zs,c,o,rfl,B,Tr,sm,ht,R.same I,hd,hz,λJ l d' p' r v kp2 Tr2 hd2 R2 hd3 L hl=>?_};have kp:ZA H J tp d m:=λb u hb=>kp2 b u (I _ _ hb);have hd4:d'=d\/H d'=ia:=by
   rcases hd2 with e|e
   .exact .inl e
   .exact .inr (I.free e)
  exact k J l tp d' p' r v ks (λb u hb m1 m2 m3 m4 m5=>kp b u hb m2 m3 m5) (Hh.RI hr0 kp Tr2 hd4 (hsm _ _ _ (F _ _ L))) R2 hd3 (F _ _ L) hl
 have mat:∀a b:Text,c= .matches_ a b->∀z,ka H z->
   yo (Co (Il CR "read_row" (Ej K CR) [] E0 (Ua 2) Xb) (Le 3)) (pD (me (Xr Xm) [] E0 (Kb (Ua 3) (Kb (Il CR "read_row" (Ej K CR) [] E0 (Ua 2) Xb) Xb)))) {λ_ _=>False,Q,λ_ _=>False,λ_ _=>False} [ba (.ref hp),ba (.int (num c)),ba (.ref m),ia] z:=λa b hc z I=>by
  subst hc;refine Of (fh (t:=Jb a) (rest:=gd (Jb b)++o) rfl (R.same I) (by rw[hd];exact cf _ _ _) hz λJ q2 p2 kp2 R2 hd2 hl2 hq2=>?_);rw[<-zg] at hq2;rw[Zh] at hl2;refine{_,rfl,fh (t:=Jb b) (rest:=o) rfl R2 hd2 hz λM q3 p3 kp3 R3 hd3 hl3 hq3=>?_};rw[<-zg] at hq3;rw[Zh] at hl3;have kp:=((ka.ye I m).trans kp2).trans kp3;obtain⟨⟨dr2,L⟩,_⟩:=id R2;exact{q2,q3,a,b,rfl,Et kp3 L hq2,hq3,hl2,hl3,λO l S hl=>k O l tp d p3 _ x ks (λb u hb m1 m2 m3 m4 m5=>S _ _ (kp b u hb m5)) ((VF Hh R kp).same S) (R3.same S) hd3 {⟨rfl,rfl⟩,rfl} hl}
 have kpt:wz c=da->∀z,ka H z->me (Jt K C CH CR wz) [] E0 (Kb (Ua 0) (Kb (Ua 1) (Kb (Ua 2) Xb))) [ba (.ref hp),ba (.int (num c)),ba (.ref m),ia] z Q:=λB z I=>
  {_,rfl,_,rfl,_,rfl,hp,tp,d,kd,x,ks,m,cl,p,zs,c,o,rfl,B,Hh.same I,ht,hsm,R.same I,hd,hz,λJ l tp' d' p' r v ks' kp=>k J l tp' d' p' r v ks' (λb u hb=>kp b u (I _ _ hb))}
 cases c with
 |put a b=>
  refine Lg (Dc (n:=0) rfl (by decide)) (ka.refl H) λU V=>?_;exact q Xu rfl (λr v h=>⟨h,rfl⟩) _ V
 |remove a=>
  refine Lg (Dc (n:=1) rfl (by decide)) (ka.refl H) λU V=>?_;exact q Xu rfl (λr v h=>⟨h,rfl⟩) _ V
 |move a b=>
  refine Lg (Dc (n:=2) rfl (by decide)) (ka.refl H) λU V=>?_;exact q Xu rfl (λr v h=>⟨h,rfl⟩) _ V
 |get a=>
  refine Hc (Dc (n:=3) rfl (by decide)) (ka.refl H) λU V=>?_;refine Lg (Dc (n:=3) rfl (by decide)) (V) λz I=>?_;exact q jv rfl (λr v h=>⟨h,rfl⟩) _ I
 |list a=>
  refine Hc (Dc (n:=4) rfl (by decide)) (ka.refl H) λU V=>?_;refine Lg (Dc (n:=4) rfl (by decide)) (V) λz I=>?_;exact q jv rfl (λr v h=>⟨h,rfl⟩) _ I
 |files=>
  refine Hc (Dc (n:=5) rfl (by decide)) (ka.refl H) λU V=>?_;refine Lg (Dc (n:=5) rfl (by decide)) (V) λz I=>?_;exact q jv rfl (λr v h=>⟨h,rfl⟩) _ I
 |packages=>
  refine Hc (Dc (n:=6) rfl (by decide)) (ka.refl H) λU V=>?_;refine Hc (Dc (n:=6) rfl (by decide)) (V) λz I=>?_;refine Lg (Dc (n:=6) rfl (by decide)) (I) λJ W=>?_;exact q Ou rfl (λr v h=>⟨h,rfl⟩) _ W
 |owner a=>
  refine Hc (Dc (n:=7) rfl (by decide)) (ka.refl H) λU V=>?_;refine Hc (Dc (n:=7) rfl (by decide)) (V) λz I=>?_;refine Lg (Dc (n:=7) rfl (by decide)) (I) λJ W=>?_;exact q Ou rfl (λr v h=>⟨h,rfl⟩) _ W
 |label a b=>
  refine Hc (Dc (n:=8) rfl (by decide)) (ka.refl H) λU V=>?_;refine Hc (Dc (n:=8) rfl (by decide)) (V) λz I=>?_;refine Hc (Dc (n:=8) rfl (by decide)) (I) λJ W=>?_;refine Lg (Hm (n:=8) rfl (by decide)) (W) λM Y=>?_;exact q pA rfl (λr v h=>⟨h,rfl⟩) _ Y
 |resolve a=>
  refine Hc (Dc (n:=9) rfl (by decide)) (ka.refl H) λU V=>?_;refine Hc (Dc (n:=9) rfl (by decide)) (V) λz I=>?_;refine Hc (Dc (n:=9) rfl (by decide)) (I) λJ W=>?_;refine Lg (Hm (n:=9) rfl (by decide)) (W) λM Y=>?_;exact q pA rfl (λr v h=>⟨h,rfl⟩) _ Y
 |glob a y e=>
  refine Hc (Dc (n:=10) rfl (by decide)) (ka.refl H) λU V=>?_;refine Hc (Dc (n:=10) rfl (by decide)) (V) λz I=>?_;refine Lg (Dc (n:=10) rfl (by decide)) (I) λJ W=>?_;exact q Ou rfl (λr v h=>⟨h,rfl⟩) _ W
 |matches_ a b=>
  refine Hc (Dc (n:=11) rfl (by decide)) (ka.refl H) λU V=>?_;refine Hc (Dc (n:=11) rfl (by decide)) (V) λz I=>?_;refine Hc (Dc (n:=11) rfl (by decide)) (I) λJ W=>?_;refine Hc (Hm (n:=11) rfl (by decide)) (W) λM Y=>?_;refine Lg (Mp (n:=11) rfl (by decide)) (Y) λO S=>?_;exact mat a b rfl _ S
 |archive=>
  refine Hc (Dc (n:=12) rfl (by decide)) (ka.refl H) λU V=>?_;refine Hc (Dc (n:=12) rfl (by decide)) (V) λz I=>?_;refine Hc (Dc (n:=12) rfl (by decide)) (I) λJ W=>?_;refine Hc (Hm (n:=12) rfl (by decide)) (W) λM Y=>?_;refine Hc (Mp (n:=12) rfl (by decide)) (Y) λO S=>?_;refine Lg (Dc (n:=12) rfl (by decide)) (S) λH5 Z=>?_;exact q uw rfl (λr v h=>⟨h,rfl⟩) _ Z
 |read a=>
  refine Hc (Dc (n:=13) rfl (by decide)) (ka.refl H) λU V=>?_;refine Hc (Dc (n:=13) rfl (by decide)) (V) λz I=>?_;refine Hc (Dc (n:=13) rfl (by decide)) (I) λJ W=>?_;refine Hc (Hm (n:=13) rfl (by decide)) (W) λM Y=>?_;refine Hc (Mp (n:=13) rfl (by decide)) (Y) λO S=>?_;refine Lg (Dc (n:=13) rfl (by decide)) (S) λH5 Z=>?_;exact q uw rfl (λr v h=>⟨h,rfl⟩) _ Z
 |compare a=>
  refine Hc (Dc (n:=14) rfl (by decide)) (ka.refl H) λU V=>?_;refine Hc (Dc (n:=14) rfl (by decide)) (V) λz I=>?_;refine Hc (Dc (n:=14) rfl (by decide)) (I) λJ W=>?_;refine Hc (Hm (n:=14) rfl (by decide)) (W) λM Y=>?_;refine Hc (Mp (n:=14) rfl (by decide)) (Y) λO S=>?_;refine Lg (Dc (n:=14) rfl (by decide)) (S) λH5 Z=>?_;exact q uw rfl (λr v h=>⟨h,rfl⟩) _ Z
 |keep j=>
  refine Hc (Dc (n:=15) rfl (by decide)) (ka.refl H) λU V=>?_;refine Hc (Dc (n:=15) rfl (by decide)) (V) λz I=>?_;refine Hc (Dc (n:=15) rfl (by decide)) (I) λJ W=>?_;refine Hc (Hm (n:=15) rfl (by decide)) (W) λM Y=>?_;refine Hc (Mp (n:=15) rfl (by decide)) (Y) λO S=>?_;refine Hc (Dc (n:=15) rfl (by decide)) (S) λH5 Z=>?_;refine Lg (Dc (n:=15) rfl (by decide)) (Z) λH6 s6=>?_;exact kpt rfl _ s6
 |back j=>
  refine Hc (Dc (n:=16) rfl (by decide)) (ka.refl H) λU V=>?_;refine Hc (Dc (n:=16) rfl (by decide)) (V) λz I=>?_;refine Hc (Dc (n:=16) rfl (by decide)) (I) λJ W=>?_;refine Hc (Hm (n:=16) rfl (by decide)) (W) λM Y=>?_;refine Hc (Mp (n:=16) rfl (by decide)) (Y) λO S=>?_;refine Hc (Dc (n:=16) rfl (by decide)) (S) λH5 Z=>?_;refine Lg (Dc (n:=16) rfl (by decide)) (Z) λH6 s6=>?_;exact kpt rfl _ s6
 |changed j=>
  refine Hc (Dc (n:=17) rfl (by decide)) (ka.refl H) λU V=>?_;refine Hc (Dc (n:=17) rfl (by decide)) (V) λz I=>?_;refine Hc (Dc (n:=17) rfl (by decide)) (I) λJ W=>?_;refine Hc (Hm (n:=17) rfl (by decide)) (W) λM Y=>?_;refine Hc (Mp (n:=17) rfl (by decide)) (Y) λO S=>?_;refine Hc (Dc (n:=17) rfl (by decide)) (S) λH5 Z=>?_;refine Lg (Dc (n:=17) rfl (by decide)) (Z) λH6 s6=>?_;exact kpt rfl _ s6
noncomputable def Fh:Tg->List yf->List Int
 |_,[]=>[]
 |s,c::r=>((Fd (Ke s c).2).length:Int)::(Fd (Ke s c).2++Fh (Ke s c).1 r)
noncomputable def yk(a:List yf):Ka:=a.flatMap λc=>num c::args c
structure vK(good:yf->Prop)(Qk:List Ent->List Cb->Tg->Prop):Prop where
 start:Qk [] [] Kn
 small:∀x ks s,Qk x ks s->Small x/\Tight x
 step:∀x ks s c r x' ks',good c->Qk x ks s->Tv c x ks r x' ks'->r=Fd (Ke s c).2/\Qk x' ks' (Ke s c).1
def jz(u:HO):Prop:=(∃ys,u= .lst ys)\/∃o ys,u= .qc o (.lst ys)
theorem Rr{u v:HO}(h:H a=ba v)(c:H b=ba u)(d:jz u)(f:∀ys,v≠ .lst ys)(g:∀o w,v≠ .qc o w):a≠b:=by
 intro e;rw[e,c] at h;cases h;rcases d with⟨ys,z⟩ |⟨o,ys,z⟩
 .exact f _ z
 .exact g _ _ z
theorem uc.Ql{a:Hp}{c e:Addr}{u:HO}(h:uc C H c d x)(f:H e=ba u)(g:jz u)(i:ed H a e):uc C a c d x:=by
 obtain⟨⟨j,k⟩,l,hd,_⟩:=id h;exact h.at_ (λv m=>i _ _ m (Rr k f g (by intro n z;cases z) (by intro o w z;cases z))) (λv m=>i _ _ m (Rr hd f g (by intro n z;cases z) (by intro o w z;cases z))) λb p q=>i _ _ q (Rr q f g (by intro n z;cases z) (by intro o w z;cases z))
theorem Nf.Ql{e:Addr}{f:Hp}{g i kd j:Addr}{u:HO}{k:List Cb}(h:Nf C e H g i d kd x k)(l:H j=ba u)(m:jz u)(n:ed H f j):Nf C e f g i d kd x k:=by
 obtain⟨⟨p,r⟩,s,t,⟨v,y,A⟩,B⟩:=h;exact{{p,n _ _ r (Rr r l m (by intro D z;cases z) (by intro o w z;cases z))},s.Ql l m n,t,{v,n _ _ y (Rr y l m (by intro D z;cases z) (by intro o w z;cases z)),A.map λq E x a b c=>{a,b,c.Ql l m n}},B}
theorem sd.Ql{CR:Addr}{a:Hp}{b c d:Addr}{u:HO}{p:Nat}{zs:Ka}(h:sd K CR H b c p zs)(f:(∀g,Ia K g c (nums zs))\/c≠d)(i:H d=ba u)(j:jz u)(k:ed H a d):sd K CR a b c p zs:=by
 obtain⟨⟨l,m⟩,n,q⟩:=h;refine{{l,k _ _ m (Rr m i j (by intro r z;cases z) (by intro o w z;cases z))},?_,q};rcases f with e|e
 .exact e _
 .exact zz n λv s=>k _ _ s e
theorem yC{o:HO}:ed H (upd H a o) a:=λb u c d=>by rw[Ja d];exact c
inductive Qr(K:xa)(good:yf->Prop)(vs:List V)(H:Hp)(Q:VK)(X3:XK):Prop|mk:∀c zs cs,vs=[.ref c]->Ia K H c (nums zs)->zs=yk cs->zs.length<=100000->(∀c∈cs,good c)->(Fh Kn cs).length<=10000000->(∀H' l,H' l=ba (.lst (nums (Fh Kn cs)))->Q (.ref l) H')->Qr K good vs H Q X3
noncomputable abbrev jX:List Str:=["calls","holder","reader","numbers","answer"]
theorem FI:Vk jX ["calls"] (Qc Qw):=by k_extra "s"
theorem x3{n:Nat}(h:n<=10000000):n<=sizeLine:=Bc h (by decide)
theorem JC(t:List Int):(nums t).length=t.length:=Na _
theorem AY(t u:List Int):nums (t++u)=nums t++nums u:=vf
theorem M2{CH CR:Addr}{g:yf->Prop}{Qk:List Ent->List Cb->Tg->Prop}(SO:vK g Qk){f:Addr}{fd:qb}(G:Gf K mg "answers" Qw ["calls"] f fd)(TR:Xi K CR)(Tl:mg "len"=ia)
  (h1:Bh P w K mg base 3 "Holder" CH ["self"] (rz C CH)) (h2:Bh P w K mg base 1 "Reader" CR ["self","calls"] (Rv K CR)) (h3:Ue P w K mg base 1 CR "at_end" ["self"] (Tw K CR)) (h4:Ue P w K mg base 1 CR "read_number" ["self"] (Lp K CR))
  (h5:Aa P w K mg base 9 "answer_call" (Jt K C CH CR λ_=>da)):Te P w K mg base Ci 10 f fd ["calls"] (Qr K g):=by
 refine G.fn.ok FI (λvs H Q E h=>?_) (λcdv A outer s H vs Q E hr h=>?_)
 .obtain⟨c,j,cs,rfl,_⟩:=h;rfl
 obtain⟨c,j,cs,rfl,hc,hzs,hz,n,hbig,k⟩:=h;have nd:=FI.nd;refine⟨_,Ga (nc (i:=1) (xA h1 (hr.mono (by decide))))
  (Ga (nc (i:=2) (aK h2 (hr.mono (by decide)) (la (pv 0) pa)))
  (Ga (nc (i:=3) (ic pa))
  (Ga (yF qi (Yf (Nd (Ig h3 TR.cl (hr.mono (by decide)) (pv 2))))
   (Ga (nc (i:=4) (Xw (Ya h5 hr (la (pv 1) (la (Ig h4 TR.cl (hr.mono (by decide)) (pv 2)) (la (pv 2) pa))))))
   (Ga (vi (di Ri xm ym Nk (pv 3) (la (Cc je (by rfl) Tl Sd (la (pv 4) pa)) pa)))
   (Ca (vi (di Ri MB uS rJ (pv 3) (la (pv 4) pa)))))))
  (Ca (Oa (pv 3)))))),?_⟩
 refine Of (pZ λH1 hp q d kd s1 Hh1=>?_);refine Of (QV (c:=c) (zs:=j) rfl (zz hc λu hu=>s1 _ _ hu) λH2 t s2 R2=>?_);refine{(Pd _),λy z=>?_};have s3:=Qa (o:=HO.lst []) z;have B:(∀H'',Ia K H'' c (nums j))\/c≠y:=by
  obtain⟨_,hc2⟩:=id R2;rcases hc2 with(e|⟨o,e⟩) |e
  .exact .inr (de e z)
  .exact .inr (de e z)
  .exact .inl λH''=> .inr e
 refine{λm σ D=>E4 λq d x F=>E4 λp I J L=>∃v,A5 (σ=[ba (.ref c),ba (.ref hp),ba (.ref t),ba (.ref y),v]) (m=j.length - p) (p<=j.length) (Nf C CH D hp q d kd x F) (A5 (sd K CR D t c p j) (D y=ba (.lst (nums L))) (Qk x F I) (j.drop p=yk J) ((∀c∈J,g c)/\L++Fh I J=Fh Kn cs)),
  {_,q,d,[],[],0,Kn,cs,[],ia,rfl,rfl,Pd _,(Hh1.same s2).same s3,R2.same s3,wa,SO.start,hzs,n,rfl},?_}
 rintro m σ H3 ⟨q,d,x,F,p,I,J,L,v,rfl,rfl,hp1,Hh,R,hn,M,hd,hg,N⟩;obtain⟨⟨dr,hi⟩,hat⟩:=id R;have tl:Pb H3 (Ol (tB (Il CR "at_end" (Tw K CR) [] E0 (Ua 2) Xb))) [ba (.ref c),ba (.ref hp),ba (.ref t),ba (.ref y),v] (!decide (p=j.length)):=Pb.not λH4 Q4 O q4=>
  {_,rfl,t,dr,_,rfl,O _ _ hi,IA _ _ (by decide) (by decide),t,c,p,j,rfl,R.same O,{_,rfl,q4 H4 O}}
 refine tl H3 _ (ka.refl H3) λH4 O=>cb (λhc=>?_) (λhc=>?_)
 .have hlt:p< j.length:=by
   have:¬p=j.length:=by simpa using hc
   omega
  obtain⟨S,J,rfl⟩:∃S T,J=S::T:=by
   cases J with
   |nil=>
    exfalso;have:=wc He hd;rw[ue] at this;have h0:(yk []).length=0:=rfl;omega
   |cons a b=>exact⟨a,b,rfl⟩
  have hd0:j.drop p=num S::(args S++yk J):=hd;refine{λσ' D=>E4 λq d x F=>E4 λU I J L=>∃v,A5 (σ'=[ba (.ref c),ba (.ref hp),ba (.ref t),ba (.ref y),v]) (p< U) (U<=j.length) (Nf C CH D hp q d kd x F) (A5 (sd K CR D t c U j) (D y=ba (.lst (nums L))) (Qk x F I) (j.drop U=yk J) ((∀c∈J,g c)/\L++Fh I J=Fh Kn cs)),
   (by rintro σ' D ⟨q,d,x,F,U,I,J,L,v,g1,g2,g3,g4,g5,g6,g7,g8,g9,g10⟩;exact{j.length - U,by omega,q,d,x,F,U,I,J,L,v,g1,rfl,g3,g4,g5,g6,g7,g8,g9,g10}),?_}
  have hn4:=O _ _ hn;refine Of {y,.lst (nums L),hn4,trivial,λod=>?_};have kl:ed H4 (upd H4 y (.qc od (.lst (nums L)))) y:=yC;have Hh5:=(Hh.same O).Ql hn4 (.inl {_,rfl}) kl;have R5:=(R.same O).Ql B hn4 (.inl {_,rfl}) kl;refine{_,rfl,Yz rfl R5 hd0 λH6 kp6 R6 hd6=>{_,rfl,?_}};have Hh6:=VF Hh5 R5 kp6;obtain⟨⟨dr5,hi5⟩,_⟩:=id R5;have W:H6 y=ba (.qc od (.lst (nums L))):=kp6 _ _ wa (Vb wa hi5);have hgc:=hg S (by simp);refine{hp,q,d,kd,x,F,t,c,p+1,j,S,yk J,rfl,rfl,Hh6,(SO.small x F I M).2,λr x' X Y=>(SO.small _ _ _ (SO.step x F I S r x' X hgc M Y).2).1,R6,hd6,hz,λH7 l tp' d' U r x' X kp7 Hh7 R7 hd7 Y hl=>?_};obtain⟨hr1,sim'⟩:=SO.step x F I S r x' X hgc M Y;have Z:H7 y=ba (.qc od (.lst (nums L))):=by
   obtain⟨⟨dx6,g1⟩,⟨⟨dt6,g2⟩,kv6,g3,_⟩,_,⟨kvs6,g4,_⟩,_⟩:=id Hh6;obtain⟨⟨dr6,g5⟩,_⟩:=id R6;exact kp7 _ _ W (Vb W g1) (Vb W g2) (Vb W g3) (Vb W g4) (Vb W g5)
  have hln:l≠y:=Vb hl Z;refine{Z,?_};have ku:ed H7 (upd H7 y (.lst (nums L))) y:=yC;have Hh8:=Hh7.Ql Z (.inr {_,_,rfl}) ku;have R8:=R7.Ql B Z (.inr {_,_,rfl}) ku;have hl8:upd H7 y (.lst (nums L)) l=ba (.lst (nums r)):=by rw[Ja hln];exact hl
  have hstep:Fh I (S::J)=(r.length:Int)::(r++Fh (Ke I S).1 J):=by
   show((Fd _).length:Int)::(Fd _++_)=_;rw[<-hr1]
  rw[hstep] at N;have hlen:=wc He N;rw[wd,Oc,wd] at hlen;have e1:=JC L;have e2:=JC r;have lt7:(nums L).length< sizeLine:=kg (show(nums L).length< 10000001 by omega) (by decide);refine{_,rfl,.inl {rfl,_,Ia.of wa},_,rfl,l,_,rfl,.inl (Ia.of hl8),y,_,_,rfl,rfl,wa,lt7,?_};rw[tK];refine{_,rfl,.inl {rfl,_,Ia.of wa},_,rfl,y,l,_,_,rfl,rfl,wa,by rw[Ja hln];exact hl,?_,?_}
  .rw[wd,UG];exact x3 (by omega)
  .rw[tK];have ku2:ed H7 (upd H7 y (.lst (nums L++[V.int ((nums r).length:Int)]++nums r))) y:=yC;have hp2:p< U:=by
    have g1:=wc He hd7;have g2:=wc He hd0;rw[ue] at g1 g2;rw[Oc,wd] at g2;omega
   have hp3:=R7.le;refine{tp',d',x',X,U,_,J,L++((r.length:Int)::r),_,rfl,hp2,hp3,Hh7.Ql Z (.inr {_,_,rfl}) ku2,R7.Ql B Z (.inr {_,_,rfl}) ku2,?_,sim',hd7,λe he=>hg e (by simp[he]),?_}
   .rw[wa,JC,AY,cf];rfl
   .rw[<-N,cf];rfl
 .have hpe:p=j.length:=by simpa using hc
  have hr0:J=[]:=by
   cases J with
   |nil=>rfl
   |cons a b=>
    exfalso;have:=wc He hd;rw[hpe,zS] at this;have h0:(yk (a::b)).length=(num a::args a).length+(yk b).length:=by
     unfold yk;rw[Eu,wd]
    rw[h0,uj,Oc] at this;omega
  subst hr0;rw[show Fh I []=[] from rfl,sj] at N;exact{_,rfl,k H4 y (by rw[<-N];exact O _ _ hn)}
noncomputable def sS:Nat->Nat
 |0=>0
 |n+1=>5*sS n+1
theorem o8(n:Nat):4*sS n+1=5^n:=by
 induction n with
 |zero=>rfl
 |succ n a=>
  rw[Dm,<-a];show 4*(5*sS n+1)+1=_;omega
theorem lB(m:Nat):∀n,sS (m+n)=5^n*sS m+sS n
 |0=>by
  show sS m=5^0*sS m+0;simp
 |n+1=>by
  show 5*sS (m+n)+1=5^(n+1)*sS m+(5*sS n+1);rw[lB m n,Dm,qy,<-Fu,nr 5 (5^n)];omega
theorem xP(n:Nat):∃q,5^n=4*q+1:={sS n,(o8 n).symm}
theorem DM(k:Nat):∃o,sS (2^k)=2^k*(2*o+1):=by
 induction k with
 |zero=>exact{0,rfl}
 |succ k a=>
  obtain⟨o,b⟩:=a;obtain⟨q,c⟩:=xP (2^k);refine{4*q*o+2*q+2*o - (2*q*o+q+o),?_};have e:2^(k+1)=2^k+2^k:=by rw[Dm];omega
  rw[e,lB,c,b];have d:4*q*o+2*q+2*o - (2*q*o+q+o)=2*q*o+q+o:=by
   have:4*q*o=2*q*o+2*q*o:=by rw[<-HH];congr 1;omega
   omega
  rw[d];have f:(4*q+1)*(2^k*(2*o+1))+2^k*(2*o+1)=2^k*((4*q+2)*(2*o+1)):=by
   have:(4*q+1)*(2^k*(2*o+1))=2^k*((4*q+1)*(2*o+1)):=by rw[KH]
   rw[this,<-qy]
   congr 1
   rw[<-Nat.succ_mul]
  rw[f,<-aau,nr 2 (2^k),Fu]
  congr 1
  have:(4*q+2)*(2*o+1)=2*((2*q+1)*(2*o+1)):=by rw[<-Fu];congr 1;omega
  rw[this]
  congr 1
  have g:(2*q+1)*(2*o+1)=2*q*(2*o)+2*q+(2*o+1):=by rw[HH,qy];omega
  rw[g];have h:2*q*(2*o)=2*(2*q*o):=by rw[KH]
  omega
theorem NK(k:Nat):∀j,j< 2^k->∃n,n< 2^k/\sS n % 2^k=j:=by
 induction k with
 |zero=>intro j c;exact{0,by decide,by have d:j=0:=(by simpa using c);subst d;rfl}
 |succ k f=>
  intro j c;have e:2^(k+1)=2^k+2^k:=by rw[Dm];omega
  have g:0< 2^k:=BS (by decide);obtain⟨n,h,i⟩:=f (j % 2^k) (Bp _ g);obtain⟨o,l⟩:=DM k;obtain⟨q,m⟩:=xP n;have p:sS (2^k+n) % 2^(k+1)=(sS n+2^k) % 2^(k+1):=by
   rw[lB,l,m];have:(4*q+1)*(2^k*(2*o+1))+sS n=(sS n+2^k)+2^(k+1)*(2*q*(2*o+1)+o):=by
    rw[KH,e,<-aau,nr 2 (2^k),Fu];have r:(4*q+1)*(2*o+1)=2*(2*q*(2*o+1)+o)+1:=by
     rw[HH,qy 2,<-Fu 2];have:2*(2*q)=4*q:=by omega
     rw[this];omega
    rw[r,qy (2^k),Nat.mul_one];omega
   rw[this,aav]
  have r:sS n % 2^(k+1)=sS n % 2^k\/sS n % 2^(k+1)=sS n % 2^k+2^k:=by
   have s:=Nat.mod_mod_of_dvd (sS n) (show 2^k ∣2^(k+1) from{2,by rw[Dm]});have t:sS n % 2^(k+1)< 2^(k+1):=Bp _ (by omega)
   generalize sS n % 2^(k+1)=z at*
   by_cases u:z< 2^k
   .rw[Gu u] at s;exact .inl s
   .right
    rw[aaw (by omega),Gu (by omega)] at s;omega
  have v:j=j % 2^k\/j=j % 2^k+2^k:=by
   by_cases u:j< 2^k
   .rw[Gu u];exact .inl rfl
   .right
    rw[aaw (by omega),Gu (by omega)];omega
  rw[<-i] at v;have w:sS n % 2^k< 2^k:=Bp _ g;by_cases x:sS n % 2^(k+1)=j
  .exact{n,by omega,x}
  .refine{2^k+n,by omega,?_};rw[p,GS];have y:2^k % 2^(k+1)=2^k:=Gu (by omega);rw[y];rcases r with a|a<;>rcases v with b|b
   .omega
   .rw[a,Gu (by omega)];omega
   .rw[a,show sS n % 2^k+2^k+2^k=sS n % 2^k+2^(k+1) by omega,Nat.add_mod_right,Gu (by omega)];omega
   .omega
theorem L5(k b:Nat):sS (2^k+b) % 2^k=sS b % 2^k:=by
 obtain⟨o,a⟩:=DM k;rw[lB,a,KH,Nat.add_comm,aav]
def lc(N:Nat)(i:Nat):Nat:=(i*5+1) % N
noncomputable def Rm(N:Nat):Nat->Nat->Nat
 |0,i=>i
 |n+1,i=>Rm N n (lc N i)
theorem XX(k a:Nat):lc (2^k) (sS a % 2^k)=sS (a+1) % 2^k:=by
 unfold lc;show(sS a % 2^k*5+1) % 2^k=(5*sS a+1) % 2^k;rw[GS,aax,Nat.mod_mod,<-aax,<-GS,nr]
theorem YF(k:Nat):∀n a,Rm (2^k) n (sS a % 2^k)=sS (a+n) % 2^k
 |0,a=>rfl
 |n+1,a=>by
  show Rm _ n (lc _ _)=_;rw[XX,YF k n (a+1)]
  congr 2
  omega
theorem VO(k:Nat){j:Nat}(c:i< 2^k)(d:j< 2^k):∃n,n< 2^k/\Rm (2^k) n i=j:=by
 obtain⟨a,e,f⟩:=NK k i c;obtain⟨b,g,l⟩:=NK k j d;rw[<-f];by_cases h:a<=b
 .exact{b - a,by omega,by rw[YF,<-l];congr 2;omega}
 .refine{2^k+b - a,by omega,?_};rw[YF,<-l,<-L5 k b]
  congr 2
  omega
open PySem.SetTable (Probe runEnd leap bits)
noncomputable def Yi(mask:Nat)(p:Probe):Probe:=if p.more>0 then{p with j:=p.j+1,more:=p.more - 1} else{p with j:=(leap mask p.i p.perturb).1,more:=runEnd mask (leap mask p.i p.perturb).1 - (leap mask p.i p.perturb).1,i:=(leap mask p.i p.perturb).1,perturb:=(leap mask p.i p.perturb).2}
noncomputable def hd(mask i a:Nat):Probe:={j:=i,more:=runEnd mask i - i,i:=i,perturb:=a,dummy:=ia}
noncomputable def Ge(mask:Nat):Nat->Probe->Probe
 |0,p=>p
 |n+1,p=>Yi mask (Ge mask n p)
theorem Nz(mask m:Nat)(p:Probe):∀n,Ge mask (m+n) p=Ge mask n (Ge mask m p)
 |0=>rfl
 |n+1=>by
  show Yi mask (Ge mask (m+n) p)=Yi mask (Ge mask n (Ge mask m p));rw[Nz mask m p n]
theorem C7(mask:Nat)(p:Probe):(Yi mask p).dummy=p.dummy:=by
 unfold Yi;split<;>rfl
theorem gN(mask:Nat)(p:Probe):∀n,(Ge mask n p).dummy=p.dummy
 |0=>rfl
 |n+1=>by
  show(Yi mask (Ge mask n p)).dummy=_;rw[C7,gN mask p n]
theorem CZ(mask i:Nat):runEnd mask i - i<=9:=by
 unfold runEnd;split<;>omega
theorem aD(mask i a:Nat):∀k,k<=runEnd mask i - i->Ge mask k (hd mask i a)={j:=i+k,more:=runEnd mask i - i - k,i:=i,perturb:=a,dummy:=ia}
 |0,_=>rfl
 |k+1,h=>by
  show Yi mask (Ge mask k (hd mask i a))=_;rw[aD mask i a k (by omega)];unfold Yi;rw[qa (show runEnd mask i - i - k>0 by omega)];simp only[HS,Nat.sub_sub]
theorem AN(mask i a:Nat):Ge mask (runEnd mask i - i+1) (hd mask i a)=hd mask (leap mask i a).1 (leap mask i a).2:=by
 show Yi mask (Ge mask (runEnd mask i - i) (hd mask i a))=_;rw[aD mask i a _ (rb _)];unfold Yi;rw[oa (show¬runEnd mask i - i - (runEnd mask i - i)>0 by omega)];rfl
noncomputable def ae(mask:Nat):Nat->Nat×Nat->Nat×Nat
 |0,q=>q
 |n+1,q=>leap mask (ae mask n q).1 (ae mask n q).2
theorem CQ(mask:Nat)(q:Nat×Nat):∀n,(ae mask n q).2=q.2 / 32^n
 |0=>by simp[ae]
 |n+1=>by
  show(ae mask n q).2 / 32=_;rw[CQ mask q n,Nat.div_div_eq_div_mul,Dm]
theorem rQ(h:Int):bits h< 2^64:=by
 unfold bits;have a:=Int.emod_nonneg h (show((2:Int)^64)≠0 by decide);have b:=Int.emod_lt_of_pos h (show(0:Int)< (2:Int)^64 by decide);omega
theorem rK(mask:Nat)(q:Nat×Nat)(a:q.2< 2^64):∀n,(ae mask (13+n) q).1=Rm (mask+1) n (ae mask 13 q).1:=by
 have b:∀n,(ae mask (13+n) q).2=0:=λn=>by
  rw[CQ];refine Nat.div_eq_of_lt (kg a ?_);have:32^13<=32^(13+n):=sy (by decide) (by omega);exact Bc (by decide) this
 have c:∀n,(ae mask (13+(n+1)) q).1=lc (mask+1) (ae mask (13+n) q).1:=λn=>by
  show(leap mask (ae mask (13+n) q).1 (ae mask (13+n) q).2).1=_;rw[b n];rfl
 have d:∀n i,Rm (mask+1) (n+1) i=lc (mask+1) (Rm (mask+1) n i):=λn=>by
  induction n with
  |zero=>intro i;rfl
  |succ n e=>
   intro i;show Rm _ (n+1) (lc _ i)=lc _ (Rm _ n (lc _ i));exact e _
 intro n
 induction n with
 |zero=>rfl
 |succ n e=>rw[c,e,d]
theorem UK(mask i a:Nat):∀L,∃n,n<=10*L/\Ge mask n (hd mask i a)=hd mask (ae mask L (i,a)).1 (ae mask L (i,a)).2
 |0=>{0,rb _,rfl}
 |L+1=>by
  obtain⟨n,b,e⟩:=UK mask i a L;refine{n+(runEnd mask (ae mask L (i,a)).1 - (ae mask L (i,a)).1+1),?_,?_}
  .have:=CZ mask (ae mask L (i,a)).1;omega
  .rw[Nz,e,AN];rfl
def Bi(mask:Nat)(h:Int):Probe:=hd mask (bits h % (mask+1)) (bits h)
noncomputable def pos(mask:Nat)(h:Int)(n:Nat):Nat:=(Ge mask n (Bi mask h)).j
theorem QK(mask i a:Nat):(leap mask i a).1<=mask:=by
 have:(i*5+1+a / 32) % (mask+1)< mask+1:=Bp _ (by omega);show(i*5+1+a / 32) % (mask+1)<=mask;omega
theorem DC(mask:Nat)(q:Nat×Nat)(h:q.1<=mask):∀n,(ae mask n q).1<=mask
 |0=>h
 |n+1=>QK _ _ _
theorem G8{mask:Nat}(a:mask+1=2^k)(h:Int){j:Nat}(b:j<=mask):∃n,n< 10*(mask+15)/\pos mask h n=j:=by
 have c:bits h % (mask+1)<=mask:=by
  have:=Bp (bits h) (show 0< mask+1 by omega);omega
 have d:=DC mask (bits h % (mask+1),bits h) c 13;obtain⟨n,f,e⟩:=VO k (i:=(ae mask 13 (bits h % (mask+1),bits h)).1) (j:=j) (by omega) (by omega);obtain⟨m,g,l⟩:=UK mask (bits h % (mask+1)) (bits h) (13+n);refine{m,by omega,?_};unfold pos Bi;rw[<-a] at e;rw[l,rK mask _ (rQ h) n,e];rfl
theorem N3{mask:Nat}{p:Probe}(h:p.j+p.more<=mask):(Yi mask p).j+(Yi mask p).more<=mask:=by
 unfold Yi;split
 .show p.j+1+(p.more - 1)<=mask;omega
 .show(leap mask p.i p.perturb).1+(runEnd mask (leap mask p.i p.perturb).1 - (leap mask p.i p.perturb).1)<=mask;have:=QK mask p.i p.perturb;unfold runEnd;split<;>omega
theorem eF(mask:Nat)(h:Int)(n:Nat):pos mask h n<=mask:=by
 have key:∀n,(Ge mask n (Bi mask h)).j+(Ge mask n (Bi mask h)).more<=mask:=λn=>by
  induction n with
  |zero=>
   show bits h % (mask+1)+(runEnd mask (bits h % (mask+1)) - bits h % (mask+1))<=mask;have:=Bp (bits h) (show 0< mask+1 by omega);unfold runEnd;split<;>omega
  |succ n a=>exact N3 a
 have:=key n;unfold pos;omega
theorem LZ{mask:Nat}(a:mask+1=2^k)(h:Int){O:List Nat}(b:O.length<=mask):∃d,d< 10*(mask+15)/\pos mask h d∉O/\∀m,m< d->pos mask h m∈O:=by
 have c:∃j,j<=mask/\j∉O:=by
  apply Ln
  intro f;have g:∀j∈Li (mask+1),j∈O:=λj i=>by
   apply Ln
   intro l;exact f {j,by have:=dm.mp i;omega,l}
  have:=(IS (n:=mask+1)).length_le_of_subset g;rw[aay] at this;omega
 obtain⟨j,i,o⟩:=c;obtain⟨n,f,e⟩:=G8 a h i;have key:∀n,pos mask h n∉O->∃d,d<=n/\pos mask h d∉O/\∀m,m< d->pos mask h m∈O:=λn=>by
  induction n using aaz with
  |_ n p=>
   intro q;by_cases s:∃m,m< n/\pos mask h m∉O
   .obtain⟨m,t,u⟩:=s;obtain⟨d,hd,r⟩:=p m t u;exact{d,by omega,r}
   .refine{n,rb _,q,λm t=>?_}
    apply Ln
    intro l;exact s ⟨m,t,l⟩
 obtain⟨d,hd,v,w⟩:=key n (by rw[e];exact o);exact{d,by omega,v,w}
open PySem.SetTable (Probe runEnd leap bits below insertAt)
theorem rG(xs:Array Nat)(c:xs.toList.Pairwise (· < ·))(j:Nat):∀(d f hi:Nat),hi - f<=d->f<=hi->hi<=xs.size->(∀i v,xs[i]?=ba v->i< f->v< j)->(∀i v,xs[i]?=ba v->hi<=i->j<=v)->
  below.go xs j d f hi<=xs.size/\∀i v,xs[i]?=ba v->(i< below.go xs j d f hi↔v< j)
 |0,f,hi,k,l,m,n,o=>by
  have e:f=hi:=by omega
  subst e;refine{m,λi v p=>{λh=>n i v p h,λh=>?_}}
  apply Ln
  intro q;have:=o i v p (by show f<=i;exact aaA q);omega
 |d+1,f,hi,k,l,m,n,o=>by
  unfold below.go;by_cases r:f< hi
  .rw[qa r];have s:(f+hi) / 2< xs.size:=by omega
   have t:xs[(f+hi) / 2]?=ba xs[(f+hi) / 2]:=by simp[s]
   have w:xs.getD ((f+hi) / 2) j=xs[(f+hi) / 2]:=by simp[uy,s]
   have x:∀a b u v,xs[a]?=ba u->xs[b]?=ba v->a< b->u< v:=λa b u v y z A=>by
    rw[<-Tf] at y z;obtain⟨B,C⟩:=Cf.mp y;obtain⟨D,E⟩:=Cf.mp z;have:=(AH.mp c) a b B D A;omega
   show(if xs.getD ((f+hi) / 2) j< j then below.go xs j d ((f+hi) / 2+1) hi else below.go xs j d f ((f+hi) / 2))<=_/\∀i v,xs[i]?=ba v->(i< (if xs.getD ((f+hi) / 2) j< j then below.go xs j d ((f+hi) / 2+1) hi else below.go xs j d f ((f+hi) / 2))↔_);rw[w];by_cases F:xs[(f+hi) / 2]< j
   .rw[qa F];refine rG xs c j d _ _ (by omega) (by omega) m (λi v p G=>?_) o;rcases Sg i ((f+hi) / 2) with g|g
    .have:=x _ _ _ _ p t g;omega
    .have e:i=(f+hi) / 2:=by omega
     subst e;rw[t] at p;cases p;exact F
   .rw[oa F];refine rG xs c j d _ _ (by omega) (by omega) (by omega) n λi v p G=>?_;rcases Sg ((f+hi) / 2) i with g|g
    .have:=x _ _ _ _ t p g;omega
    .have e:i=(f+hi) / 2:=by omega
     subst e;rw[t] at p;cases p;omega
  .rw[oa r];have e:f=hi:=by omega
   subst e;refine{m,λi v p=>{λh=>n i v p h,λh=>?_}}
   apply Ln
   intro q;have:=o i v p (by show f<=i;exact aaA q);omega
theorem Lv{xs:Array Nat}(a:xs.toList.Pairwise (· < ·))(j:Nat):below xs j<=xs.size/\∀i v,xs[i]?=ba v->(i< below xs j↔v< j):=
 rG xs a j _ _ _ (by omega) (by omega) (rb _) (λi v _ h=>by omega) λi v b h=>by
  have:=(dH.mp b).1;omega
theorem below_at{xs:Array Nat}(a:xs.toList.Pairwise (· < ·)){j:Nat}(h:xs[i]?=ba j):below xs j=i:=by
 obtain⟨b,c⟩:=Lv a j;have d:=c i j h;have e:=(dH.mp h).1;rcases JS (below xs j) i with g|g|g
 .exfalso;have f:xs[below xs j]?=ba xs[below xs j]:=by simp
  have k:=c _ _ f;rw[<-Tf] at h f;obtain⟨l,m⟩:=Cf.mp h;obtain⟨n,o⟩:=Cf.mp f;have:=(AH.mp a) _ i n l g;omega
 .exact g
 .exfalso;have:=d.mp g;omega
theorem mJ{xs:Array Nat}(a:xs.toList.Pairwise (· < ·)){j:Nat}(h:xs[i]?=ba j):below xs (j+1)=i+1:=by
 obtain⟨b,c⟩:=Lv a (j+1);have d:=(c i j h).mpr (by omega);rcases Sg (i+1) (below xs (j+1)) with g|g
 .exfalso;have e:xs[i+1]?=ba xs[i+1]:=by simp
  have f:=(c _ _ e).mp g;rw[<-Tf] at h e;obtain⟨k,l⟩:=Cf.mp h;obtain⟨m,n⟩:=Cf.mp e;have:=(AH.mp a) i (i+1) k m (by omega);omega
 .omega
theorem KP(xs:Array α)(p:Nat)(x:α):(insertAt xs p x).toList=xs.toList.take p++x::xs.toList.drop p:=by
 unfold insertAt;rw[aaB,KS,LS,LS];simp only[aaC,Fn,iy,cf,aaj]
 congr 2
 rw[rm];rw[ue,Ng];omega
abbrev Pc:=Nat×(Int×Value)
structure Tab(mask:Nat)(tb:List Pc):Prop where
 rise:(tb.map (·.1)).Pairwise (· < ·)
 le:∀e∈tb,e.1<=mask
 path:∀e∈tb,∃n,pos mask e.2.1 n=e.1/\∀m,m< n->pos mask e.2.1 m∈tb.map (·.1)
structure be(t:Sa)(es:Array (Int×Value))(tb:List Pc):Prop where
 ro:t.dummies=#[]
 Us:t.place.toList=tb.map (·.1)
 ent:es.toList=tb.map (·.2)
 tab:Tab t.mask tb
 pow:∃k,3<=k/\k<=12/\t.mask+1=2^k
 Bk:tb.length<=t.mask
section
variable{t:Sa}{tb:List Pc}
theorem be.rise(T:be t es tb):t.place.toList.Pairwise (· < ·):=by rw[T.Us];exact T.tab.rise
theorem be.Aq(T:be t es tb):t.place.size=tb.length:=by rw[<-Ng,T.Us,Na]
theorem be.Bq(T:be t es tb):es.size=tb.length:=by rw[<-Ng,T.ent,Na]
theorem be.fits(T:be t es tb):t.fits es.size=da:=by
 have a:=T.Aq;have b:=T.Bq;have c:=T.Bk;unfold Sa.fits LH;rw[T.ro,a,b];simp[c]
theorem be.BC(T:be t es tb)(i:Nat):es[i]?=(tb[i]?).map (·.2):=by rw[<-Tf,T.ent,Ac]
theorem be.YK(T:be t es tb)(i:Nat):t.place[i]?=(tb[i]?).map (·.1):=by rw[<-Tf,T.Us,Ac]
theorem be.live(T:be t es tb){e:Pc}(h:tb[i]?=ba e):t.slot e.1= .live i:=by
 have a:t.place[i]?=ba e.1:=by rw[T.YK,h];rfl
 have b:=below_at T.rise a;unfold aaD;simp only[b,a,qu,Ld]
theorem be.empty(T:be t es tb){j:Nat}(h:j∉tb.map (·.1)):t.slot j= .empty:=by
 have a:¬(t.place[below t.place j]?==ba j)=da:=by
  intro e;have e:=dk e;rw[<-Tf,T.Us] at e;exact h (vd e)
 unfold aaD;rw[oa a,T.ro,oa];unfold MS;simp
theorem be.odd(T:be t es tb):t.gaveWay=ma:=by
 obtain⟨k,a,_,h⟩:=T.pow;unfold Sa.gaveWay;obtain⟨m,rfl⟩:∃m,k=m+1:={k - 1,by omega};rw[Dm] at h;have:t.mask % 2=1:=by omega
 rw[this];rfl
theorem be.probe(T:be t es tb){f:Nat->Int}(hf:∀i e,tb[i]?=ba e->f i=e.2.1)(h:Int){d:Nat}(c:pos t.mask h d∉tb.map (·.1))(j:∀m,m< d->pos t.mask h m∈tb.map (·.1)):∀(l n:Nat),n<=d->d - n< l->
  ∃m,n<=m/\m<=d/\(∀k,n<=k->k< m->∀e∈tb,e.1=pos t.mask h k->e.2.1≠h)/\
   ((m=d/\NS t f h l (Ge t.mask n (Bi t.mask h))=ba (.empty (pos t.mask h d) ia))\/
    (m< d/\∃i e,tb[i]?=ba e/\e.1=pos t.mask h m/\e.2.1=h/\NS t f h l (Ge t.mask n (Bi t.mask h))=ba (.candidate (pos t.mask h m) i (Ge t.mask (m+1) (Bi t.mask h)))))
 |0,n,_,hf=>by omega
 |l+1,n,o,p=>by
  unfold NS;have q:(Ge t.mask n (Bi t.mask h)).j=pos t.mask h n:=rfl;have r:(Ge t.mask n (Bi t.mask h)).dummy=ia:=gN _ _ _;rcases Sg n d with s|s
  .obtain⟨e,u,v⟩:=Mb.mp (j n s);obtain⟨i,w⟩:=Cp u;have x:t.slot (pos t.mask h n)= .live i:=by rw[<-v];exact T.live w
   rw[q,x];simp only;rw[hf i e w];by_cases y:e.2.1=h
   .refine{n,rb _,o,λk a b=>by omega,.inr {s,i,e,w,v,y,?_}};rw[qa (by rw[y];exact qu _)];rfl
   .obtain⟨m,A,B,C,D⟩:=be.probe T hf h c j l (n+1) (by omega) (by omega);refine{m,by omega,B,λk a b E F G=>?_,?_}
    .rcases Sg n k with g|g
     .exact C k g b E F G
     .have:k=n:=by omega
      subst this;obtain⟨H,I⟩:=Cp F;have J:=T.live I;rw[G,x] at J;injection J with e3;rw[<-e3,w] at I;cases I;exact y
    .rw[oa (by intro z;exact y (dk z))];exact D
  .have e:n=d:=by omega
   subst e;have x:=T.empty c;refine{n,rb _,rb _,λk a b=>by omega,.inl {rfl,?_}};rw[q,x];simp only;rw[r]
theorem be.before(T:be t es tb){e:Pc}(a:e∈tb){d:Nat}(b:pos t.mask e.2.1 d∉tb.map (·.1)):∃n,n< d/\pos t.mask e.2.1 n=e.1:=by
 obtain⟨n,c,f⟩:=T.tab.path e a;refine{n,?_,c};rcases JS n d with g|g|g
 .exact g
 .exfalso;subst g;rw[c] at b;exact b (Mb.mpr ⟨e,a,rfl⟩)
 .exact absurd (f d g) b
theorem be.put(T:be t es tb){h:Int}{x:Value}{d:Nat}(f:pos t.mask h d∉tb.map (·.1))(k:∀m,m< d->pos t.mask h m∈tb.map (·.1))(l:tb.length+1<=t.mask){b:Bool}:
  ∃tb',tb'.Perm ((pos t.mask h d,(h,x))::tb)/\be {(t.put (pos t.mask h d)).1 with plain:=b} (insertAt es (t.put (pos t.mask h d)).2 (h,x)) tb'/\(t.put (pos t.mask h d)).1.mask=t.mask/\(t.put (pos t.mask h d)).1.led=t.led/\(t.put (pos t.mask h d)).1.plain=t.plain/\(t.put (pos t.mask h d)).1.moves=t.moves/\(t.put (pos t.mask h d)).1.finger=t.finger:=by
 have o:t.put (pos t.mask h d)=({t with place:=insertAt t.place (below t.place (pos t.mask h d)) (pos t.mask h d),dummies:=#[]},below t.place (pos t.mask h d)):=by
  unfold Sa.put;have:MS t.dummies (pos t.mask h d)=ma:=by
   rw[T.ro];unfold MS;simp
  rw[this,T.ro];rfl
 rw[o]
 generalize p:below t.place (pos t.mask h d)=b0
 generalize q:pos t.mask h d=j at*
 obtain⟨r,s⟩:=Lv T.rise j;rw[p] at r s;have u:(tb.take b0++(j,(h,x))::tb.drop b0).Perm ((j,(h,x))::tb):=by
  refine MH.trans (OS.cons _ ?_);rw[Ph]
 refine{_,u,{rfl,?_,?_,{?_,λe v=>?_,λe v=>?_},T.pow,?_},rfl,rfl,rfl,rfl,rfl}
 .show(insertAt t.place b0 j).toList=_;rw[KP,T.Us,vf,Nb,RB,TB]
 .rw[KP,T.ent,vf,Nb,RB,TB]
 .rw[vf,Nb,aaE];have w:=T.tab.rise;have y:∀(i:Nat)(e:Pc),tb[i]?=ba e->(i< b0↔e.1< j):=λi e A=>s i e.1 (by rw[T.YK,A];rfl);have B:∀a∈(tb.take b0).map (·.1),a< j:=λa C=>by
   obtain⟨e,v,rfl⟩:=Mb.mp C;obtain⟨i,A⟩:=Cp v;rw[aaF] at A;split at A
   .rename_i g
    exact(y i e A).mp g
   .cases A
  have D:∀a∈(tb.drop b0).map (·.1),j< a:=λa C=>by
   obtain⟨e,v,rfl⟩:=Mb.mp C;obtain⟨i,A⟩:=Cp v;rw[List.getElem?_drop] at A;have g:=y _ e A;have E:e.1≠j:=λz=>f (Mb.mpr {e,vd A,z});have:¬e.1< j:=λz=>by have:=g.mpr z;omega
   omega
  refine{?_,Ui.mpr {D,?_},λa C c F=>?_}
  .rw[RB];exact w.sublist (R9 _ _)
  .rw[TB];exact w.sublist (List.drop_sublist _ _)
  .have g:=B a C;rcases jc.mp F with e|e
   .rw[e];exact g
   .have:=D c e;omega
 .rcases jc.mp (u.mem_iff.mp v) with G|G
  .rw[G,<-q];exact eF _ _ _
  .exact T.tab.le e G
 .have H:∀a,a∈tb.map (·.1)->a∈(tb.take b0++(j,(h,x))::tb.drop b0).map (·.1):=λa C=>by
   obtain⟨I,J,z⟩:=Mb.mp C;exact Mb.mpr {I,u.mem_iff.mpr (by simp[J]),z}
  rcases jc.mp (u.mem_iff.mp v) with G|G
  .subst G;exact{d,q,λm K=>H _ (k m K)}
  .obtain⟨n,L,M⟩:=T.tab.path e G;exact{n,L,λm K=>H _ (M m K)}
 .rw[u.length_eq];exact l
end
end Tl
variable{tb:List Tl.Pc}
namespace Tl
open PySem.SetTable (Probe runEnd leap bits below insertAt layClean turns)
noncomputable def ze(mask:Nat)(q:Nat×Nat):Nat->Nat
 |0=>0
 |L+1=>ze mask q L+(runEnd mask (ae mask L q).1 - (ae mask L q).1+1)
theorem rE(mask i a:Nat):∀L,Ge mask (ze mask (i,a) L) (hd mask i a)=hd mask (ae mask L (i,a)).1 (ae mask L (i,a)).2
 |0=>rfl
 |L+1=>by
  show Ge mask (ze mask (i,a) L+_) _=_;rw[Nz,rE mask i a L,AN];rfl
theorem sP(mask:Nat)(q:Nat×Nat)(L:Nat):ze mask q L< ze mask q (L+1):=by
 show _< ze mask q L+_;omega
theorem fP(mask:Nat)(q:Nat×Nat)(L:Nat):∀n,ze mask q L<=ze mask q (L+n)
 |0=>rb _
 |n+1=>Ag (Qi (fP mask q L n) (sP mask q (L+n)))
noncomputable abbrev q0(mask:Nat)(h:Int):Nat×Nat:=(bits h % (mask+1),bits h)
theorem CN(mask:Nat)(h:Int):(q0 mask h).1<=mask:=by
 have:=Bp (bits h) (show 0< mask+1 by omega);show bits h % (mask+1)<=mask;omega
theorem i9{mask:Nat}(a:mask+1=2^k)(h:Int){O:List Nat}(b:O.length<=mask):∃d,d< ze mask (q0 mask h) (mask+15)/\pos mask h d∉O/\∀m,m< d->pos mask h m∈O:=by
 have c:∃j,j<=mask/\j∉O:=by
  apply Ln
  intro f;have g:∀j∈Li (mask+1),j∈O:=λj l=>by
   apply Ln
   intro o;exact f {j,by have:=dm.mp l;omega,o}
  have:=(IS (n:=mask+1)).length_le_of_subset g;rw[aay] at this;omega
 obtain⟨j,l,p⟩:=c;have q:=DC mask (q0 mask h) (CN mask h) 13;obtain⟨n,f,e⟩:=VO k (i:=(ae mask 13 (q0 mask h)).1) (j:=j) (by omega) (by omega);have s:pos mask h (ze mask (q0 mask h) (13+n))=j:=by
  unfold pos Bi;rw[<-a] at e;rw[rE mask (bits h % (mask+1)) (bits h) (13+n),rK mask _ (rQ h) n,e];rfl
 have t:ze mask (q0 mask h) (13+n)< ze mask (q0 mask h) (mask+15):=by
  have u:=sP mask (q0 mask h) (13+n);have v:=fP mask (q0 mask h) (13+n+1) (mask+15 - (13+n+1));rw[show 13+n+1+(mask+15 - (13+n+1))=mask+15 by omega] at v;omega
 have key:∀n,pos mask h n∉O->∃d,d<=n/\pos mask h d∉O/\∀m,m< d->pos mask h m∈O:=λn=>by
  induction n using aaz with
  |_ n w=>
   intro x;by_cases y:∃m,m< n/\pos mask h m∉O
   .obtain⟨m,z,A⟩:=y;obtain⟨d,hd,r⟩:=w m z A;exact{d,by omega,r}
   .refine{n,rb _,x,λm z=>?_}
    apply Ln
    intro o;exact y ⟨m,z,o⟩
 obtain⟨d,hd,B,C⟩:=key _ (by rw[s];exact p);exact{d,by omega,B,C}
theorem w8(mask:Nat)(h:Int)(L k:Nat)(a:k<=runEnd mask (ae mask L (q0 mask h)).1 - (ae mask L (q0 mask h)).1):pos mask h (ze mask (q0 mask h) L+k)=(ae mask L (q0 mask h)).1+k:=by
 unfold pos Bi;rw[Nz,rE mask (bits h % (mask+1)) (bits h) L,aD _ _ _ k a]
structure Jj(mask:Nat)(owner:Array (Option Nat))(ps:List Nat)(hs:List Int):Prop where
 sz:owner.size=mask+1
 len:ps.length=hs.length
 nd:ps.Nodup
 le:∀j∈ps,j<=mask
 own:∀j,j<=mask->∀i,owner[j]?=ba (ba i)↔ps[i]?=ba j
 path:∀(i:Nat)(h:Int)(j:Nat),hs[i]?=ba h->ps[i]?=ba j->∃n,pos mask h n=j/\∀m,m< n->pos mask h m∈ps
theorem Jj.free{mask:Nat}{owner:Array (Option Nat)}{ps:List Nat}{a:List Int}(I:Jj mask owner ps a){j:Nat}(b:j<=mask):(owner.getD j (ba 0)).isNone=decide (j∉ps):=by
 have c:j< owner.size:=by rw[I.sz];omega
 have d:owner[j]?=ba owner[j]:=by simp
 have hd:owner.getD j (ba 0)=owner[j]:=by simp[uy,c]
 rw[hd];cases e:owner[j] with
 |none=>
  have:j∉ps:=λf=>by
   obtain⟨i,g⟩:=Cp f;have:=(I.own j b i).mpr g;rw[d,e] at this;cases this
  simp[this]
 |some i=>
  have:=(I.own j b i).mp (by rw[d,e]);have f:=vd this;simp[f]
theorem Jj.find{mask:Nat}{owner:Array (Option Nat)}{ps:List Nat}{c:List Int}(I:Jj mask owner ps c)(h:Int){d:Nat}(e:pos mask h d∉ps)(f:∀m,m< d->pos mask h m∈ps):∀i L,ze mask (q0 mask h) L<=d->d< ze mask (q0 mask h) (L+i)->
  layClean.free mask owner i (ae mask L (q0 mask h)).1 (ae mask L (q0 mask h)).2=ba (pos mask h d)
 |0,L,a,b=>by
  have:d< ze mask (q0 mask h) L:=b;omega
 |i+1,L,a,b=>by
  unfold layClean.free;have j:=DC mask (q0 mask h) (CN mask h) L
  generalize l:(ae mask L (q0 mask h)).1=i0 at*
  have n:i0+(runEnd mask i0 - i0)<=mask:=by
   unfold runEnd;split<;>omega
  have o:i0<=runEnd mask i0:=by
   unfold runEnd;split<;>omega
  have p:∀k,k<=runEnd mask i0 - i0->pos mask h (ze mask (q0 mask h) L+k)=i0+k:=λk q=>by
   have:=w8 mask h L k (by rw[l];exact q);rw[l] at this;exact this
  have r:ze mask (q0 mask h) (L+1)=ze mask (q0 mask h) L+(runEnd mask i0 - i0+1):=by
   show ze mask (q0 mask h) L+_=_;rw[l]
  rcases Sg d (ze mask (q0 mask h) (L+1)) with g|g
  .have hf:(Li (runEnd mask i0+1 - i0)).find? (λk=>(owner.getD (i0+k) (ba 0)).isNone)=ba (d - ze mask (q0 mask h) L):=by
    rw[List.find?_range_eq_some];refine{?_,dm.mpr (by omega),λk q=>?_}
    .rw[I.free (by omega),<-p _ (by omega),show ze mask (q0 mask h) L+(d - ze mask (q0 mask h) L)=d by omega];exact Xc e
    .rw[I.free (by omega),<-p _ (by omega)];have:=f (ze mask (q0 mask h) L+k) (by omega);simp[this]
   rw[hf];simp only;rw[<-p _ (by omega),show ze mask (q0 mask h) L+(d - ze mask (q0 mask h) L)=d by omega]
  .have hf:(Li (runEnd mask i0+1 - i0)).find? (λk=>(owner.getD (i0+k) (ba 0)).isNone)=ia:=by
    rw[mr];intro k q;have q:=dm.mp q;rw[I.free (by omega),<-p _ (by omega)];have:=f (ze mask (q0 mask h) L+k) (by omega);simp[this]
   rw[hf];simp only;have s:=Jj.find I h e f i (L+1) g (by rw[show L+1+i=L+(i+1) by omega];exact b);have t:ae mask (L+1) (q0 mask h)=leap mask i0 (ae mask L (q0 mask h)).2:=by
    rw[<-l];rfl
   rw[t] at s;exact s
theorem Jj.step{mask:Nat}(b:mask+1=2^k){owner:Array (Option Nat)}{ps:List Nat}{f:List Int}(I:Jj mask owner ps f)(h:Int)(g:ps.length<=mask):
  ∃j,layClean.free mask owner (turns mask) (bits h % (mask+1)) (bits h)=ba j/\Jj mask (owner.setIfInBounds j (ba f.length)) (ps++[j]) (f++[h]):=by
 obtain⟨d,hd,l,o⟩:=i9 b h g;have hf:=I.find h l o (mask+15) 0 (Pd _) (by rw[QS];exact hd);have p:=eF mask h d;refine{pos mask h d,hf,?_}
 generalize q:pos mask h d=j at*
 have r:j< owner.size:=by rw[I.sz];omega
 refine{by rw[Array.size_setIfInBounds];exact I.sz,by simp[I.len],?_,λs t=>?_,λs t i=>?_,λi u s v w=>?_}
 .rw[YB];refine{I.nd,tj.mpr ⟨Al,Yq⟩,λa x c y e=>?_};have:c=j:=by simpa using y
  rw[e,this] at x;exact l x
 .rcases Pe.mp t with z|z
  .exact I.le _ z
  .have:s=j:=by simpa using z
   omega
 .rw[Array.getElem?_setIfInBounds];by_cases e:j=s
  .subst e;rw[qa rfl,qa r];constructor
   .intro z;injection z with z;injection z with z;rw[Px (by rw[I.len];omega),<-z,I.len,yS];rfl
   .intro z;by_cases v:i< ps.length
    .rw[HB v] at z;exact absurd (vd z) l
    .rw[Px (by omega)] at z;have:i - ps.length=0:=by
      cases A:i - ps.length with
      |zero=>rfl
      |succ n=>rw[A] at z;simp at z
     rw[show i=f.length by rw[<-I.len];omega]
  .rw[oa e,I.own s t i];by_cases v:i< ps.length
   .rw[HB v]
   .rw[Px (by omega),Xq (by omega)];constructor
    .intro z;cases z
    .intro z;have:=vd z;simp at this;omega
 .have B:=I.len;by_cases C:i< f.length
  .rw[HB C] at v;rw[HB (by omega)] at w;obtain⟨n,D,E⟩:=I.path i u s v w;exact{n,D,λm F=>CG _ (E m F)}
  .rw[Px (by omega)] at v w;have G:i - f.length=0:=by
    cases A:i - f.length with
    |zero=>rfl
    |succ n=>rw[A] at v;simp at v
   rw[G] at v;rw[show i - ps.length=0 by omega] at w;have H:h=u:=by simpa using v
   have J:j=s:=by simpa using w
   subst H;subst J;exact{d,q,λm F=>CG _ (o m F)}
noncomputable def lA(mask:Nat)(acc:Option (Array (Option Nat)×Nat))(h:Int):Option (Array (Option Nat)×Nat):=do
 let(owner,k)<-acc
 let j<-layClean.free mask owner (turns mask) (bits h % (mask+1)) (bits h)
 pd (owner.setIfInBounds j (ba k),k+1)
theorem xQ{mask:Nat}(a:mask+1=2^k):∀(hs:List Int)(owner:Array (Option Nat))(ps:List Nat)(b:List Int),Jj mask owner ps b->ps.length+hs.length<=mask+1->
  ∃c d,hs.foldl (lA mask) (ba (owner,b.length))=ba (c,b.length+hs.length)/\Jj mask c d (b++hs)
 |[],owner,ps,b,I,_=>{owner,ps,rfl,by rw[sj];exact I}
 |h::hs,owner,ps,b,I,f=>by
  rw[Oc] at f;obtain⟨j,g,i⟩:=I.step a h (by omega);obtain⟨l,m,e,n⟩:=xQ a hs _ _ _ i (by rw[wd,UG];omega);refine{l,m,?_,by rw[cf] at n;exact n};rw[Bm];have o:lA mask (ba (owner,b.length)) h=ba (owner.setIfInBounds j (ba b.length),(b++[h]).length):=by
   unfold lA;simp only[aaG,aaH,g];rw[wd];rfl
  rw[o,e];simp only[wd,Oc,uj]
  congr 2
  omega
theorem a5(mask:Nat):Jj mask (aaI (mask+1) ia) [] []:=by
 refine{by simp,rfl,Yq,λj h=>absurd h Al,λj a i=>?_,λi h j b=>by simp at b};rw[Array.getElem?_replicate];split<;>simp
theorem Y7{mask:Nat}(a:mask+1=2^k)(b:Array Int)(c:b.size<=mask):∃owner ps,layClean mask b=ba owner/\Jj mask owner ps b.toList:=by
 obtain⟨d,f,e,I⟩:=xQ a b.toList _ _ _ (a5 mask) (by have:=Ng (xs:=b);simp only[uj];omega);refine{d,f,?_,I};unfold layClean;rw[<-Array.foldl_toList];show Option.map _ (List.foldl (lA mask) (ba (aaI (mask+1) ia,([]:List Int).length)) b.toList)=_;rw[e];rfl
open PySem.SetTable (Probe runEnd leap bits below insertAt layClean turns sizeAbove)
theorem AI{n:Nat}(g:n< 4096):∀(f k:Nat),3<=k->k<=12->13 - k<=f->∃h,k<=h/\h<=12/\sizeAbove.go n f (2^k)=2^h/\n< 2^h
 |0,k,i,j,l=>by omega
 |f+1,k,i,j,l=>by
  unfold sizeAbove.go;by_cases m:2^k<=n
  .rw[qa m];have o:k< 12:=by
    apply Ln
    intro p;have e:k=12:=by omega
    subst e;have:(2:Nat)^12=4096:=by decide
    omega
   obtain⟨h,a,b,c,d⟩:=AI g f (k+1) (by omega) (by omega) (by omega);rw[show 2^k*2=2^(k+1) from(Dm _ _).symm];exact{h,by omega,b,c,d}
  .rw[oa m];exact{k,rb _,j,rfl,by omega}
theorem F7{n:Nat}(e:n< 4096):∃k,3<=k/\k<=12/\sizeAbove n=2^k/\n< 2^k:=by
 obtain⟨k,a,b,c,d⟩:=AI e 64 3 (by decide) (by decide) (by decide);exact⟨k,a,b,c,d⟩
theorem mC{a:Type}(f:Nat->Option a):∀l:List Nat,(l.filterMap λj=>(f j).map λi=>(j,i)).map (·.1)=l.filter λj=>(f j).isSome
 |[]=>rfl
 |j::l=>by
  cases h:f j with
  |none=>
   rw[RS (by rw[h];rfl),List.filter_cons_of_neg (by rw[h];simp)];exact mC f l
  |some i=>
   rw[aC (b:=(j,i)) (by rw[h];rfl),List.filter_cons_of_pos (by rw[h];rfl),Nb,mC f l]
theorem OM{a:Type}(g:Nat->Option a):∀l:List (Nat×Nat),(∀p∈l,(g p.2).isSome=da)->(l.filterMap λp=>(g p.2).map λe=>(p.1,e)).map (·.1)=l.map (·.1)
 |[],_=>rfl
 |p::l,h=>by
  have c:=h p (by simp);cases d:g p.2 with
  |none=>rw[d] at c;cases c
  |some e=>
   rw[aC (b:=(p.1,e)) (by rw[d];rfl),Nb,Nb,OM g l λq f=>h q (by simp[f])]
theorem FD{a:Type}(g:Nat->Option a):∀l:List (Nat×Nat),(l.filterMap λp=>(g p.2).map λe=>(p.1,e)).map (·.2)=(l.map (·.2)).filterMap g
 |[]=>rfl
 |p::l=>by
  rw[Nb];cases c:g p.2 with
  |none=>rw[RS (by rw[c];rfl),RS c,FD g l]
  |some e=>rw[aC (b:=(p.1,e)) (by rw[c];rfl),aC c,Nb,FD g l]
theorem UJ{c:Type}:∀l:List c,(Li l.length).filterMap (λi=>l[i]?)=l
 |[]=>rfl
 |x::l=>by
  rw[Oc,AR,aC (f:=λi=>(x::l)[i]?) (a:=0) (b:=x) rfl,a_]
  congr 1
  exact UJ l
theorem ZP{mask:Nat}(hk:mask+1=2^k)(h3:3<=k)(h12:k<=12)(finger moves:Nat)(led plain:Bool)(es:Array (Int×Value))(hr:es.size<=mask):
  ∃t' order tb',aaJ mask finger moves led plain (es.map (·.1))=ba (t',order)/\be t' (order.filterMap (es[·]?)) tb'/\(tb'.map (·.2)).Perm es.toList/\(order.filterMap (es[·]?)).size=es.size/\t'.mask=mask/\t'.led=led/\t'.plain=plain:=by
 obtain⟨owner,ps,e,I⟩:=Y7 hk (es.map (·.1)) (by rw[aaK];exact hr)
 generalize hlive:(Li (mask+1)).filterMap (λj=>(owner.getD j ia).map λi=>(j,i))=live
 have hmem:∀p:Nat×Nat,p∈live↔p.1<=mask/\ps[p.2]?=ba p.1:=λp=>by
  rw[<-hlive,Hx];have hgd:∀j,j<=mask->∀i,owner.getD j ia=ba i↔ps[i]?=ba j:=λj hj i=>by
   rw[<-I.own j hj i];have hb:j< owner.size:=by rw[I.sz];omega
   have hg:owner[j]?=ba owner[j]:=by simp
   have hd:owner.getD j ia=owner[j]:=by simp[uy,hb]
   rw[hd,hg];exact{λz=>by rw[z],λz=>Dd z}
  constructor
  .rintro⟨j,hj,hp⟩;have hj:=dm.mp hj;obtain⟨i,hi,rfl⟩:=Ie.mp hp;exact{by omega,(hgd j (by omega) i).mp hi}
  .rintro⟨a,b⟩;exact{p.1,dm.mpr (by omega),by rw[(hgd p.1 a p.2).mpr b];rfl}
 have hrise:(live.map (·.1)).Pairwise (· < ·):=by
  rw[<-hlive,mC];exact aaL.sublist zl
 have hlt:∀p∈live,p.2< es.size:=λp hp=>by
  have:=(Cf.mp ((hmem p).mp hp).2).1;rw[I.len,zH,Na,Ng] at this;exact this
 have hsome:∀p∈live,(es[p.2]?).isSome=da:=λp hp=>by
  have:=hlt p hp;simp[this]
 have hord:(live.map (·.2)).Perm (Li es.size):=by
  refine(bC ?_ IS).mpr λi=>?_
  .rw[aad,Ti];have hr2:=Ti.mp hrise;refine hr2.imp_of_mem λ{a b} ha hb hab z=>?_;have h1:=((hmem a).mp ha).2;have h2:=((hmem b).mp hb).2;rw[z,h2] at h1;have:=Dd h1;omega
  .rw[Mb,dm];constructor
   .rintro⟨p,hp,rfl⟩;exact hlt p hp
   .intro hi;have hi2:i< ps.length:=by rw[I.len,zH,Na,Ng];exact hi
    have hg:ps[i]?=ba ps[i]:=Wd hi2;exact{(ps[i],i),(hmem _).mpr {I.le _ (BH hi2),hg},rfl}
 have hfm:(live.map (·.2)).toArray.filterMap (es[·]?)=((live.map (·.2)).filterMap (es[·]?)).toArray:=by
  simp
 have hes:(live.filterMap λp=>(es[p.2]?).map λe=>(p.1,e)).map (·.2)=(live.map (·.2)).filterMap (es[·]?):=FD (λi=>es[i]?) live;have hfst:(live.filterMap λp=>(es[p.2]?).map λe=>(p.1,e)).map (·.1)=live.map (·.1):=OM (λi=>es[i]?) live hsome;have hperm:((live.map (·.2)).filterMap (es[·]?)).Perm es.toList:=by
  have:=hord.filterMap (λi=>es[i]?);refine this.trans ?_;have e2:=UJ es.toList;rw[Ng] at e2;have e3:(λi:Nat=>es[i]?)=λi=>es.toList[i]?:=by funext i;rw[Tf]
  rw[e3,e2]
 have hlen:(live.filterMap λp=>(es[p.2]?).map λe=>(p.1,e)).length=es.size:=by
  have:=hperm.length_eq;rw[<-hes,Na,Ng] at this;exact this
 refine{{mask,place:=(live.map (·.1)).toArray,dummies:=#[],finger,led,moves,plain},(live.map (·.2)).toArray,live.filterMap λp=>(es[p.2]?).map λe=>(p.1,e),?_,{rfl,?_,?_,{?_,λq hq=>?_,λq hq=>?_},⟨k,h3,h12,hk⟩,?_},?_,?_,rfl,rfl,rfl}
 .unfold aaJ;rw[e];simp only[aaG,aaH];rw[hlive];rfl
 .show(live.map (·.1)).toArray.toList=_;rw[hfst]
 .rw[hfm,hes]
 .rw[hfst];exact hrise
 .obtain⟨p,hp,hq2⟩:=Hx.mp hq;obtain⟨v,hv,rfl⟩:=Ie.mp hq2;exact((hmem p).mp hp).1
 .obtain⟨p,hp,hq2⟩:=Hx.mp hq;obtain⟨v,hv,rfl⟩:=Ie.mp hq2;obtain⟨n,g1,g2⟩:=I.path p.2 v.1 p.1 (by rw[zH,Ac,Tf,hv];rfl) ((hmem p).mp hp).2;refine{n,g1,λm hm=>?_};rw[hfst];obtain⟨i,hi⟩:=Cp (g2 m hm);exact Mb.mpr {(pos mask v.1 m,i),(hmem _).mpr {eF _ _ _,hi},rfl}
 .rw[hlen];exact hr
 .rw[hes];exact hperm
 .rw[hfm,Od];have:=hperm.length_eq;rw[Ng] at this;exact this
theorem K1{t:Sa}{wanted:Nat}(hw:wanted< 4096)(h:es.size<=wanted):
  E4 λt' j tb' k=>A5 (t.relaid (es.map (·.1)) wanted=ba (t',j)) (be t' (j.filterMap (es[·]?)) tb') ((tb'.map (·.2)).Perm es.toList) ((j.filterMap (es[·]?)).size=es.size) (A5 (t'.mask+1=2^k) (wanted<=t'.mask) (sizeAbove wanted=2^k) (k<=12) (t'.led=t.led/\t'.plain=t.plain)):=by
 obtain⟨k,l,m,e,n⟩:=F7 hw;have o:0< 2^k:=BS (by decide);obtain⟨t',j,tb',a,b,c,d,f,g,i⟩:=ZP (mask:=sizeAbove wanted - 1) (k:=k) (by rw[e];omega) l m t.finger (t.movedTo (sizeAbove wanted - 1)) t.led t.plain es (by rw[e];omega);exact{t',j,tb',k,a,b,c,d,by rw[f,e];omega,by rw[f,e];omega,e,m,g,i}
inductive Rc(h:Heap)(t:Text)(q:Addr):Prop|mk:∀(o:Obj)(its:List Value)(n:Nat),h.get? q=ba o->o.cls= .type "tuple"->o.data= .seq its.toArray n->yb (txt t) its->Rc h t q
theorem Rc.typeIs{t:Text}{q:Addr}(x:Rc s.heap t q):s.TypeIs (.ref q) "tuple":=by
 obtain⟨o,a,n,b,c,_⟩:=x;exact⟨o,b,c⟩
theorem Rc.isKey{t:Text}{q:Addr}(x:Rc h t q):(Jq (ah P w)).is h (key t) q:=by
 obtain⟨o,a,n,b,c,d,r⟩:=x;rw[<-Xe] at r;exact{o,a.toArray,n,b,c,d,by simpa using kF r}
theorem Rc.ints{t:Text}{its:List Value}(r:yb (txt t) its):∀v∈its,∃i tk,v=Yk i tk:=by
 induction t generalizing its with
 |nil=>
  cases r;intro v a;simp at a
 |cons x t b=>
  rw[vo] at r;cases r with
  |cons h q=>
   obtain⟨tk,rfl⟩:=h;intro v a;rcases jc.mp a with e|e
   .exact{_,_,e}
   .exact b q v e
theorem Rc.keep{h':Heap}{t:Text}{q:Addr}{o:Obj}{ep:Nat}{tt:Sa}(x:Rc h t q)(b:h.get? a=ba o)(hd:o.data= .set es ep tt)(c:Nh a h h'):Rc h' t q:=by
 obtain⟨d,f,n,g,i,j,r⟩:=x;have k:q≠a:=by
  intro e;rw[e,b] at g;cases g;rw[hd] at j;cases j
 exact{d,f,n,(c.2 q k).trans g,i,j,r}
theorem c6{t:Text}{q:Addr}{Q:Bool->ja->Prop}(x:Rc s.heap t q)(h:Q da s):ra (Ea prog w) A (NH 8 (.ref q)) Q E s:=by
 have a:=x.typeIs;obtain⟨o,b,n,c,d,hd,r⟩:=x;unfold NH;refine wpAny_bind (MR a F.slot_tuple_hash.lookup ?_);refine wpAny_bind (xj c hd ?_);refine wpAny_bind ?_;show ra _ _ (um b.toArray _ _) _ _ s;rw[<-SS];refine au _ (λe r f=>r.1=ia/\f=s/\∀v∈e,∃i g,v=Yk i g) _ ?_ ?_ _ _ {rfl,rfl,by simpa using Rc.ints r}
 .rintro v e r f ⟨j,rfl,k⟩;obtain⟨i,g,rfl⟩:=k v Mh;show ra _ _ (NH 7 (Yk i g)>>=_) _ _ f;rw[show NH 7 (Yk i g)=pd da from rfl];refine wpAny_bind (wpAny_pure ?_);simp only[si,yc,Ub];exact wpAny_pure {rfl,rfl,λu l=>k u (sf _ l)}
 .rintro⟨m,p⟩ f ⟨j,rfl,_⟩;simp only at j;subst j;exact wpAny_pure h
theorem iL{t:Text}{q:Addr}{Q:Bool->ja->Prop}(x:Rc s.heap t q)(h:Q ma s):ra (Ea prog w) A (US 8 (.ref q)) Q E s:=by
 have a:=x.typeIs;obtain⟨o,b,n,c,d,hd,r⟩:=x;unfold US;refine wpAny_bind (Sx a ?_);simp only[qu,Ld];refine wpAny_bind (wpAny_pure ?_);simp only[si,yc,Ub];refine wpAny_bind (xj c hd ?_);simp only;refine wpAny_bind ?_;rw[<-SS];refine au _ (λe r f=>r.1=ia/\f=s/\∀v∈e,∃i g,v=Yk i g) _ ?_ ?_ _ _ {rfl,rfl,by simpa using Rc.ints r}
 .rintro v e r f ⟨j,rfl,k⟩;obtain⟨i,g,rfl⟩:=k v Mh;rw[show US 7 (Yk i g)=pd ma from rfl];refine wpAny_bind (wpAny_pure ?_);simp only[yc,Ub];exact wpAny_pure {rfl,rfl,λu l=>k u (sf _ l)}
 .rintro⟨m,p⟩ f ⟨j,rfl,_⟩;simp only at j;subst j;exact wpAny_pure h
theorem z3{t:Text}{q:Addr}{ys:List Value}{Q:Bool->ja->Prop}(x:Rc s.heap t q)(a:∀y∈ys,∃u p,y= .ref p/\Rc s.heap u p)(h:Q ma s):ra (Ea prog w) A (aaM (.ref q) ys) Q E s:=by
 unfold aaM;refine wpAny_bind ?_;refine au _ (λb r c=>r.1=ia/\c=s/\∀y∈b,∃u p,y=Bb p/\Rc s.heap u p) _ ?_ ?_ _ _ ⟨rfl,rfl,a⟩
 .rintro y b r c ⟨d,rfl,e⟩;obtain⟨u,p,rfl,f⟩:=e y Mh;have g:∀y∈b,∃u p,y=Bb p/\Rc c.heap u p:=λz i=>e z (sf _ i);simp only;by_cases j:(q==p)=da
  .rw[qa (by simp[j])];exact wpAny_pure ⟨rfl,rfl,g⟩
  .rw[oa (by simp[j,carriedByValue])];have k:=x.isKey (P:=prog) (w:=w);have l:=f.isKey (P:=prog) (w:=w);refine wpAny_bind (aaN k ?_);simp only[si,yc,Ub];refine wpAny_bind (aaN l ?_);simp only[si,yc,Ub];refine wpAny_bind (iL x ?_);simp only[yc,Ub];refine wpAny_bind (iL f ?_);simp only[yc,Ub];exact wpAny_pure ⟨rfl,rfl,g⟩
 .rintro⟨m,n⟩ c ⟨d,rfl,_⟩;simp only at d;subst d;exact wpAny_pure h
open PySem.SetTable (turns insertAt)
noncomputable def HK(P:Va)(w:Pa)(t:Text):Int:=(Jq (ah P w)).hash (key t)
abbrev TQ:=Text×Addr
noncomputable def ent(P:Va)(w:Pa)(p:TQ):Int×Value:=(HK P w p.1,.ref p.2)
structure zc(P:Va)(w:Pa)(h:Heap)(a:Addr)(o:Obj)(es:Array (Int×Value))(ep:Nat)(t:Sa)(tb:List Pc)(tq:List TQ):Prop where
 get:h.get? a=ba o
 ex:o.ExactSet
 dat:o.data= .set es ep t
 ok:be t es tb
 el:tb.map (·.2)=tq.map (ent P w)
 tx:∀p∈tq,Rc h p.1 p.2
 nd:(tq.map (·.1)).Nodup
 led:t.led= !w.params.followText "set-order"
 pl:t.plain=da
section
variable{o:Obj}{ep:Nat}{t:Sa}{tq:List TQ}
theorem zc.state(G:zc prog w s.heap a o es ep t tb tq){Q:(Array (Int×Value)×Nat×Sa)->ja->Prop}(h:Q (es,ep,t) s):ra (Ea prog w) A (setState a) Q E s:=aaO G.get G.dat G.ok.fits h
theorem zc.at_(G:zc prog w s.heap a o es ep t tb tq){e:Pc}(h:tb[i]?=ba e):∃p,tq[i]?=ba p/\e.2=ent prog w p:=by
 have b:(tb.map (·.2))[i]?=ba e.2:=by rw[Ac,h];rfl
 rw[G.el,Ac] at b;obtain⟨p,c,d⟩:=Ie.mp b;exact⟨p,c,d.symm⟩
theorem zc.back(G:zc prog w s.heap a o es ep t tb tq){p:TQ}(h:tq[i]?=ba p):∃e,tb[i]?=ba e/\e.2=ent prog w p:=by
 have b:(tq.map (ent prog w))[i]?=ba (ent prog w p):=by rw[Ac,h];rfl
 rw[<-G.el,Ac] at b;obtain⟨e,c,d⟩:=Ie.mp b;exact⟨e,c,d⟩
theorem ZU(G:zc prog w s.heap a o es ep t tb tq){u:Text}{q:Addr}(x:Rc s.heap u q)(hu:A.units< Wc){Q:SetFound->ja->Prop}{d:Nat}(hd:d< 10*(t.mask+15))(h1:pos t.mask (HK prog w u) d∉tb.map (·.1))(h2:∀m,m< d->pos t.mask (HK prog w u) m∈tb.map (·.1))
  (b:u∈tq.map (·.1)->Q (.there ia) s) (g:u∉tq.map (·.1)->Q (.free (pos t.mask (HK prog w u) d) ma) s):
  ∀(r n h:Nat)(j:Option Sa.Probe),d - n<=r->n<=d->r< h->j.getD (t.probeStart (HK prog w u))=Ge t.mask n (Bi t.mask (HK prog w u))->
   (∀k,k< n->∀(i:Nat)(e:Pc)(p:TQ),tb[i]?=ba e->tq[i]?=ba p->e.1=pos t.mask (HK prog w u) k->p.1≠u)->
   ra (Ea prog w) A (OH a (.ref q) (HK prog w u) da h j) Q E s:=by
 intro r
 induction r with
 |zero=>
  intro n h j hr hn hf l v;have e:n=d:=by omega
  obtain⟨f,rfl⟩:∃f,h=f+1:={h - 1,by omega};unfold OH;refine wpAny_bind (G.state ?_);simp only[G.ok.odd,yc,Ub];obtain⟨m,g1,g2,g3,B⟩:=G.ok.probe (f:=λi=>(es[i]?.map (·.1)).getD 0) (λi e he=>by rw[G.ok.BC,he];rfl) (HK prog w u) h1 h2 (10*turns t.mask) n hn (by show _< 10*(t.mask+15);omega);have C:m=d:=by omega
  subst C;rw[l];rcases B with⟨_,B⟩ |⟨B,_⟩
  .split
   .rename_i D F
    have H:ba D=ba (.empty (pos t.mask (HK prog w u) m) ia):=F.symm.trans B;cases H;refine wpAny_pure (g λI=>?_);obtain⟨p,J,K⟩:=Mb.mp I;obtain⟨i,L⟩:=Cp J;obtain⟨M,N,e2⟩:=G.back L;have O:M.2.1=HK prog w u:=by rw[e2,<-K];rfl
    obtain⟨n',a1,R⟩:=G.ok.before (vd N) (d:=m) (by rw[O];exact h1);rw[O] at R;exact v n' (by omega) i M p N L R.symm K
   .rename_i F
    exact(F _ B).elim
  .omega
 |succ r ih=>
  intro n h j hr hn hf l v;obtain⟨f,rfl⟩:∃f,h=f+1:={h - 1,by omega};unfold OH;refine wpAny_bind (G.state ?_);simp only[G.ok.odd,yc,Ub];obtain⟨m,g1,g2,g3,B⟩:=G.ok.probe (f:=λi=>(es[i]?.map (·.1)).getD 0) (λi e he=>by rw[G.ok.BC,he];rfl) (HK prog w u) h1 h2 (10*turns t.mask) n hn (by show _< 10*(t.mask+15);omega);rw[l];rcases B with⟨rfl,B⟩ |⟨C,i,e,L,hpe,O,B⟩
  .split
   .rename_i D F
    have H:ba D=ba (.empty (pos t.mask (HK prog w u) m) ia):=F.symm.trans B;cases H;refine wpAny_pure (g λI=>?_);obtain⟨p,J,K⟩:=Mb.mp I;obtain⟨i,L⟩:=Cp J;obtain⟨M,N,e2⟩:=G.back L;have O:M.2.1=HK prog w u:=by rw[e2,<-K];rfl
    obtain⟨n',a1,R⟩:=G.ok.before (vd N) (d:=m) (by rw[O];exact h1);rw[O] at R;rcases Sg n' n with c|c
    .exact v n' c i M p N L R.symm K
    .exact g3 n' c a1 M (vd N) R.symm O
   .rename_i F
    exact(F _ B).elim
  .split
   .rename_i D F
    have H:ba D=ba (.candidate (pos t.mask (HK prog w u) m) i (Ge t.mask (m+1) (Bi t.mask (HK prog w u)))):=F.symm.trans B;cases H;obtain⟨p,J,e2⟩:=G.at_ L;have xp:=G.tx p (vd J);have S:es[i]?=ba (HK prog w p.1,Bb p.2):=by rw[G.ok.BC,L];exact wc ba e2
    have T:t.slot (pos t.mask (HK prog w u) m)= .live i:=by rw[<-hpe];exact G.ok.live L
    have hsm:t.sameMemory t.moves t.mask=ba da:=by
     unfold Sa.sameMemory;rw[qa (qu _)]
    have side:∀y∈PH (λx=>x.2) (Array.filter (λx=>x.1==HK prog w u) es).toList,∃u p,y=Bb p/\Rc s.heap u p:=λy hy=>by
     obtain⟨M,N,rfl⟩:=Mb.mp hy;have N:=(wB.mp N);rw[Array.mem_filter] at N;have hm:=wB.mpr N.1;rw[G.ok.ent,G.el] at hm;obtain⟨p2,U,rfl⟩:=Mb.mp hm;exact{p2.1,p2.2,rfl,G.tx p2 U}
    have again:p.1≠u->ra (Ea prog w) A (OH a (.ref q) (HK prog w u) da f (ba (Ge t.mask (m+1) (Bi t.mask (HK prog w u))))) Q E s:=λV=>by
     refine ih (m+1) f (ba _) (by omega) (by omega) (by omega) rfl λk hk i' M p' W X Y=>?_;rcases Sg k n with c|c
     .exact v k c i' M p' W X Y
     .rcases Sg k m with c2|c2
      .have a1:=g3 k c c2 M (vd W) Y;intro z;obtain⟨p2,U,e3⟩:=G.at_ W;rw[U] at X;cases X;exact a1 (by rw[e3,<-z];rfl)
      .have ekm:k=m:=by omega
       subst ekm;have hl':=G.ok.live W;rw[Y,T] at hl';injection hl' with e3;rw[<-e3,J] at X;cases X;exact V
    simp only;cases hled:t.led
    .simp only[Hu,Ld];refine wpAny_bind (z3 x side ?_);simp only[yc,Ub];rw[S];simp only;refine wpAny_bind (ng (aaP hu (xp.isKey (P:=prog) (w:=w)) (x.isKey (P:=prog) (w:=w)) ?_));refine wpAny_bind (G.state ?_);simp only[gr];by_cases V:p.1=u
     .rw[qa (by rw[V];exact Xc rfl)];exact wpAny_pure (b (Mb.mpr {p,vd J,V}))
     .have Z:decide (key p.1=key u)=ma:=Rf λz=>V (gA z);rw[Z];simp only[yc,Ub,hsm,Ld,T,S];refine wpAny_bind (aaQ ?_);simp only[Ld];refine wpAny_bind (wpAny_pure ?_);exact again V
    .simp only[si,yc,Ub];rw[S];simp only;refine wpAny_bind (ng (aaP hu (xp.isKey (P:=prog) (w:=w)) (x.isKey (P:=prog) (w:=w)) ?_));refine wpAny_bind (G.state ?_);simp only[gr];by_cases V:p.1=u
     .rw[qa (by rw[V];exact Xc rfl)];exact wpAny_pure (b (Mb.mpr {p,vd J,V}))
     .have Z:decide (key p.1=key u)=ma:=Rf λz=>V (gA z);rw[Z];simp only[yc,Ub,hsm,Ld,T,S];refine wpAny_bind (aaQ ?_);simp only[Ld];refine wpAny_bind (wpAny_pure ?_);exact again V
   .rename_i F
    exact(F _ B).elim
end
open PySem.SetTable (turns insertAt)
theorem Wu{c:Type}{f:α->c}{l d:List c}(h:l.Perm d):∀m:List α,d=m.map f->∃g:List α,g.Perm m/\l=g.map f:=by
 induction h with
 |nil=>
  intro m e;cases m with
  |nil=>exact{[],.refl _,rfl}
  |cons a b=>cases e
 |cons x p i=>
  intro m e;cases m with
  |nil=>cases e
  |cons a b=>
   rw[Nb] at e;injection e with e1 e2;obtain⟨g,j,k⟩:=i b e2;exact{a::g,j.cons a,by rw[Nb,e1,k]}
 |swap x y l=>
  intro m e;cases m with
  |nil=>cases e
  |cons a m=>
   cases m with
   |nil=>simp at e
   |cons b m=>
    rw[Nb,Nb] at e;injection e with e1 e2;injection e2 with e2 k;exact{b::a::m,aaq _ _ _,by rw[Nb,Nb,<-e1,<-e2,<-k]}
 |trans p q n o=>
  intro m e;obtain⟨g,j,k⟩:=o m e;obtain⟨r,s,t⟩:=n g k;exact{r,s.trans j,t}
section
variable{o:Obj}{ep:Nat}{t:Sa}{tq:List TQ}
theorem zc.K5(G:zc prog w s.heap a o es ep t tb tq):t.mask<=4095:=by
 obtain⟨k,b,c,e⟩:=G.ok.pow;have:2^k<=2^12:=sy (by decide) c;have d:(2:Nat)^12=4096:=by decide
 omega
theorem zc.len(G:zc prog w s.heap a o es ep t tb tq):tq.length=tb.length:=by
 have:=wc He G.el;rw[Na,Na] at this;exact this.symm
theorem zc.store(G:zc prog w s.heap a o es ep t tb tq){es':Array (Int×Value)}{t':Sa}{tb':List Pc}{tq':List TQ}(b:be t' es' tb')(c:tb'.map (·.2)=tq'.map (ent prog w))(d:∀p∈tq',Rc s.heap p.1 p.2)(e:(tq'.map (·.1)).Nodup)(f:t'.led= !w.params.followText "set-order")(pl:t'.plain=da):
  Nh a s.heap (s.heap.update a (cC es' t'))/\zc prog w (s.heap.update a (cC es' t')) a {o with data:= .set es' (ep+1) t'} es' (ep+1) t' tb' tq':=by
 have g:=br s.heap a (cC es' t');have h:(s.heap.update a (cC es' t')).get? a=ba {o with data:= .set es' (ep+1) t'}:=by
  have:=ou (cC es' t') G.get (by rw[putSet_of es' t' G.dat];rfl);rw[putSet_of es' t' G.dat] at this;exact this
 exact{g,h,G.ex,rfl,b,c,λp i=>(d p i).keep G.get G.dat g,e,f,pl}
theorem BM(G:zc prog w s.heap a o es ep t tb tq){u:Text}{q:Addr}(x:Rc s.heap u q)(c:A.units< Wc){Q:Bool->ja->Prop}(e:(tb.length+1)*5< t.mask*3)(g:u∈tq.map (·.1)->Q ma s)
  (h:u∉tq.map (·.1)->∀h' i es' t' tb' tq',Nh a s.heap h'->zc prog w h' a i es' (ep+1) t' tb' tq'->tq'.Perm ((u,q)::tq)->t'.mask=t.mask->Q da {s with heap:=h'}):
  ra (Ea prog w) A (QH a (.ref q) (HK prog w u)) Q E s:=by
 obtain⟨k,j,l,m⟩:=G.ok.pow;have n:=G.K5;have r:=G.ok.Aq;obtain⟨d,hd,v,y⟩:=LZ m (HK prog w u) (O:=tb.map (·.1)) (by rw[Na];exact G.ok.Bk);unfold QH setAddHashedIn;refine ng (wpAny_bind (G.state ?_));have B:byScan (.ref q) es=ma:=by
  unfold byScan;rfl
 simp only[B,yc,Ub];refine wpAny_bind (ZU G x c hd v y (λC=>?_) (λD=>?_) d 0 100000 ia (by omega) (by omega) (by omega) rfl λk m=>by omega)
 .exact wpAny_pure (g C)
 .simp only;refine wpAny_bind (G.state ?_);obtain⟨tb',F,H,I,J,K,L,M⟩:=G.ok.put (x:= .ref q) v y (by omega) (b:=(t.put (pos t.mask (HK prog w u) d)).1.plain);simp only[K,G.pl,Ld];refine wpAny_bind (c6 x ?_);simp only[Ld];obtain⟨tq',N,P⟩:=Wu (f:=ent prog w) (F.map (·.2)) ((u,q)::tq) (by rw[Nb,Nb,G.el];rfl);obtain⟨R,S⟩:=G.store (es':=insertAt es (t.put (pos t.mask (HK prog w u) d)).2 (HK prog w u,.ref q)) (t':=(t.put (pos t.mask (HK prog w u) d)).1) H P
   (λp T=>by
    rcases jc.mp (N.mem_iff.mp T) with z|z
    .rw[z];exact x
    .exact G.tx p z)
   (by
    rw[(N.map (·.1)).nodup_iff,Nb,tj];exact⟨D,G.nd⟩) (by rw[J];exact G.led) (by rw[K];exact G.pl)
  refine wpAny_bind (RH G.get G.dat ?_ ?_)
  .have U:(t.put (pos t.mask (HK prog w u) d)).1.tooFull=ma:=by
    have V:=H.Aq;have W:=H.ro;unfold Sa.tooFull LH;rw[I];have X:(t.put (pos t.mask (HK prog w u) d)).1.place.size=tb'.length:=V;have Y:(t.put (pos t.mask (HK prog w u) d)).1.dummies=#[]:=W;rw[X,Y,F.length_eq,Oc];simp;omega
   simp only[U,LB,yc,Ub];exact wpAny_pure (h D _ _ _ _ _ _ R S N I)
  .have:=H.Bq;rw[this,F.length_eq,Oc];have:tb.length<=4095:=by have:=G.ok.Bk;omega
   exact Bc (show tb.length+1<=4096 by omega) (by decide)
end
open PySem.SetTable (turns insertAt)
theorem OO(next:Nat->Nat):∀(a k:Nat)(left:List α)(out:Array α),left.length<=a->(pickOrder.go next a k left out).toList.Perm (out.toList++left)
 |0,k,left,out,h=>by
  have:left=[]:=zm.mp (by omega);subst this;show out.toList.Perm _;rw[sj]
 |a+1,k,left,out,h=>by
  unfold pickOrder.go;cases b:left with
  |nil=>
   have:([]:List α)[next k % ([]:List α).length]?=ia:=by simp
   simp
  |cons y c=>
   have d:next k % (y::c).length< (y::c).length:=Bp _ (by simp)
   have f:(y::c)[next k % (y::c).length]?=ba (y::c)[next k % (y::c).length]:=Wd d;rw[f];simp only;have g:((y::c).eraseIdx (next k % (y::c).length)).length<=a:=by
    rw[List.length_eraseIdx_of_lt d];rw[b] at h;omega
   refine(OO next a (k+1) _ _ g).trans ?_;rw[KS,cf];refine OS.append_left _ ?_;rw[List.eraseIdx_eq_take_drop_succ];have e:=Ph (next k % (y::c).length) (y::c);rw[aal d] at e;have p:((y::c)[next k % (y::c).length]::((y::c).take (next k % (y::c).length)++(y::c).drop (next k % (y::c).length+1))).Perm ((y::c).take (next k % (y::c).length)++(y::c)[next k % (y::c).length]::(y::c).drop (next k % (y::c).length+1)):=MH.symm;rw[e] at p;exact p
theorem iO(next:Nat->Nat)(xs:Array α):(SH next xs).toList.Perm xs.toList:=by
 have:=OO next xs.size 0 xs.toList #[] (by simp)
 unfold SH;simpa using this
section
variable{o:Obj}{ep:Nat}{t:Sa}{tq:List TQ}
theorem zc.dG(G:zc prog w s.heap a o es ep t tb tq):es.toList=tq.map (ent prog w):=by rw[G.ok.ent,G.el]
theorem AV(G:zc prog w s.heap a o es ep t tb tq){Q:Array (Int×Value)->ja->Prop}(h:∀W:Array (Int×Value),W.toList.Perm es.toList->Q W s):ra (Ea prog w) A (UH a) Q E s:=by
 unfold UH;refine wpAny_bind (G.state ?_);unfold Iu;refine wpAny_bind (wpAny_bind (Mn (wpAny_pure ?_)));cases b:w.params.followText "set-order" with
 |true=>
  rw[qa (show(Ea prog w).w.params.followText "set-order"=da from b)];exact wpAny_bind (Mn (wpAny_pure (h _ (iO _ _))))
 |false=>
  rw[oa (show¬(Ea prog w).w.params.followText "set-order"=da by intro z;rw[show(Ea prog w).w.params.followText "set-order"=ma from b] at z;cases z)];have c:=G.led;rw[b] at c;show ra _ _ (if(!t.plain&&decide (es.size>1))=da then _ else _) _ _ _;rw[G.pl];simp only[si,kh,yc,Ub];refine wpAny_bind ?_;show ra _ _ (if(!t.led&&decide (es.size>1))=da then _ else _) _ _ _;rw[c];simp only[Hu,si,kh,yc,Ub];exact wpAny_pure (wpAny_pure (h es (.refl _)))
theorem IY(G:zc prog w s.heap a o es ep t tb tq){l:List Addr}{f:Option Addr}{Q:Array (Int×Value)->ja->Prop}(h:∀W:Array (Int×Value),W.toList.Perm es.toList->Q W s):ra (Ea prog w) A (aaS a l f) Q E s:=by
 unfold aaS;refine wpAny_bind (G.state ?_);unfold Iu;refine wpAny_bind (wpAny_bind (Mn (wpAny_pure ?_)));have b:((Ea prog w).w.params.followText "set-order"||(t.led&&t.plain)||decide (es.size<=1))=da:=by
  rw[G.pl,G.led];show(w.params.followText "set-order"||(!w.params.followText "set-order"&&da)||decide (es.size<=1))=da;cases w.params.followText "set-order"<;>rfl
 simp only;rw[qa b];exact AV G h
theorem aN(G:zc prog w s.heap a o es ep t tb tq){more:Nat}(b:tq.length+more<=2000){Q:Unit->ja->Prop}(h:∀h' c es' d t' tb' tq',Nh a s.heap h'->zc prog w h' a c es' d t' tb' tq'->tq'.Perm tq->(tb'.length+more)*5< t'.mask*3->Q () {s with heap:=h'}):
  ra (Ea prog w) A (setRoomFor a more) Q E s:=by
 have g:=G.len;have i:=G.ok.Aq;have j:=G.ok.Bq;unfold setRoomFor;refine wpAny_bind (G.state ?_);have l:t.fill=tb.length:=by
  unfold LH;rw[G.ok.ro,i];simp
 unfold Sa.roomFor;simp only[l,i];by_cases m:(tb.length+more)*5>=t.mask*3
 .rw[qa m];simp only;unfold setRelay;refine wpAny_bind (G.state ?_);obtain⟨n,q,_,r⟩:=G.ok.pow;have u:2^3<=2^n:=sy (by decide) q;obtain⟨t',v,tb',k,x,y,z,B,C,D,F,H,I,J⟩:=K1 (t:=t) (es:=es) (wanted:=(tb.length+more)*2) (by omega) (by omega);have K:¬Sa.sizeAbove ((tb.length+more)*2)>sizeLine:=by
   rw[F];have:2^k<=2^12:=sy (by decide) H;exact Nat.not_lt.mpr (Bc this (by decide))
  simp only[oa K];refine wpAny_bind ?_;rw[x];show ra _ _ (if((v.filterMap (es[·]?)).size != es.size)=da then _ else _) _ _ _;rw[B,oa (by simp)];refine wpAny_pure ?_;obtain⟨tq',L,M⟩:=Wu (f:=ent prog w) z tq G.dG;obtain⟨N,O⟩:=G.store y M (λp i=>G.tx p (L.mem_iff.mp i)) (by rw[(L.map (·.1)).nodup_iff];exact G.nd) (by rw[I];exact G.led) (by rw[J];exact G.pl);have P:tb'.length=tb.length:=by
   have:=wc He M;rw[Na,Na,L.length_eq] at this;omega
  refine RH G.get G.dat (h _ _ _ _ _ _ _ N O L (by omega)) ?_;rw[B,j];exact Bc (show tb.length<=2000 by omega) (by decide)
 .rw[oa m];simp only;have e:s={s with heap:=s.heap}:=by cases s;rfl
  have:=h s.heap o es ep t tb tq (aS a s.heap) G (.refl _) (by omega);rw[<-e] at this;exact wpAny_pure this
theorem zc.keep{h':Heap}{c:Obj}{d:Array (Int×Value)}{e:Nat}{tt:Sa}{f:List Pc}{g:List TQ}(i:zc prog w h b c d e tt f g)(j:h.get? a=ba o)(k:o.data= .set es ep t)(l:b≠a)(m:Nh a h h'):zc prog w h' b c d e tt f g:=
 {(m.2 b l).trans i.get,i.ex,i.dat,i.ok,i.el,λp n=>(i.tx p n).keep j k m,i.nd,i.led,i.pl}
end
open PySem.SetTable (turns insertAt)
def bg(l m r:List TQ):Prop:=(∀p∈r,p∈l\/p∈m)/\∀u,u∈r.map (·.1)↔u∈l.map (·.1)\/u∈m.map (·.1)
theorem bg.add{l r a:List TQ}{b:List TQ}{p:TQ}(h:bg l b r)(c:a.Perm (p::r)):bg l (b++[p]) a:=by
 refine{λq d=>?_,λu=>?_}
 .rcases jc.mp (c.mem_iff.mp d) with e|e
  .exact .inr (by simp[e])
  .rcases h.1 q e with z|z
   .exact .inl z
   .exact .inr (by simp[z])
 .rw[(c.map (·.1)).mem_iff,Nb,jc,h.2 u,vf,Pe];simp only[Nb,Tq,dC];constructor
  .rintro(e|e|e)
   .exact .inr (.inr e)
   .exact .inl e
   .exact .inr (.inl e)
  .rintro(e|e|e)
   .exact .inr (.inl e)
   .exact .inr (.inr e)
   .exact .inl e
theorem bg.skip{l r:List TQ}{a:List TQ}{p:TQ}(h:bg l a r)(b:p.1∈r.map (·.1)):bg l (a++[p]) r:=by
 refine{λq c=>?_,λu=>?_}
 .rcases h.1 q c with z|z
  .exact .inl z
  .exact .inr (by simp[z])
 .rw[h.2 u,vf,Pe];simp only[Nb,Tq,dC];constructor
  .rintro(e|e)
   .exact .inl e
   .exact .inr (.inl e)
  .rintro(e|e|e)
   .exact .inl e
   .exact .inr e
   .rw[e];exact(h.2 _).mp b
theorem bg.perm{l m a r:List TQ}(h:bg l m r)(b:m.Perm a):bg l a r:=
 {λq c=>(h.1 q c).imp id λz=>b.mem_iff.mp z,λu=>by rw[h.2 u,(b.map (·.1)).mem_iff]}
section
variable{o:Obj}{ep:Nat}{t:Sa}{tq:List TQ}{ob:Obj}{eb:Array (Int×Value)}{epb:Nat}{ttb:Sa}{tbb:List Pc}{tqb:List TQ}
theorem Gw(G:zc prog w h a o es ep t tb tq):tq.length=tb.length:=by
 have:=wc He G.el;rw[Na,Na] at this;exact this.symm
def After(prog:Va)(w:Pa)(a:Addr)(s:ja)(tq:List TQ)(Q:Unit->ja->Prop):Prop:=∀h' b c d t' e,Nh a s.heap h'->zc prog w h' a b c d t' e tq->Q () {s with heap:=h'}
theorem MO(c:zc prog w s.heap a o es ep t tb tq)(d:zc prog w s.heap b ob eb epb ttb tbb tqb)(g:a≠b)(hu:A.units< Wc)(hm:tq.length+tqb.length<=2000){i:Ma Unit}
  (j:∀(s':ja)(Q':Unit->ja->Prop),zc prog w s'.heap b ob eb epb ttb tbb tqb->Q' () s'->ra (Ea prog w) A i Q' E s') {Q:Unit->ja->Prop} (h:∀tq',bg tq tqb tq'->After prog w a s tq' Q):
  ra (Ea prog w) A (setMerge a b i) Q E s:=by
 have hlb:=d.len;have heb:=d.ok.Bq;unfold setMerge;rw[oa (by simpa using g)];refine wpAny_bind (d.state ?_);simp only;by_cases m:eb.isEmpty=da
 .rw[qa m];have hz:tqb=[]:=by
   have:eb.size=0:=by simpa using m
   exact zm.mp (by omega)
  have e:s={s with heap:=s.heap}:=by cases s;rfl
  have:=h tq {λp n=> .inl n,λu=>by rw[hz];simp} s.heap o es ep t tb (aS a s.heap) c;rw[<-e] at this;exact wpAny_pure this
 rw[oa m];refine wpAny_bind (aN c (more:=eb.size) (by omega) λh1 o1 es1 ep1 q x y z B C hr1=>?_);have D:=d.keep c.get c.dat g.symm z;refine wpAny_bind (zc.state (s:={s with heap:=h1}) B ?_);have hf1:q.fill=x.length:=by
  unfold LH;rw[B.ok.ro,B.ok.Aq];simp
 have hl1:=Gw B;have hb1:bg tq [] y:={λp n=> .inl (C.mem_iff.mp n),λu=>by rw[(C.map (·.1)).mem_iff];simp};simp only;unfold Sa.road;by_cases hfz:x.length=0
 .have F:¬(q.fill != 0)=da:=by rw[hf1,hfz];simp
  have htz:y=[]:=zm.mp (by omega);have G:∀tq',tq'.Perm tqb->bg tq tqb tq':=λtq' n=>by
   have hq0:tq=[]:=zm.mp (by have:=C.length_eq;omega);rw[hq0];exact{λp hp'=> .inr (n.mem_iff.mp hp'),λu=>by rw[(n.map (·.1)).mem_iff];simp}
  rw[oa F];by_cases hmk:(q.mask==ttb.mask&&ttb.dummies.isEmpty)=da
  .rw[qa hmk];simp only;obtain⟨H,I⟩:=zc.store (s:={s with heap:=h1}) B (es':=eb) (t':={ttb with finger:=q.finger,led:=q.led&&ttb.led,moves:=q.moves,plain:=q.plain&&ttb.plain}) (tb':=tbb) (tq':=tqb)
    ⟨D.ok.ro,D.ok.Us,D.ok.ent,D.ok.tab,D.ok.pow,D.ok.Bk⟩ D.el D.tx D.nd (by show(q.led&&ttb.led)=_;rw[B.led,D.led,my]) (by show(q.plain&&ttb.plain)=_;rw[B.pl,D.pl];rfl)
   refine RH B.get B.dat (h tqb (G _ (.refl _)) _ _ _ _ _ _ (z.trans H) I) ?_;rw[heb];exact Bc (show tbb.length<=2000 by omega) (by decide)
  .rw[oa hmk];simp only;obtain⟨k,hk3,hk12,hk⟩:=B.ok.pow;obtain⟨t',J,tb',e1,ok',K,hsz,hmk',hled,hpl⟩:=ZP hk hk3 hk12 q.finger q.moves (q.led&&ttb.led) (q.plain&&ttb.plain) eb (by omega);refine wpAny_bind ?_;rw[e1];show ra _ _ (if((J.filterMap (eb[·]?)).size != eb.size)=da then _ else _) _ _ _;rw[hsz,oa (by simp)];refine wpAny_pure ?_;obtain⟨tq',L,e3⟩:=Wu (f:=ent prog w) K tqb (by rw[d.ok.ent,d.el]);obtain⟨H,I⟩:=zc.store (s:={s with heap:=h1}) B ok' e3 (λp n=>D.tx p (L.mem_iff.mp n)) (by rw[(L.map (·.1)).nodup_iff];exact d.nd) (by rw[hled,B.led,D.led,my]) (by rw[hpl,B.pl,D.pl];rfl);refine RH B.get B.dat (h tq' (G _ L) _ _ _ _ _ _ (z.trans H) I) ?_;rw[hsz,heb];exact Bc (show tbb.length<=2000 by omega) (by decide)
 .have F:(q.fill != 0)=da:=by rw[hf1];simp[hfz]
  rw[qa F];simp only;refine wpAny_bind (IY (s:={s with heap:=h1}) D λW hW=>?_);obtain⟨wq,M,ew⟩:=Wu (f:=ent prog w) hW tqb d.dG;rw[<-SS,ew];refine wpAny_bind ?_;refine au _ (λN r s'=>E4 λO o2 P R=>E4 λt2 S T U=>∃left,A5 (s'={s with heap:=O}) (N=left.map (ent prog w)) (wq=U++left) (Nh a s.heap O) (zc prog w O a o2 P R t2 S T/\bg tq U T/\(S.length+left.length)*5< t2.mask*3)) _ ?_ ?_ _ _
   {h1,o1,es1,ep1,q,x,y,[],wq,rfl,rfl,rfl,z,B,hb1,by rw[M.length_eq];omega}
  .rintro v N r s' ⟨O,o2,P,R,t2,S,T,U,left,rfl,V,X,H,I,Y,hr2⟩;cases left with
   |nil=>cases V
   |cons p left=>
    rw[Nb] at V;injection V with e1 e2;subst e1;subst e2;have Z:=d.keep c.get c.dat g.symm H;have hpq:p∈tqb:=M.mem_iff.mp (by rw[X];simp);rw[Oc] at hr2;show ra _ _ (To [Bb p.2] (QH a (Bb p.2) (HK prog w p.1))>>=_) _ _ _;refine wpAny_bind (ng (BM (s:={s with heap:=O}) I (Z.tx p hpq) hu (by omega) (λhin=>?_) (λhout h3 o3 es3 t3 tb3 tq3 sb3 G3 hp3 hm3=>?_)))
    .refine wpAny_bind (j _ _ Z ?_);refine wpAny_bind (zc.state (s:={s with heap:=O}) Z ?_);simp only[qr,yc,Ub];exact wpAny_pure {O,o2,P,R,t2,S,T,U++[p],left,rfl,rfl,by rw[X];simp,H,I,Y.skip hin,by omega}
    .have Gb3:=Z.keep I.get I.dat g.symm sb3;have hl3:=Gw G3;have hl2:=Gw I;have hp3l:=hp3.length_eq;rw[Oc] at hp3l;refine wpAny_bind (j {s with heap:=h3} _ Gb3 ?_);refine wpAny_bind (zc.state (s:={s with heap:=h3}) Gb3 ?_);simp only[qr,yc,Ub];exact wpAny_pure {h3,o3,es3,R+1,t3,tb3,tq3,U++[p],left,rfl,rfl,by rw[X];simp,H.trans sb3,G3,Y.add hp3,by rw[hm3];omega}
  .rintro r s' ⟨O,o2,P,R,t2,S,T,U,left,rfl,V,X,H,I,Y,hr2⟩;have hl0:left=[]:=by
    cases left with
    |nil=>rfl
    |cons p l=>cases V
   rw[hl0,sj] at X;refine wpAny_pure ?_;exact h T (by rw[<-X] at Y;exact Y.perm M) _ _ _ _ _ _ H I
end
open PySem.SetTable (turns insertAt)
section
variable{o:Obj}{ep:Nat}{t:Sa}{tq:List TQ}
structure Mr(P:Va)(w:Pa)(h:Heap)(d:Addr)(o:Obj)(des:Array fb)(dep:Nat)(dq:List TQ):Prop where
 get:h.get? d=ba o
 ex:o.ExactDict
 dat:o.data= .dict des dep
 sys:(d==Lh)=ma
 el:des.toList.map (λe=>(e.hash,e.key))=dq.map (ent P w)
 tx:∀p∈dq,Rc h p.1 p.2
 Bk:dq.length<=1000
theorem X8{id:String}{c:Obj}{f:Array fb}{dep:Nat}{g:List TQ}(j:zc prog w s.heap a o es ep t tb tq)(D:Mr prog w s.heap d c f dep g)(hu:A.units< Wc)(hm:tq.length<=1000){Q:Unit->ja->Prop}(h:∀tq',bg tq g tq'->After prog w a s tq' Q):
  ra (Ea prog w) A (eC id a (.ref d)) Q E s:=by
 have hT:s.TypeIs (.ref d) "dict":=⟨c,D.get,D.ex.1⟩;have k:d≠a:=λe=>by
  have l:=D.get;rw[e,j.get] at l;cases l;have:=D.dat;rw[j.dat] at this;cases this
 have hdl:f.size=g.length:=by
  have:=wc He D.el;rw[Na,Na,Ng] at this;exact this
 unfold eC VH;refine wpAny_bind ?_;unfold orM;refine wpAny_bind (wpAny_isInstance hT F.sub_dict_set ?_);show ra _ _ (isInstance (.ref d) (.type "frozenset")) _ _ _;refine wpAny_isInstance hT F.sub_dict_frozenset ?_;simp only[yc,Ub];refine wpAny_bind (Sx hT ?_);simp only[qu,Ld];refine wpAny_bind (fy ?_);refine wpAny_bind (wpAny_pure ?_);simp only[D.sys,yc,Ub];refine wpAny_bind (Wx D.get D.dat ?_);refine wpAny_bind (mu D.get D.dat ?_);refine wpAny_bind (aN j (more:=f.size) (by have:=D.Bk;omega) λl o1 es1 ep1 t1 tb1 m n G1 q hr1=>?_);have hd1:l.get? d=ba c:=(n.2 d k).trans D.get;have hb1:bg tq [] m:={λp hp=> .inl (q.mem_iff.mp hp),λu=>by rw[(q.map (·.1)).mem_iff];simp};refine wpAny_bind (mu hd1 D.dat ?_);refine wpAny_bind ?_;rw[gH];simp only[S_,iy,WH,Nat.div_one];refine au _ (λv _ s'=>E4 λy B C G=>E4 λH I J i=>A5 (s'={s with heap:=y}) (v=cp i (f.size - i)) (i<=f.size) (Nh a s.heap y) (zc prog w y a B C G H I J/\bg tq (g.take i) J/\(I.length+(f.size - i))*5< H.mask*3)) _ ?_ ?_ _ _
  {l,o1,es1,ep1,t1,tb1,m,0,rfl,by simp,Pd _,n,G1,hb1,by omega}
 .rintro x v b s' ⟨y,B,C,G,H,I,J,i,rfl,K,hi,L,M,N,hr2⟩;have O:i< f.size:=by
   rcases Sg i f.size with h|h
   .exact h
   .rw[Nat.sub_eq_zero_of_le h] at K;simp at K
  obtain⟨rfl,P⟩:x=i/\v=cp (i+1) (f.size - (i+1)):=by
   have e:f.size - i=(f.size - (i+1))+1:=by omega
   rw[e,hH] at K;injection K with l y;exact⟨l,y⟩
  have R:y.get? d=ba c:=(L.2 d k).trans D.get;refine wpAny_bind (mu R D.dat ?_);rw[OR O];have S:x< g.length:=by omega
  have T:(f[x].hash,f[x].key)=ent prog w g[x]:=by
   have e1:(f.toList.map (λe=>(e.hash,e.key)))[x]?=ba (f[x].hash,f[x].key):=by
    rw[Ac,Tf,OR O];rfl
   rw[D.el,Ac,Wd S] at e1;exact(Dd e1).symm
  have U:f[x].key=Bb g[x].2:=wc Prod.snd T;have V:f[x].hash=HK prog w g[x].1:=wc Prod.fst T;have W:g.take (x+1)=g.take x++[g[x]]:=by rw[ni,Wd S];rfl
  show ra _ _ (To [f[x].key] (QH a f[x].key f[x].hash)>>=_) _ _ _;rw[U,V];refine wpAny_bind (ng (BM (s:={s with heap:=y}) M ((D.tx _ (BH S)).keep j.get j.dat L) hu (by omega) (λhin=>?_) (λhout h3 o3 es3 t3 tb3 tq3 X G3 Y hm3=>?_)))
  .refine wpAny_bind (Wx R D.dat ?_);simp only[qr,yc,Ub];exact wpAny_pure {y,B,C,G,H,I,J,x+1,rfl,P,O,L,M,by rw[W];exact N.skip hin,by omega}
  .have hd3:h3.get? d=ba c:=(X.2 d k).trans R;have hl3:=Gw G3;have hl2:=Gw M;have Z:=Y.length_eq;rw[Oc] at Z;refine wpAny_bind (Wx hd3 D.dat ?_);simp only[qr,yc,Ub];exact wpAny_pure {h3,o3,es3,G+1,t3,tb3,tq3,x+1,rfl,P,O,L.trans X,G3,by rw[W];exact N.add Y,by rw[hm3];omega}
 .rintro r s' ⟨y,B,C,G,H,I,J,i,rfl,K,hi,L,M,N,hr2⟩;have hie:i=f.size:=by
   rcases Sg i f.size with z|z
   .have e:f.size - i=(f.size - (i+1))+1:=by omega
    rw[e,hH] at K;cases K
   .omega
  refine wpAny_pure ?_;refine h J ?_ _ _ _ _ _ _ L M;rw[hie,hdl,Cg] at N;exact N
theorem GZ(a:Bool):be (Sa.fresh 0 0 a) #[] []:={rfl,rfl,rfl,{.nil,λe h=>absurd h Al,λe h=>absurd h Al},{3,by decide,by decide,rfl},by show 0<=7;decide}
noncomputable abbrev Kk(w:Pa):Obj:={cls:= .type "set",dict:=ia,data:= .set #[] 0 (.fresh 0 0 (!w.params.followText "set-order"))}
theorem GC(h:Heap):zc prog w (h.push (Kk w)) h.objs.size (Kk w) #[] 0 (.fresh 0 0 (!w.params.followText "set-order")) [] []:=
 {Uc _ rfl,⟨rfl,rfl,rfl⟩,rfl,GZ _,rfl,λp h=>absurd h Al,Yq,rfl,rfl}
theorem nV(h:Q (.ref s.heap.objs.size) {s with heap:=s.heap.push (Kk w)}):ra (Ea prog w) A (newSet (.type "set")) Q E s:=by
 unfold newSet Iu;refine wpAny_bind (wpAny_bind (Mn (wpAny_pure ?_)));simp only[newObj];exact wpAny_bind (FR (wpAny_pure h))
end
theorem B8(v:Value){Q₁:Value->ja->Prop}(h:Q₁ (.ref s.heap.objs.size) {s with heap:=s.heap.push (Kk w)}):
  jm (Ea prog w) A (.call (.builtin "set.__new__") ⟨[.type "set",v],[]⟩) (wants Q₁ E) s:=by
 refine aaT ?_;show ra _ A.in1 (fS "set.__new__" {[.type "set",v],[]}>>=λ_=>again (.builtin "set.__new__" {[.type "set",v],[]})) _ _ s;refine wpAny_bind (PB (F.newCall_set_1 v) (wpAny_pure {kr aaU _,Jn F.entry_set_new ?_}));rw[zp aaU _];unfold Builtin.«set.__new__» vj.Frozenset.newClass;have a:=VS;obtain⟨b,g,d,c,e⟩:=s;dsimp only
 wp_walk
 refine Mn (wpAny_pure ?_);dsimp only;simp only[newObj];refine wpAny_bind (FR (wpAny_pure ?_));exact wpAny_pure h
theorem Mr.push{a:Obj}{b:Array fb}{c:Nat}{e:List TQ}(D:Mr prog w h d a b c e)(o:Obj):Mr prog w (h.push o) d a b c e:=
 ⟨Qb _ D.get,D.ex,D.dat,D.sys,D.el,λp f=>by
  obtain⟨g,i,n,j,r,u,v⟩:=D.tx p f;exact{g,i,n,Qb _ j,r,u,v},D.Bk⟩
theorem JV{a:Obj}{f:Array fb}{g:Nat}{i:List TQ}(j:A.units+16< Wc)(D:Mr prog w s.heap d a f g i)
  (h:∀(h':Heap) k es' l t' tb' tq',(∀b o,b< s.heap.objs.size->s.heap.get? b=ba o->h'.get? b=ba o)->zc prog w h' s.heap.objs.size k es' l t' tb' tq'->bg [] i tq'->Q (.ref s.heap.objs.size) {s with heap:=h'}):
  ra (Ea prog w) A (call (.type "set") [.ref d]) Q E s:=by
 obtain⟨c,m,n⟩:=rr.mro;have p:=rr.made;have q:=rr.sub;refine JG (aaT ?_);show ra _ _ (callAny (.type "set") _) _ _ _;refine wpAny_pure {Zt.quiet_builtin _ (by decide+kernel),Jn F.entry_type_call ?_};rw[bb.under_plain (weight_type_call_type "set" [.ref d] []) rfl];have t:=rr.notType;have u:=rr.canCreate;have v:=F.typeCall_set_1 (.ref d)
 repeat(any_goals(first|assumption|wp_step))
 refine Pq (B8 (.ref d) (E:=E) (Q₁:=λx y=>x= .ref s.heap.objs.size/\y={s with heap:=s.heap.push (Kk w)}) ⟨rfl,rfl⟩) λr y z=>?_;cases r with
 |error e=>exact z
 |ok B=>
  cases B with
  |ret x=>
   obtain⟨rfl,rfl⟩:=z;have C:=GC (prog:=prog) (w:=w) s.heap;have G:ja.TypeIs {s with heap:=s.heap.push (Kk w)} (.ref s.heap.objs.size) "set":=⟨_,C.get,rfl⟩;have H:=rr.init.lookup;have I:=rr.init.bind (.ref s.heap.objs.size)
   repeat(any_goals(first|assumption|wp_step))
   refine Pq (L' (R:=wants (λr J=>r= .none/\E4 λh' k es' l=>∃t' tb' tq',J={s with heap:=h'}/\(∀b o,b< s.heap.objs.size->s.heap.get? b=ba o->h'.get? b=ba o)/\zc prog w h' s.heap.objs.size k es' l t' tb' tq'/\bg [] i tq') E) rr.init.plain F.entry_set_init (check_set_init_1 G ?_)) λK J L=>?_
   .unfold Builtin.«set.__init__» noKeywords
    generalize M:eC=U
    generalize N:setUsed=V
    wp_walk
    subst M;subst N;unfold setUsed;refine wpAny_bind (zc.state (s:={s with heap:=s.heap.push (Kk w)}) C (wpAny_pure ?_));show ra (Ea prog w) A.in1.in1 (eC "set.__init__" s.heap.objs.size (.ref d)>>=λ_=>ret Kh) _ _ _;refine wpAny_bind (X8 (s:={s with heap:=s.heap.push (Kk w)}) C (D.push _) (by show A.units+1+1< Wc;omega) (Pd _) λtq' O h' k es' l t' tb' P S=>?_);refine wpAny_pure {rfl,h',k,es',l,t',tb',tq',rfl,λb T W e=>?_,S,O};exact(P.2 b (Kd W)).trans (Qb _ e)
   .cases K with
    |error e=>exact L
    |ok X=>
     cases X with
     |ret r=>
      obtain⟨rfl,h',k,es',l,t',tb',tq',rfl,Y,S,O⟩:=L
      repeat(any_goals(first|assumption|wp_step))
      exact h _ _ _ _ _ _ _ Y S O
     |_=>exact L.elim
  |_=>exact z.elim
theorem V3:XH YH "set.__or__"=ba Builtin.«frozenset.__or__»:=WS (id':="frozenset.__or__") (by kernel_rfl) rfl (by decide+kernel) (by kernel_rfl)
section
variable{o:Obj}{ep:Nat}{t:Sa}{tq:List TQ}{ob:Obj}{eb:Array (Int×Value)}{epb:Nat}{ttb:Sa}{tbb:List Pc}{tqb:List TQ}
theorem zc.typeIs(G:zc prog w s.heap a o es ep t tb tq):s.TypeIs (.ref a) "set":=⟨o,G.get,G.ex.1⟩
theorem Rc.push{u:Text}{q:Addr}(x:Rc h u q)(ob:Obj):Rc (h.push ob) u q:=by
 obtain⟨a,b,n,c,r,u,v⟩:=x;exact{a,b,n,Qb _ c,r,u,v}
theorem zc.push(G:zc prog w h a o es ep t tb tq)(x:Obj):zc prog w (h.push x) a o es ep t tb tq:=
 {Qb _ G.get,G.ex,G.dat,G.ok,G.el,λp b=>(G.tx p b).push x,G.nd,G.led,G.pl}
theorem xF(G:zc prog w s.heap a o es ep t tb tq){Q:Bool->ja->Prop}(h:Q da s):ra (Ea prog w) A (VH (.ref a)) Q E s:=by
 unfold VH orM;refine wpAny_bind (wpAny_isInstance G.typeIs VS ?_);exact wpAny_pure h
theorem S6(G:zc prog w s.heap a o es ep t tb tq)(b:A.units< Wc)(d:tq.length<=1000)(h:∀(h':Heap) f es' g t' tb' tq',(∀c ob,c< s.heap.objs.size->s.heap.get? c=ba ob->h'.get? c=ba ob)->zc prog w h' s.heap.objs.size f es' g t' tb' tq'->bg [] tq tq'->Nh s.heap.objs.size (s.heap.push (Kk w)) h'->Q (.ref s.heap.objs.size) {s with heap:=h'}):
  ra (Ea prog w) A (XS a) Q E s:=by
 unfold XS vj.Frozenset.baseOf;refine wpAny_bind (wpAny_bind (wpAny_isInstance G.typeIs VS (wpAny_pure ?_)));rw[qa rfl];refine wpAny_bind (nV ?_);refine wpAny_bind (wpAny_pure ?_);have i:=GC (prog:=prog) (w:=w) s.heap;have j:a< s.heap.objs.size:=cc G.get;refine wpAny_bind (MO (s:={s with heap:=s.heap.push (Kk w)}) i (G.push _) (fm j) b (by show 0+_<=_;omega) (λk l _ m=>wpAny_pure m) λtq' n h' f es' g t' tb' p q=>?_);exact wpAny_pure (h h' f es' g t' tb' tq' (λc r u e=>(p.2 c (Kd u)).trans (Qb _ e)) q n p)
theorem Z3(d:zc prog w s.heap a o es ep t tb tq)(f:zc prog w s.heap b ob eb epb ttb tbb tqb)(g:a≠b)(i:A.units+16< Wc)(j:tq.length<=1000)(k:tqb.length<=1000)
  (h:∀(h':Heap) o' es' ep' t' tb' tq',(∀c ob,c< s.heap.objs.size->s.heap.get? c=ba ob->h'.get? c=ba ob)->zc prog w h' s.heap.objs.size o' es' ep' t' tb' tq'->bg tq tqb tq'->Q (.ref s.heap.objs.size) {s with heap:=h'}):
  ra (Ea prog w) A (rj .BitOr (.ref a) (.ref b)) Q E s:=by
 refine wpAny_binaryOp_same d.typeIs f.typeIs F.fills_set_or aaV (Rg aaV d.typeIs V3 ?_ (F.args_set_or_2 _ _));unfold Builtin.«frozenset.__or__»;have l:a< s.heap.objs.size:=cc d.get;have n:b< s.heap.objs.size:=cc f.get;show ra _ _ (vj.Frozenset.slot1 "__or__" {[.ref a,.ref b],[]}>>=_) _ _ _;refine wpAny_bind (wpAny_bind (m:=ZH "__or__" 1 _) (wpAny_pure (wpAny_pure ?_)));simp only[yc,Ub];refine wpAny_bind ?_;unfold andM;refine wpAny_bind (xF d ?_);show ra _ _ (VH (.ref b)) _ _ _;refine xF f ?_;simp only[si,yc,Ub];refine wpAny_bind (wpAny_pure ?_);refine wpAny_bind ?_;refine wpAny_bind (m:=XS a) (S6 d (by show A.units+1< Wc;omega) j λq o1 r v t1 x B C D G H=>?_);have I:(Bb b != Bb a)=da:=by
  have:¬b=a:=λe=>g e.symm;simpa using this
 rw[qa I];refine wpAny_bind (m:=aaW (.ref s.heap.objs.size)) (wpAny_pure ?_);have J:B.length<=1000:=by
  have K:=D.nd;have:=K.length_le_of_subset (l₂:=tq.map (·.1)) λu i=>by
   have:=(G.2 u).mp i;simpa using this
  rw[Na,Na] at this;omega
 have L:zc prog w q b ob eb epb ttb tbb tqb:=(f.push (Kk w)).keep (a:=s.heap.objs.size) (GC (prog:=prog) (w:=w) s.heap).get rfl (Kd n) H;refine wpAny_bind (ng ?_);unfold eC;refine wpAny_bind (xF (s:={s with heap:=q}) L ?_);rw[qa rfl];refine wpAny_bind (m:=aaW (.ref b)) (wpAny_pure ?_);unfold vj.Frozenset.merge;refine wpAny_bind (YS (s:={s with heap:=q}) L.get L.dat L.ok.fits ?_);refine MO (s:={s with heap:=q}) D L (fm n) (by show A.units+1< Wc;omega) (by omega) (λs' Q' M N=>?_) λO P R S T U V W X Y=>?_
 .unfold vj.Frozenset.unchanged;refine wpAny_bind (YS M.get M.dat M.ok.fits ?_);simp only[qr,yc,Ub];exact wpAny_pure N
 .refine wpAny_pure ?_;refine wpAny_pure {_,rfl,(λe=>nomatch e),h R S T U V W O (λc oc Z e=>(X.2 c (Kd Z)).trans (C c oc Z e)) Y {λp hp=>?_,λu=>?_}}
  .rcases P.1 p hp with z|z
   .rcases G.1 p z with y|y
    .exact absurd y Al
    .exact .inl y
   .exact .inr z
  .rw[P.2 u,G.2 u];simp
end
theorem Gs:Slot "set_iterator" "__next__" "set_iterator.__next__":=
 .of (owner:="set_iterator") (n:="__next__") (by rw[aaX,aaY];kernel_rfl) (by decide+kernel) (by decide+kernel) (by decide+kernel) (by first|exact .inl (by decide+kernel) |exact .inr (by decide+kernel)) (by rw[isSubtype_type];kernel_rfl)
theorem UP:Slot "set_iterator" "__iter__" "set_iterator.__iter__":=
 .of (owner:="set_iterator") (n:="__iter__") (by rw[aaX,aaY];kernel_rfl) (by decide+kernel) (by decide+kernel) (by decide+kernel) (by first|exact .inl (by decide+kernel) |exact .inr (by decide+kernel)) (by rw[isSubtype_type];kernel_rfl)
theorem AM:XH YH "set_iterator.__next__"=ba Builtin.«set_iterator.__next__»:=entryFor_of_tree (by kernel_rfl)
theorem OT:XH YH "set_iterator.__iter__"=ba Builtin.«dict_keyiterator.__iter__»:=WS (id':="dict_keyiterator.__iter__") (by kernel_rfl) rfl (by decide+kernel) (by kernel_rfl)
theorem d4:XH YH "set.__iter__"=ba Builtin.«frozenset.__iter__»:=WS (id':="frozenset.__iter__") (by kernel_rfl) rfl (by decide+kernel) (by kernel_rfl)
theorem GK:Manifest.owners.lookup (String.ofList ['r','o','t','a','r','e','t','i','_','t','e','s'].reverse)=ba Manifest.sig_set_iterator:=by kernel_rfl
theorem vP(v:Value):Au "set_iterator.__next__" ⟨[v],[]⟩:=by
 unfold Au;rw[aaZ (id:="set_iterator.__next__") (n:=['_','_','t','x','e','n','_','_']) (o:=['r','o','t','a','r','e','t','i','_','t','e','s']) (by kernel_rfl) GK]
 kernel_rfl
theorem X6(v:Value):Au "set_iterator.__iter__" ⟨[v],[]⟩:=by
 unfold Au;rw[aaZ (id:="set_iterator.__iter__") (n:=['_','_','r','e','t','i','_','_']) (o:=['r','o','t','a','r','e','t','i','_','t','e','s']) (by kernel_rfl) GK]
 kernel_rfl
structure ug(w:Pa)(h:Heap)(a:Addr)(o:Obj)(es:Array (Int×Value))(ep:Nat)(t:Sa)(tb:List Pc):Prop where
 get:h.get? a=ba o
 ex:o.ExactSet
 dat:o.data= .set es ep t
 ok:be t es tb
 led:t.led= !w.params.followText "set-order"
 pl:t.plain=da
theorem zc.wS{o:Obj}{ep:Nat}{t:Sa}{tq:List TQ}(G:zc prog w h a o es ep t tb tq):ug w h a o es ep t tb:=⟨G.get,G.ex,G.dat,G.ok,G.led,G.pl⟩
theorem ug.state{o:Obj}{ep:Nat}{t:Sa}(G:ug w s.heap a o es ep t tb){Q:(Array (Int×Value)×Nat×Sa)->ja->Prop}(h:Q (es,ep,t) s):ra (Ea prog w) A (setState a) Q E s:=aaO G.get G.dat G.ok.fits h
theorem ug.typeIs{o:Obj}{ep:Nat}{t:Sa}(G:ug w s.heap a o es ep t tb):s.TypeIs (.ref a) "set":=⟨o,G.get,G.ex.1⟩
def wk(w:Pa)(a:Addr)(ep:Nat)(es:Array (Int×Value)):Array (Int×Value):=if w.params.followText "set-order"=da then SH (w.params.setOrder a ep) es else es
theorem eJ(w:Pa)(a:Addr)(ep:Nat)(es:Array (Int×Value)):(wk w a ep es).toList.Perm es.toList:=by
 unfold wk;split
 .exact iO _ _
 .exact .refl _
theorem zA(w:Pa)(a:Addr)(ep:Nat)(es:Array (Int×Value)):(wk w a ep es).size=es.size:=by
 have:=(eJ w a ep es).length_eq;rw[Ng,Ng] at this;exact this
def slotAt(w:Pa)(t:Sa)(i:Nat):Nat:=if w.params.followText "set-order"=da then 0 else if i=0 then 0 else t.place.getD (i - 1) 0+1
def pq(w:Pa)(h:Heap)(I a:Addr)(t:Sa)(i n ep:Nat):Prop:=h.get? I=ba {cls:= .type "set_iterator",data:= .fields #[.int (slotAt w t i:Nat) 0,.int (i:Nat) 0,.ref a,.int (n:Nat) 0,.int (ep:Nat) 0]}
section
variable{o:Obj}{ep:Nat}{t:Sa}{tq:List TQ}
theorem ug.vO(G:ug w s.heap a o es ep t tb){Q:Array (Int×Value)->ja->Prop}(h:Q (wk w a ep es) s):ra (Ea prog w) A (UH a) Q E s:=by
 unfold UH;refine wpAny_bind (G.state ?_);unfold Iu;refine wpAny_bind (wpAny_bind (Mn (wpAny_pure ?_)));cases b:w.params.followText "set-order" with
 |true=>
  rw[qa (show(Ea prog w).w.params.followText "set-order"=da from b)];refine wpAny_bind (Mn (wpAny_pure ?_));have e:wk w a ep es=SH (w.params.setOrder a ep) es:=by unfold wk;rw[qa b]
  rw[e] at h;exact h
 |false=>
  rw[oa (show¬(Ea prog w).w.params.followText "set-order"=da by intro z;rw[show(Ea prog w).w.params.followText "set-order"=ma from b] at z;cases z)];have c:=G.led;rw[b] at c;have e:wk w a ep es=es:=by unfold wk;rw[b];rfl
  rw[e] at h;show ra _ _ (if(!t.plain&&decide (es.size>1))=da then _ else _) _ _ _;rw[G.pl];simp only[si,kh,yc,Ub];refine wpAny_bind ?_;show ra _ _ (if(!t.led&&decide (es.size>1))=da then _ else _) _ _ _;rw[c];simp only[Hu,si,kh,yc,Ub];exact wpAny_pure (wpAny_pure h)
theorem pU(G:ug w s.heap a o es ep t tb)(h:Q (.ref s.heap.objs.size) {s with heap:=s.heap.push {cls:= .type "set_iterator",data:= .fields #[.int (slotAt w t 0:Nat) 0,.int (0:Nat) 0,.ref a,.int (es.size:Nat) 0,.int (ep:Nat) 0]}}):
  ra (Ea prog w) A (Gx (.ref a)) Q E s:=by
 refine OB G.typeIs aa0 (Rg aa0 G.typeIs d4 ?_ (F.args_set_iter_1 _));unfold Builtin.«frozenset.__iter__»;show ra _ _ (vj.Frozenset.slot0 "__iter__" {[.ref a],[]}>>=_) _ _ _;refine wpAny_bind (wpAny_bind (m:=ZH "__iter__" 0 _) (wpAny_pure (wpAny_pure ?_)));unfold vj.Frozenset.sizeOf;refine wpAny_bind (wpAny_bind (ZS G.get G.dat G.ok.fits (wpAny_pure ?_)));unfold setDrawn Iu;refine wpAny_bind (wpAny_bind (G.state (wpAny_bind (wpAny_bind (Mn (wpAny_pure (wpAny_pure ?_)))))));have b:(!(Ea prog w).w.params.followText "set-order"&&(!t.plain&&decide (es.size>1)))=ma:=by rw[G.pl];simp
 show ra _ _ (if(!(Ea prog w).w.params.followText "set-order"&&(!t.plain&&decide (es.size>1)))=da then _ else _) _ _ _;rw[b];simp only[yc,Ub];refine wpAny_bind (wpAny_pure ?_);refine wpAny_bind (YS G.get G.dat G.ok.fits ?_);have c:slotAt w t 0=0:=by unfold slotAt;split<;>rfl
 rw[c] at h;refine wpAny_bind (wpAny_newObj_type (wpAny_pure {_,rfl,"set_iterator",_,{_,Uc _ rfl,rfl},Gs.lookup,?_}));simpa[Qg] using h
theorem W1(G:ug w s.heap a o es ep t tb){v:Int×Value}(b:(wk w a ep es)[i]?=ba v){Q:Option (Value×Nat)->ja->Prop}(h:Q (ba (v.2,slotAt w t (i+1))) s):ra (Ea prog w) A (vy a (slotAt w t i) i ep) Q E s:=by
 unfold vy;refine wpAny_bind (G.state ?_);have c:i< es.size:=by rw[<-zA w a ep es];exact(dH.mp b).1
 rw[show Iu=(do return(<-ask).params.followText "set-order":Ma Bool) from rfl];refine wpAny_bind (wpAny_bind (Mn (wpAny_pure ?_)));cases d:w.params.followText "set-order" with
 |true=>
  rw[qa (show(Ea prog w).w.params.followText "set-order"=da from d)];simp only[qr,yc,Ub];refine wpAny_bind (G.vO (wpAny_pure ?_));rw[b];have e:slotAt w t i=0:=by unfold slotAt;rw[qa d]
  have f:slotAt w t (i+1)=0:=by unfold slotAt;rw[qa d]
  rw[e];rw[f] at h;exact h
 |false=>
  rw[oa (show¬(Ea prog w).w.params.followText "set-order"=da by intro z;rw[show(Ea prog w).w.params.followText "set-order"=ma from d] at z;cases z)];have g:=G.led;rw[d] at g;have j:wk w a ep es=es:=by unfold wk;rw[d];rfl
  rw[j] at b;show ra _ _ (if(!t.plain&&decide (es.size>1))=da then _ else _) _ _ _;rw[G.pl];simp only[si,kh,yc,Ub];refine wpAny_bind ?_;show ra _ _ (if(!t.led&& !es.isEmpty)=da then _ else _) _ _ _;rw[g];simp only[Hu,si,kh,yc,Ub];refine wpAny_pure ?_;have k:i< t.place.size:=by rw[G.ok.Aq,<-G.ok.Bq];exact c
  have l:t.place[i]?=ba t.place[i]:=by simp[k]
  have n:aT t.place (slotAt w t i)=i:=by
   unfold slotAt;rw[d];simp only[yc,Ub];cases i with
   |zero=>
    rw[qa rfl];have p:=(Lv G.ok.rise 0).2 0 _ l;have:¬0< aT t.place 0:=λz=>by have:=p.mp z;omega
    omega
   |succ m=>
    rw[oa (by omega),WH];have q:t.place[m]?=ba (t.place.getD m 0):=by
     have:m< t.place.size:=by omega
     simp[uy,this]
    exact mJ G.ok.rise q
  rw[n,b,l];have f:slotAt w t (i+1)=t.place[i]+1:=by
   unfold slotAt;rw[d];simp only[yc,Ub];rw[oa (by omega),WH];simp[uy,k]
  rw[f] at h;exact wpAny_pure h
theorem sW(G:ug w s.heap a o es ep t tb){Q:Option (Value×Nat)->ja->Prop}(h:Q ia s):ra (Ea prog w) A (vy a (slotAt w t es.size) es.size ep) Q E s:=by
 unfold vy;refine wpAny_bind (G.state ?_);rw[show Iu=(do return(<-ask).params.followText "set-order":Ma Bool) from rfl];refine wpAny_bind (wpAny_bind (Mn (wpAny_pure ?_)));cases b:w.params.followText "set-order" with
 |true=>
  rw[qa (show(Ea prog w).w.params.followText "set-order"=da from b)];simp only[qr,yc,Ub];refine wpAny_bind (G.vO (wpAny_pure ?_));rw[Yo (by rw[zA];exact rb _)];exact h
 |false=>
  rw[oa (show¬(Ea prog w).w.params.followText "set-order"=da by intro z;rw[show(Ea prog w).w.params.followText "set-order"=ma from b] at z;cases z)];have c:=G.led;rw[b] at c;show ra _ _ (if(!t.plain&&decide (es.size>1))=da then _ else _) _ _ _;rw[G.pl];simp only[si,kh,yc,Ub];refine wpAny_bind ?_;show ra _ _ (if(!t.led&& !es.isEmpty)=da then _ else _) _ _ _;rw[c];simp only[Hu,si,kh,yc,Ub];refine wpAny_pure ?_;have d:t.place.size=es.size:=by rw[G.ok.Aq,<-G.ok.Bq]
  have e:aT t.place (slotAt w t es.size)=es.size:=by
   unfold slotAt;rw[b];simp only[yc,Ub];cases f:es.size with
   |zero=>
    rw[qa rfl];have:=(Lv G.ok.rise 0).1;omega
   |succ m=>
    rw[oa (by omega),WH];have g:t.place[m]?=ba (t.place.getD m 0):=by
     have:m< t.place.size:=by omega
     simp[uy,this]
    exact mJ G.ok.rise g
  rw[e,Yo (rb _)];exact wpAny_pure h
end
open PySem PySem.Spec PySem.W PyProof.Rows L2
section
variable{o:Obj}{ep:Nat}{t:Sa}{tq:List TQ}
theorem pq.typeIs{I:Addr}{n:Nat}(x:pq w s.heap I a t i n ep):s.TypeIs (.ref I) "set_iterator":={_,x,rfl}
theorem tZ(G:ug w s.heap a o es ep t tb){I:Addr}(x:pq w s.heap I a t i es.size ep){v:Int×Value}(b:(wk w a ep es)[i]?=ba v){Q:Option Value->ja->Prop}
  (c:∀h',pq w h' I a t (i+1) es.size ep->Nh I s.heap h'->Q (ba v.2) {s with heap:=h'}):ra (Ea prog w) A (Pg (.ref I)) Q E s:=by
 have d:s.heap.get? I=ba _:=x;unfold Pg;refine wpAny_bind (Yx (qm (name:=uf "__next__") x.typeIs Gs (Rg Gs x.typeIs AM ?_ (vP _))));unfold Builtin.«set_iterator.__next__»;refine wpAny_bind (m:=ZH "__next__" 0 _) (wpAny_pure ?_);refine wpAny_bind (cH d rfl ?_);show ra _ _ (setEntries a>>=_) _ _ _;refine wpAny_bind (ZS G.get G.dat G.ok.fits ?_);rw[oa (by simp)];show ra _ _ (vy a ((slotAt w t i:Nat):Int).toNat ((i:Nat):Int).toNat ((ep:Nat):Int).toNat>>=_) _ _ _;simp only[bu];refine wpAny_bind (W1 G b ?_);refine wpAny_bind (nu d rfl (by simp) ?_);have e:(s.heap.update I (Zq (·.setIfInBounds 0 (Qg (slotAt w t (i+1):Nat))))).get? I=ba {cls:= .type "set_iterator",data:= .fields #[.int (slotAt w t (i+1):Nat) 0,.int (i:Nat) 0,.ref a,.int (es.size:Nat) 0,.int (ep:Nat) 0]}:=by
  have:=ou (Zq (·.setIfInBounds 0 (Qg (slotAt w t (i+1):Nat)))) d (eH (Zx rfl _));rw[this];rfl
 refine wpAny_bind (nu (s:={s with heap:=s.heap.update I (Zq (·.setIfInBounds 0 (Qg (slotAt w t (i+1):Nat))))}) e rfl (by simp) ?_);have f:((s.heap.update I (Zq (·.setIfInBounds 0 (Qg (slotAt w t (i+1):Nat))))).update I (Zq (·.setIfInBounds 1 (Qg ((i:Nat)+1))))).get? I=ba {cls:= .type "set_iterator",data:= .fields #[.int (slotAt w t (i+1):Nat) 0,.int ((i+1:Nat):Int) 0,.ref a,.int (es.size:Nat) 0,.int (ep:Nat) 0]}:=by
  have:=ou (Zq (·.setIfInBounds 1 (Qg ((i:Nat)+1)))) e (eH (Zx rfl _));rw[this];rfl
 exact wpAny_pure {_,rfl,wpAny_pure (c _ f ((br ..).trans (br ..)))}
theorem iV(G:ug w s.heap a o es ep t tb)(c:A.handled=ia){I:Addr}(x:pq w s.heap I a t es.size es.size ep){Q:Option Value->ja->Prop}
  (d:∀h',QR I s.heap h'->Q ia {s with heap:=h'}):ra (Ea prog w) A (Pg (.ref I)) Q E s:=by
 have e:s.heap.get? I=ba _:=x;unfold Pg;refine wpAny_bind (Yx (qm (name:=uf "__next__") x.typeIs Gs (Rg Gs x.typeIs AM ?_ (vP _))));unfold Builtin.«set_iterator.__next__»;refine wpAny_bind (m:=ZH "__next__" 0 _) (wpAny_pure ?_);refine wpAny_bind (cH e rfl ?_);show ra _ _ (setEntries a>>=_) _ _ _;refine wpAny_bind (ZS G.get G.dat G.ok.fits ?_);rw[oa (by simp)];show ra _ _ (vy a ((slotAt w t es.size:Nat):Int).toNat ((es.size:Nat):Int).toNat ((ep:Nat):Int).toNat>>=_) _ _ _;simp only[bu];refine wpAny_bind (sW G ?_);refine wpAny_bind (nu e rfl (by simp) ?_);show ra _ _ (ay (.type "StopIteration") []>>=_) _ _ _;refine wpAny_bind ?_;simp only[ay,RR];refine wpAny_bind (wpAny_newObj_type ?_ (by size_fits));refine wpAny_bind (m:=cy _ _) (PB (a:=Kh) (by first|rfl|(simp only[cy];rfl)) ?_);refine wpAny_newObj_type ?_ (by size_fits);simp only[raiseNew];refine wpAny_bind (wpAny_handled ?_);rw[show A.in1.handled=ia from c];refine wpAny_bind (wpAny_pure (wpAny_throw ?_));refine wpAny_bind (wpAny_isInstance (T:="StopIteration") (b:=da) {_,Uc _ rfl,rfl} isSubtype_stop ?_);exact wpAny_pure (d _ (((br ..).extBut.push _).push _))
theorem ug.at_{h':Heap}(G:ug w h a o es ep t tb)(e:h'.get? a=ba o):ug w h' a o es ep t tb:=⟨e,G.ex,G.dat,G.ok,G.led,G.pl⟩
theorem M1{I:Addr}{n:Nat}(x:pq w s.heap I a t i n ep)(h:Q (.ref I) s):ra (Ea prog w) A (Gx (.ref I)) Q E s:=by
 refine OB x.typeIs UP (Rg UP x.typeIs OT ?_ (X6 _));show ra _ _ (ret (.ref I)) _ _ s;exact wpAny_pure {_,rfl,"set_iterator",_,x.typeIs,Gs.lookup,h}
theorem Q6(c:∃h,ug w h a o es ep t tb)(d:A.handled=ia)(I:Addr)(f:a≠I):
  NB prog w A I [I,a] [I] es.size (λi v=>∃e,(wk w a ep es)[i]?=ba e/\v=e.2) (λi h=>pq w h I a t i es.size ep/\h.get? a=ba o) where
 sub:=λb g=>by simp at g;simp[g]
 frame:=λi h j k l=>{l I (by simp) _ k.1,l a (by simp) o k.2}
 item:=λi s Q E m k n=>by
  obtain⟨p,c⟩:=c;have q:i< (wk w a ep es).size:=by rw[zA];exact m
  have r:(wk w a ep es)[i]?=ba (wk w a ep es)[i]:=by simp[q]
  refine tZ (c.at_ k.2) k.1 r λj u x=>?_;exact n _ j s.toks {_,r,rfl} {u,(x.2 a f).trans k.2} λb y g e=>(x.2 b (λz=>g (by simp[z]))).trans e
 done:=λs Q E k n=>by
  obtain⟨p,c⟩:=c;exact iV (c.at_ k.2) d k.1 λj B=>n j s.toks λb y g e=>B b y (λz=>g (by simp[z])) e
 self:=λi s Q E k n=>M1 k.1 n
theorem u6{r:Addr}{Q:Bool->ja->Prop}(a:s.TypeIs (.ref r) "set")(h:Q ma s):ra (Ea prog w) A (aa1 (.ref r)) Q E s:=by
 unfold aa1;refine wpAny_bind (MR a F.slot_set_len.lookup ?_)
 generalize c:("set.__len__":String)=id0
 wp_delta
 rw[show splitId id0=ba ("set","__len__") from by subst c;decide+kernel];subst c;refine wpAny_bind (wpAny_isInstance (T:="set") (b:=da) a (by rw[isSubtype_type];kernel_rfl) ?_);refine aa2 (λd=>absurd d (by decide)) (λ_=>?_);refine aa2 (λ_=>?_) (λd=>absurd (by decide+kernel) d);refine wpAny_bind (Sx a ?_);exact wpAny_pure h
theorem qV(b:∃h,ug w h a o es ep t tb):KdlSrc prog w "set" a a es.size (λi v=>∃e,(wk w a ep es)[i]?=ba e/\v=e.2) (λh=>h.get? a=ba o) where
 type:=λs c=>by
  obtain⟨d,b⟩:=b;exact⟨o,c,b.ex.1⟩
 there:=λh c=>{cc c,cc c}
 keep:=λh f c k=>k a (.inl rfl) o c
 notList:=by decide
 notTuple:=by decide
 hint:=λA E s Q c q=>by
  obtain⟨d,b⟩:=b;exact u6 ⟨o,c,b.ex.1⟩ q
 iter:=λA s g c=>by
  obtain⟨d,j⟩:=id b;exact{_,_,λE Q q=>pU (j.at_ c) q,Q6 b g s.heap.objs.size (Kd (cc c)),Uc _ rfl,Qb _ c}
theorem N5{R:List Value->ja->Prop}(G:ug w s.heap a o es ep t tb)(d:A.handled=ia)(f:es.size<=sizeLine)
  (h:∀(h':Heap)(tk:Nat),(∀b ob,s.heap.get? b=ba ob->h'.get? b=ba ob)->s.heap.objs.size<=h'.objs.size->R ((wk w a ep es).toList.map (·.2)) {s with heap:=h',toks:=tk}):ra (Ea prog w) A (Bu (.ref a)) R E s:=by
 have g:KdlSrc prog w "set" a a es.size (λi v=>∃e,(wk w a ep es)[i]?=ba e/\v=e.2) (λh=>h.get? a=ba o):=qV {_,G};have j:=G.get;have k:=zA w a ep es;have m:∀(h':Heap)(tk:Nat)(n:Array Value)(c:Nat),(∀b ob,s.heap.get? b=ba ob->h'.get? b=ba ob)->h'.get? s.heap.objs.size=ba {cls:= .type "list",dict:=ia,data:= .seq n c,slots:=#[]}->
   WB (λi v=>∃e,(wk w a ep es)[i]?=ba e/\v=e.2) n es.size->R n.toList {s with heap:=h',toks:=tk}:=λh' tk n c p r u=>by
  have e:n.toList=(wk w a ep es).toList.map (·.2):=by
   refine O' λi=>?_;rw[Ac];by_cases z:i< es.size
   .have B:i< n.size:=by rw[u.1];exact z
    obtain⟨C,D,F⟩:=u.2 i n[i] (by simp[B]);rw[Tf,Tf,D,show n[i]?=ba n[i] by simp[B],F];rfl
   .rw[Tf,Tf,Yo (by rw[u.1];omega),Yo (by omega)];rfl
  rw[e];exact h h' tk p (Ag (cc r))
 unfold Bu;refine wpAny_bind (P' (Jn R' ?_));rw[zp S' _];show ra _ A.in1 (ZG []>>=λl=>again (.builtin "list.__iadd__" {[l,.ref a],[]})) _ _ s;refine wpAny_bind (wpAny_newObj_type (wpAny_pure {kr wH _,Jn T' ?_}));rw[zp wH _];show ra _ A.in1 (U' (.ref s.heap.objs.size) (.ref a) (.ref s.heap.objs.size)) _ _ _;have key:=kdl_extend (A:=A) (s:={s with heap:=s.heap.push {cls:= .type "list",data:= .seq ([]:List Value).toArray}})
  (R:=λ(q:xb)(H:ja)=>E4 λ(h':Heap) (tk:Nat) (I:Array Value) (J:Nat)=>A5 (q= .ok (.ret (.ref s.heap.objs.size))) (H={s with heap:=h',toks:=tk}) ((∀b ob,s.heap.get? b=ba ob->h'.get? b=ba ob)) (h'.get? s.heap.objs.size=ba {cls:= .type "list",dict:=ia,data:= .seq I J,slots:=#[]}) (WB (λi v=>∃e,(wk w a ep es)[i]?=ba e/\v=e.2) I es.size))
  g d (Qb _ j) s.heap.objs.size (fm (cc j)) (fm (cc j)) (.ref s.heap.objs.size) 0 (Uc _ rfl)
  (λh' tk I J p K u=>{h',tk,I,J,rfl,rfl,λb ob e=>p b ob (Kd (cc e)) (Qb _ e),K,u}) f
 refine jh key (λL H x=>?_) λe H x=>?_
 .cases L with
  |done ff=>
   obtain⟨h',tk,I,J,e,rfl,p,K,u⟩:=x;cases e;show ra _ A (load s.heap.objs.size>>=_) _ _ _;exact wpAny_bind (wpAny_load K (wpAny_pure (m h' tk I J p K u)))
  |again M=>
   refine{x.1,Pq x.2 λq N y=>?_};obtain⟨h',tk,I,J,rfl,rfl,p,K,u⟩:=y;show ra _ A (load s.heap.objs.size>>=_) _ _ _;exact wpAny_bind (wpAny_load K (wpAny_pure (m h' tk I J p K u)))
 .obtain⟨_,_,_,_,O,_⟩:=x;cases O
end
open PyProof.Rows.G (tupKindC tupKeyC KeepsTups tupC_ltAt tupKeys isTupObj)
def aj(P:Va)(w:Pa)(a:Addr)(tq:List TQ):HO:= .ext λh=>∃o es ep t tb,ug w h a o es ep t tb/\tb.map (·.2)=tq.map (ent P w)/\(tq.map (·.1)).Nodup
theorem RJ{o:Obj}{ep:Nat}{t:Sa}{b:List TQ}(G:zc P w h a o es ep t tb b):Cd P w H h a (aj P w a b):=by
 refine{⟨o,es,ep,t,tb,G.wS,G.el,G.nd⟩,⟨o,G.get⟩,λc d x k=>?_};obtain⟨o,es,ep,t,tb,G,r⟩:=x;exact{o,es,ep,t,tb,G.at_ (k _ G.get),r}
def fj(H:Hp)(tq:List TQ):Prop:=∀p∈tq,H p.2=ba (.tup (txt p.1))
theorem fj.same{a:Hp}{b:List TQ}(h:fj H b)(s:ka H a):fj a b:=λp c=>s _ _ (h p c)
theorem UI(I:Inv X pins σ H s){t:Text}{q:Addr}(h:H q=ba (.tup (txt t))):Rc s.heap t q:=by
 obtain⟨a,r,⟨o,b,c,n,hd⟩,d⟩:=I.tuple (Ba.of h);exact⟨o,a,n,b,c,hd,r⟩
theorem RF(I:Inv X pins σ H s){b:List TQ}(h:H a=ba (aj X.prog X.w a b))(c:fj H b):∃o es ep t tb,zc X.prog X.w s.heap a o es ep t tb b:=by
 obtain⟨⟨o,es,ep,t,tb,G,d,e⟩,_⟩:=(show Cd X.prog X.w H s.heap a (aj X.prog X.w a b) from I.vb a _ h);exact{o,es,ep,t,tb,G.get,G.ex,G.dat,G.ok,d,λp f=>UI I (c p f),e,G.led,G.pl}
inductive LN(P:Va)(w:Pa)(vs:List V)(H:Hp)(Q:VK):Prop|mk:∀d x,vs=[.ref d]->DictAt H d x->x.length<=1000->(∀a tq,H a=ia->fj H tq->tq.length<=1000->(∀u,u∈tq.map (·.1)↔u∈x.map (·.1))->Q (.ref a) (upd H a (aj P w a tq)))->LN P w vs H Q
theorem RN(a:X.A.units+64< Wc):cg X (.type "set") (LN X.prog X.w):=by
 intro c s σ H vs us Q I r h;obtain⟨d,x,rfl,⟨g,hd,i⟩,j,q⟩:=h;rw[yb.Ml r];obtain⟨k,l,xs,m,o,n,t,v,w,y,A,B⟩:=(show Cd X.prog X.w H s.heap d (.dT g) from I.vb d _ hd);clear k B;have C:∃E:List TQ,n.toList.map (λe=>(e.hash,e.key))=E.map (ent X.prog X.w)/\E.map (·.1)=x.map (·.1)/\fj H E:=by
  rw[A,yd];clear A hd j q
  induction m generalizing x with
  |nil=>
   cases i;exact{[],rfl,rfl,λp F=>absurd F Al}
  | @cons p1 G l1 l2 J _ K=>
   cases i with
   | @cons _ f _ L M N=>
    obtain⟨E,O,P,R⟩:=K L N;refine{(f.1,G.2.1)::E,?_,?_,λp F=>?_}
    .rw[Nb,Nb,O]
     congr 1
     show((Jq (ah X.prog X.w)).hash G.1,Bb G.2.1)=(HK X.prog X.w f.1,Bb G.2.1);rw[<-J.1,M.1];rfl
    .rw[Nb,Nb,P]
    .rcases jc.mp F with z|z
     .rw[z];show H G.2.1=ba (.tup (txt f.1));rw[<-Xe,<-M.1];exact J.2.1
     .exact R p z
 obtain⟨E,O,P,R⟩:=C;have hdl:E.length=x.length:=by
  have:=wc He P;rw[Na,Na] at this;exact this
 have D:Mr X.prog X.w s.heap d o n t E:={v,w,y,l,O,λp F=>UI I (R p F),by omega};refine JV (by omega) D λh' o' es' ep' t' tb' S hk T U=>?_;have V:∀b u,s.heap.get? b=ba u->h'.get? b=ba u:=λb u e=>hk b u (cc e) e;have W:fj H S:=λp F=>by
  rcases U.1 p F with z|z
  .exact absurd z Al
  .exact R p z
 have Y:∀u,u∈S.map (·.1)↔u∈x.map (·.1):=λu=>by
  rw[U.2 u,P];simp
 have Z:S.length<=1000:=by
  have:=T.nd.length_le_of_subset (l₂:=x.map (·.1)) λu a=>(Y u).mp a;rw[Na,Na] at this;omega
 exact{.ref s.heap.objs.size,upd H s.heap.objs.size (aj X.prog X.w s.heap.objs.size S),I.laid (t':=s.toks) V (rb _) (RJ T),rfl,q _ _ (I.vb.fresh (rb _)) W Z Y}
inductive dQ(P:Va)(w:Pa)(x:V)(y:V)(H:Hp)(Q:VK):Prop|mk:∀a b ta tb,x= .ref a->y= .ref b->H a=ba (aj P w a ta)->H b=ba (aj P w b tb)->a≠b->fj H ta->fj H tb->ta.length<=1000->tb.length<=1000->(∀c tq,H c=ia->fj H tq->tq.length<=2000->(∀u,u∈tq.map (·.1)↔u∈ta.map (·.1)\/u∈tb.map (·.1))->(tq.map (·.1)).Nodup->Q (.ref c) (upd H c (aj P w c tq)))->dQ P w x y H Q
theorem c5(c:X.A.units+64< Wc):zd X (rj .BitOr) (dQ X.prog X.w):=by
 intro d s f H x y v u Q I g i h;obtain⟨a,b,j,k,rfl,rfl,l,m,n,r,w,z,A,q⟩:=h;cases g;cases i;obtain⟨o,B,C,t,D,E⟩:=RF I l r;obtain⟨F,eb,G,J,K,L⟩:=RF I m w;refine Z3 E L n (by omega) z A λM o' N O P R S T U V=>?_;have W:∀b u,s.heap.get? b=ba u->M.get? b=ba u:=λb u e=>T b u (cc e) e;have Y:S.length<=2000:=by
  have:=U.nd.length_le_of_subset (l₂:=j.map (·.1)++k.map (·.1)) λu c=>Pe.mpr ((V.2 u).mp c);rw[wd,Na,Na,Na] at this;omega
 exact{.ref s.heap.objs.size,upd H s.heap.objs.size (aj X.prog X.w s.heap.objs.size S),I.laid (t':=s.toks) W (rb _) (RJ U),rfl,
  q _ _ (I.vb.fresh (rb _)) (λp Z=>(V.1 p Z).elim (r p) (w p)) Y V.2 U.nd}
inductive cQ(P:Va)(w:Pa)(vs:List V)(H:Hp)(Q:VK):Prop|mk:∀a tq,vs=[.ref a]->H a=ba (aj P w a tq)->fj H tq->(∀p∈tq,p.1≠[])->tq.length<=2000->Es H (tq.map (·.1)) Q->cQ P w vs H Q
theorem RY(I:Inv X pins σ H s){Q:VK}{ps:List Addr}{a:List Text}(c:Wb H ps ts)(d:ts.Perm a)(hz:ts.length<=2000)(q:Es H a Q){h':Heap}{tk:Nat}{D:Addr}{n:Nat}{st':Ha}(f:(zb st').Perm (Td (ps.map Bb)))
  (g:yj (tupKindC s.heap Ve) (zb st') (Td (ps.map Bb)).size) (h:∀b o,s.heap.get? b=ba o->h'.get? b=ba o) (i:s.heap.objs.size<=D) (j:h'.get? D=ba (nh "list" ((zb st').map (·.2)) n)):
  EP X pins σ Q (.ref D) {s with heap:=h',toks:=tk}:=by
 obtain⟨k,e,l,m,p,r⟩:=FL I c f g;rw[e] at j;have t:=c.len;exact{.ref D,upd H D (.lst (k.map V.ref)),I.laid (t':=tk) h i {by rw[Na];exact Ag (Aw (by omega)),k.map Bb,n,gD k,j},rfl,q k _ D (p.trans d) r m (I.vb.fresh i)}
theorem WO:∀{l:List TQ},fj H l->Wb H (l.map (·.2)) (l.map (·.1))
 |[],_=> .nil
 |p::l,h=> .cons (h p (by simp)) (WO λq a=>h q (by simp[a]))
theorem nZ(b:X.calm=da):cg X (.builtin "sorted") (cQ X.prog X.w):=by
 intro c s σ H d us Q I r h;obtain⟨a,g,rfl,i,j,l,hz,q⟩:=h;rw[yb.Ml r];obtain⟨o,m,u,t,tb,G⟩:=RF I i j;obtain⟨w,x,y⟩:=Wu (f:=ent X.prog X.w) (eJ X.w a u m) g G.dG;have z:fj H w:=λp A=>j p (x.mem_iff.mp A);have B:=WO z;have C:∀t∈w.map (·.1),t≠[]:=λt E=>by
  obtain⟨f,hf,e⟩:=Mb.mp E;subst e;exact l f (x.mem_iff.mp hf)
 obtain⟨fs,E⟩:=yA I B C;have F:=x.length_eq;have J:((w.map (·.2)).map Bb).length<=sizeLine:=by
  rw[Na,Na];exact Ag (Aw (by omega))
 have K:m.size<=sizeLine:=by
  have h1:=G.len;have L:=G.ok.Bq;exact Ag (Aw (by omega))
 have M:(wk X.w a u m).toList.map (·.2)=(w.map (·.2)).map Bb:=by
  rw[y,yd,yd];rfl
 refine HT.Lz (κ:=tupKindC s.heap Ve) (kd:=lr da) (vs:=(w.map (·.2)).map Bb) (λR N=>?_) (tupKeys λv O=>?_) (λP k=>tupC_ltAt (s:=P) da k) (λL _ _ P _ k S=>oS (s:=P) (by rw[pS E];omega) (qS k E) S) J
  (λT U D n st' A V W hD Y=>RY I B (x.map (·.1)) (by rw[Na];omega) q A V W hD Y)
 .refine N5 G.wS (I.ok.hd b) K λT U W Z=>?_;rw[M];exact N T U W Z
 .obtain⟨p,A,e⟩:=Mb.mp O;subst e;exact{_,Uw I (Jr B A)}
structure eO(K:xa)(mg:Str->Option Value):Prop where
 RW:∃r,bc mg "GONE" (.ref r)/\∀H:Hp,Ba K H r (txt [45,32])
 SV:∃r,bc mg "NEW" (.ref r)/\∀H:Hp,Ba K H r (txt [43,32])
 iY:∃r,bc mg "UNLIKE" (.ref r)/\∀H:Hp,Ba K H r (txt [126,32])
 set:mg "set"=ia
theorem jU(x y:List Ent)(p:Text):(df x y p).length<=1:=by
 unfold df;cases look x p<;>cases look y p<;>simp;split<;>simp
theorem xU{y:List Ent}{p:Text}(h:ts[i]?=ba p):(ts.take (i+1)).flatMap (df x y)=(ts.take i).flatMap (df x y)++df x y p:=by
 rw[ni,h,Option.toList_some,Du];simp
theorem QL(x y:List Ent):∀ts:List Text,(ts.flatMap (df x y)).length<=ts.length
 |[]=>rb _
 |t::ts=>by
  rw[Eu,wd,Oc];have:=QL x y ts;have:=jU x y t;omega
theorem ON(x y:List Ent):∀ts:List Text,(∀t∈ts,t.length<=96)->(Hd (ts.flatMap (df x y))).length<=100*ts.length
 |[],_=>rb _
 |t::ts,h=>by
  have a:=ON x y ts λu b=>h u (by simp[b]);have c:=h t (by simp);have e:(Hd ((t::ts).flatMap (df x y))).length=(Hd (df x y t)).length+(Hd (ts.flatMap (df x y))).length:=by
   unfold Hd;rw[Eu,Du,wd]
  have d:(Hd (df x y t)).length<=100:=by
   unfold df;cases look x t<;>cases look y t<;>simp[Hd]
   .omega
   .omega
   .split
    .simp
    .simp;omega
  rw[e,Oc];omega
inductive UC(K:xa)(x:V)(y:V)(H:Hp)(Q:VK):Prop|mk:∀a b t u,x= .ref a->y= .ref b->Ba K H a (txt t)->Ba K H b (txt u)->t≠[]->u≠[]->t.length+u.length<=sizeLine->(∀p H',ka H H'->H' p=ba (.tup (txt (t++u)))->Q (.ref p) H')->UC K x y H Q
theorem FC:zd X (rj .Add) (UC X.K):=by
 intro c s d H x y v u Q I f g h;obtain⟨a,b,t,w,rfl,rfl,i,j,k,l,m,q⟩:=h;exact Ry c s d H _ _ v u Q I f g {a,b,txt t,txt w,rfl,rfl,i,j,by rw[gc,gc];exact m,λe=>absurd (Ak (a:=t) (b:=[]) e) k,λe=>absurd (Ak (a:=w) (b:=[]) e) l,λ_ _ p n=>q p _ (Qa n) (by rw[wa,Dk])}
abbrev VU:List Str:=["tree","other","marked","path"]
theorem bZ(G:GF K mg "differences" yP ["tree","other"])(T:ig K mg C)(T2:eO K mg)(T3:Uk K mg)(h1:Aa P w K mg base 1 "in_lines" Vn):Aa P w K mg base 5 "differences" (kz C):=by
 obtain⟨rg,hg1,hg2⟩:=T2.RW;obtain⟨rn,hn1,hn2⟩:=T2.SV;obtain⟨ru,hu2,hu3⟩:=T2.iY;refine G.go (N:=VU) ?_;rintro f cdv A outer s H vs Q E nd hr X D ⟨tp,d,x,q,g,y,rfl,Tr,hx,Ty,hy,k⟩;have hu:=hr.units;have h:=ei hr;refine⟨_,Ga (nc (i:=2) (ic pa))
  (Ga (Ji qi rfl (Ug (Cc (nZ rfl) (by rfl) T3.sorted (by rfl) (la (Fc (c5 hu) (Ij (RN hu) (by rfl) T2.set (by rfl) (la (vc (pv 0) rfl) pa)) (Ij (RN hu) (by rfl) T2.set (by rfl) (la (vc (pv 1) rfl) pa))) pa))) (Md (i:=3))
   (Ca (Lb (Ck (Rt h (pv 3) (vc (pv 1) rfl))) (Ca (vi (di Ri xm ym Nk (pv 2) (la (Fc FC (Wa hg1) (pv 3)) pa))))
    (Ca (Lb (Ck (Rt h (pv 3) (vc (pv 0) rfl))) (Ca (vi (di Ri xm ym Nk (pv 2) (la (Fc FC (Wa hn1) (pv 3)) pa))))
     (Ca (Lb (fc (yx hu) (qk h (vc (pv 0) rfl) (pv 3) (λ_ _=>rfl)) (qk h (vc (pv 1) rfl) (pv 3) (λ_ _=>rfl)) (Yb _)) (Ca (vi (di Ri xm ym Nk (pv 2) (la (Fc FC (Wa hu2) (pv 3)) pa)))) Ob)))))))
  (Ca (Oa (Fc dj (ic (la Sb pa)) (Ya h1 hr (la (pv 2) pa)))))),?_⟩
 refine{Pd _,λl hl=>?_};have s0:=Qa (o:=HO.lst []) hl;obtain⟨⟨dx,hp1⟩,Dx⟩:=Tr.same s0;refine{_,rfl,tp,C,dx,ff d,.ref d,rfl,hp1,T.cl,T.nF,Me d,d,x,rfl,Dx,hx.n,λa ta ha hta hla hma=>?_};have s1:=Qa (o:=aj P w a ta) ha;obtain⟨⟨dy,hq1⟩,Dy⟩:=(Ty.same s0).same s1;refine{_,rfl,q,C,dy,ff g,.ref g,rfl,hq1,T.cl,T.nF,Me g,g,y,rfl,Dy,hy.n,λb tb hb htb hlb hmb=>?_};have s2:=Qa (o:=aj P w b tb) hb;have hab:a≠b:=de wa hb;refine{a,b,ta,tb,rfl,rfl,by rw[Ja hab];exact wa,wa,hab,(hta.same s1).same s2,htb.same s2,hla,hlb,λc tc hc htc hlc hmc hnc=>?_};have s3:=Qa (o:=aj P w c tc) hc;have j:∀u,u∈tc.map (·.1)↔u∈x.map (·.1)\/u∈y.map (·.1):=λu=>by rw[hmc u,hma u,hmb u]
 have h96:∀u∈tc.map (·.1),u≠[]/\u.length<=96:=λu hu=>by
  rcases(j u).mp hu with z|z
  .obtain⟨f,hf,rfl⟩:=Mb.mp z;exact{hx.ne f hf,hx.sq f hf}
  .obtain⟨f,hf,rfl⟩:=Mb.mp z;exact{hy.ne f hf,hy.sq f hf}
 refine{c,tc,rfl,wa,htc.same s3,λp hp=>(h96 p.1 (Mb.mpr ⟨p,hp,rfl⟩)).1,hlc,λqs n m r hpw tq hm=>?_};have s4:=Qa (o:=HO.lst (qs.map V.ref)) hm;have s04:ka H _:=s0.trans (s1.trans (s2.trans (s3.trans s4)));have hl4:=s4 _ _ (s3 _ _ (s2 _ _ (s1 _ _ (show upd H l (.lst []) l=ba (.lst []) from wa))));have hlm:l≠m:=de (s3 _ _ (s2 _ _ (s1 _ _ (show upd H l (.lst []) l=ba (.lst []) from wa)))) hm;have hmn:H m=ia:=s0.free (s1.free (s2.free (s3.free hm)));have tq4:=tq.Xa (ka.Xa s4);have hql:=tq.len;have htl:n.length<=2000:=by
  have:=r.length_eq;rw[Na] at this;omega
 refine⟨m,rfl,{_,Ia.of wa},sk (Wg (K:=K) (a:=m) (qs.map V.ref)) (λi σ B=>∃v F,σ=[ba (.ref tp),ba (.ref q),ba (.ref l),v]/\ka H B/\B m=ba (.lst (qs.map V.ref))/\Wb B qs n/\B l=ba (.lst (F.map V.ref))/\Wb B F ((n.take i).flatMap (df x y)))
  {ia,[],rfl,s04,wa,tq4,hl4,.nil} (λi σ B _ ⟨_,_,_,_,h4,_⟩=>Ia.of h4) ?_ ?_⟩
 .rintro i v σ H5 hi hv ⟨v0,F,rfl,s5,hm5,I,J,L⟩;rw[Ac] at hv;obtain⟨p0,hp0,rfl⟩:=Ie.mp hv;obtain⟨p,hp,hqp⟩:=Wb.get I hp0;have hpm:=h96 p (r.mem_iff.mp (vd hp));have hlt:F.length< sizeLine:=by
   have h2:=L.len;have h3:=QL x y (n.take i);rw[rd] at h3;exact Aw (by omega)
  obtain⟨⟨dy5,hq5⟩,kvy,M,eny⟩:=Ty.same s5;obtain⟨⟨dx5,hp5⟩,kvx,hdx5,enx⟩:=Tr.same s5;have O:H5 p0=ba (.tup ((key p).map kV)):=by rw[Xe];exact hqp
  have R:=xU (x:=x) (y:=y) hp;have app:∀(rc:Addr)(cs:Text),(∀H:Hp,Ba K H rc (txt cs))->cs.length=2->df x y p=[cs++p]->∀H6,ka H5 H6->
    ∀D:Ends,(∀S B,(∃v F,S=[ba (.ref tp),ba (.ref q),ba (.ref l),v]/\ka H B/\B m=ba (.lst (qs.map V.ref))/\Wb B qs n/\B l=ba (.lst (F.map V.ref))/\Wb B F ((n.take (i+1)).flatMap (df x y)))->D.nx S B)->
    oN (AF K "list" DD (Ua 2) (Kb (Vc (UC K) (tC (.ref rc)) (Ua 3)) Xb)) D [ba (.ref tp),ba (.ref q),ba (.ref l),ba (.ref p0)] H6:=λrc cs hrc hcs hdl H6 s6 D hD=>by
   refine{_,rfl,.inl {rfl,_,Ia.of (s6 _ _ J)},_,rfl,rc,p0,cs,p,rfl,rfl,hrc H6,Ba.of (s6 _ _ hqp),(λe=>by rw[e] at hcs;cases hcs),hpm.1,Xf (by omega),λp7 H7 s7 hp7=>?_};have U:=s6.trans s7;refine{l,_,_,rfl,rfl,U _ _ J,by rw[Na];exact hlt,hD _ _ {_,F++[p7],rfl,Zg (s5.trans U) hl,by rw[Ja (Gc hlm)];exact U _ _ hm5,(I.Xa (ka.Xa U)).Xa (Wl (U _ _ J)),?_,?_}}
   .rw[wa,vf];rfl
   .rw[R,hdl];exact((L.Xa (ka.Xa U)).snoc hp7).Xa (Wl (U _ _ J))
  refine{_,rfl,_,rfl,q,C,dy5,ff g,.ref g,rfl,hq5,T.cl,T.nF,Me g,g,_,rfl,yg.tt (k:=key p) M O,_,rfl,?_};rcases Mj (q:=p) eny with⟨h5,h6⟩ |⟨W,ay5,h5,h6,h7⟩
  .rw[h6];refine wg (app rg [45,32] hg2 rfl ?_ H5 (ka.refl _) _ λS B z=>z);rcases Mj (q:=p) enx with⟨g5,g6⟩ |⟨Y,ax5,g5,g6,g7⟩
   .exfalso;rcases(j p).mp (r.mem_iff.mp (vd hp)) with z|z
    .obtain⟨f,hf,e⟩:=Mb.mp z;have:=Fj hx.nd hf;rw[e,g5] at this;cases this
    .obtain⟨f,hf,e⟩:=Mb.mp z;have:=Fj hy.nd hf;rw[e,h5] at this;cases this
   .unfold df;rw[g5,h5]
  .rw[h6];refine bj {_,rfl,_,rfl,tp,C,dx5,ff d,.ref d,rfl,hp5,T.cl,T.nF,Me d,d,_,rfl,yg.tt (k:=key p) hdx5 O,_,rfl,?_};rcases Mj (q:=p) enx with⟨g5,g6⟩ |⟨Y,ax5,g5,g6,g7⟩
   .rw[g6];refine wg (app rn [43,32] hn2 rfl ?_ H5 (ka.refl _) _ λS B z=>z);unfold df;rw[g5,h5]
   .rw[g6];refine bj {_,rfl,tp,C,dx5,ff d,.ref d,rfl,hp5,T.cl,T.nF,Me d,_,rfl,d,.ref ax5,rfl,.inr {kvx,key p,p0,.inl hdx5,rfl,O,g6.symm},_,rfl,q,C,dy5,ff g,.ref g,rfl,hq5,T.cl,T.nF,Me g,_,rfl,g,.ref ay5,rfl,.inr {kvy,key p,p0,.inl M,rfl,O,h6.symm},ax5,ay5,Y,W,rfl,rfl,Ba.of g7,Ba.of h7,_,rfl,?_};by_cases Z:Y=W
    .have hdl:df x y p=[]:=by
      unfold df;rw[g5,h5];simp only;rw[qa Z]
     have hb0:(!decide (Y=W))=ma:=by simp[Z]
     rw[hb0];refine bj {_,F,rfl,s5,hm5,I,J,?_};rw[R,hdl,sj];exact L
    .have hb0:(!decide (Y=W))=da:=by simp[Z]
     rw[hb0];refine wg (app ru [126,32] hu3 rfl ?_ H5 (ka.refl _) _ λS B z=>z);unfold df;rw[g5,h5];simp only;rw[oa Z]
 .rintro σ H5 ⟨v0,F,rfl,s5,hm5,I,J,L⟩;rw[Na,hql,Cg] at L;have hts:∀t∈n,t.length<=96:=λt ht=>(h96 t (r.mem_iff.mp ht)).2;have hbig:=ON x y n hts;refine{Lc,λl6 hl6=>?_};have s6:=Qa (o:=HO.lst [V.int 0]) hl6;refine{_,rfl,l,F,_,rfl,s6 _ _ J,L.Xa (ka.Xa s6),by omega,λH7 l7 s7 hl7 hl7'=>?_};refine{l6,l7,_,_,rfl,rfl,s7 _ _ wa,hl7',Xf (by rw[gc];simp;omega),λl8 hl8=>k _ l8 _ (s5.trans (s6.trans (s7.trans (Qa hl8)))) {n,{?_,?_},hpw,rfl} ?_}
  .exact r.nodup_iff.mpr hnc
  .exact λp=>by rw[r.mem_iff,j p]
  .rw[wa,Ym];rfl
def Iv(M:ub)(a:pk)(F:fC)(b:List fC)(e:Nn)(s':ja)(d:Nn)(s1:ja):Prop:=match d with
 | .ret r=>(match F with
  | .ret k _ _ _ c p _=>Xd M (a.goto c) p (k r) b s1 e s'
  | .gen g k _ c p=>Xd M (a.goto c) p (k (Nn.ret r).result) b (s1.setGen g .finished) e s')
 | .susp v f h i j l m=>(match splitAtGen (F::b) with
  |none=>e= .susp v f h i j l (m++F::b)/\s'=s1
  |some (pre,(g,k,c,p),n)=>Xd M (a.goto c) p (k (.yielded v)) n (s1.setGen g (Nn.susp v f h i j l (m++pre)).genState) e s')
def Hl(M:ub)(a:pk)(p:La)(g:Nat)(r:bT)(k:cT->Ma Fin)(s:ja)(e:Nn)(s':ja):Prop:=match s.gens[g]? with
 |some (.fresh c)=>(match r with
  | .send v=>(v= .none/\∃b s1,Xd M (a.wake c p) p (M.den c) [] (s.setGen g .running) b s1/\Xd M a p (k b.result) [] (s1.setGen g b.genState) e s')\/(v≠ .none/\Xd M a p (k .justStarted) [] s e s')
  | .throw x=>Xd M a p (k (.raised x)) [] (s.setGen g .finished) e s')
 |some (.suspended d _ f h i _)=>∃b s1,Xd M (a.wake f p) h (d r) i (s.setGen g .running) b s1/\Xd M a p (k b.result) [] (s1.setGen g b.genState) e s'
 |some .running=>Xd M a p (k .running) [] s e s'
 |some .finished=>Xd M a p (k .finished) [] s e s'
 |none=>True
def WI(M:ub)(b:pk)(p:La)(t:Ma Fin)(d:List fC)(s:ja)(e:Nn)(s':ja):Prop:=match d with
 |F::d=>∃i s1,Xd M (b.over (F::d)) p t [] s i s1/\Iv M b F d e s' i s1
 |[]=>match t with
  | .pure (.done f)=>e= .ret (.ok f)/\s'=s
  | .raise x=>e= .ret (.error x)/\s'=s
  | .pure (.again c)=>Xd M (b.goto c) p (M.den c) [] s e s'
  | .rule _ k=>Xd M b p (k ()) [] s e s'
  | .at j k=>Xd M b j (k ()) [] s e s'
  | .load a _ k=>∃o,s.heap.get? a=ba o/\Xd M b p (k o) [] s e s'
  | .update a _ f k=>Xd M b p (k ()) [] {s with heap:=s.heap.update a f} e s'
  | .loadIfAlive a k=>Xd M b p (k (s.heap.get? a)) [] s e s'
  | .point _ k=>Xd M b p (k ()) [] s e s'
  | .alloc o k=>Xd M b p (k s.heap.objs.size) [] {s with heap:=s.heap.push o} e s'
  | .fresh k=>Xd M b p (k s.toks) [] {s with toks:=s.toks+1} e s'
  | .ask k=>Xd M b p (k ⟨M.prog,M.w.params⟩) [] s e s'
  | .choose m n k=>Xd M b p (k (M.w.draws m (s.drawn.get m) % n)) [] {s with drawn:=s.drawn.bump m} e s'
  | .os q _ k=>Xd M b p (k (Os.step s.os q).2) [] {s with os:=(Os.step s.os q).1} e s'
  | .handled own k=>Xd M b p (k (if own then b.own else b.handled)) [] s e s'
  | .genState g k=>∃u,s.gens[g]?=ba u/\Xd M b p (k u.seen) [] s e s'
  | .stack k=>Xd M b p (k ((b.code,p)::b.below)) [] s e s'
  | .thread k=>Xd M b p (k 0) [] s e s'
  | .newGen c k=>Xd M b p (k s.gens.size) [] {s with gens:=s.gens.push (.fresh c)} e s'
  | .call c h g l k=>∃i s1,Xd M (b.enter c h p) p (M.den c) [] s i s1/\match i with
   | .ret r=>Xd M b p (k r) [] s1 e s'
   | .susp v w y z A B d=>e= .susp v w y z A B (d++[.ret k h g l b.code p []])/\s'=s1
  | .yield v g l k=>e= .susp v g l k b.code p []/\s'=s
  | .resume g r _ k=>Hl M b p g r k s e s'
  |_=>True
theorem Jo{M:ub}{a:pk}{p:La}{g:Nat}{r:bT}{l:List Value}{k:cT->Ma Fin}{e:Nn}{s':ja}:Hl M a p g r k s e s'=WI M a p (.resume g r l k) [] s e s':=rfl
theorem Tj{M:ub}{c:pk}{p:La}{t:Ma Fin}{d:List fC}{e:Nn}{s':ja}(h:Xd M c p t d s e s'):WI M c p t d s e s':=by
 cases h with
 |done|raise|yield=>exact⟨rfl,rfl⟩
 |again _ h|rule h|«at» h|update _ h|loadIfAlive h|point h|alloc h|fresh h|ask h|choose _ h|os h|handled h|stack h|thread h|newGen h=>exact h
 |load q h|genState q h=>exact{_,q,h}
 |call a b=>exact{_,_,a,b}
 |callSusp a=>exact{_,_,a,rfl,rfl}
 |resumeFresh q a _ b=>rw[<-Jo];unfold Hl;rw[q];exact .inl {rfl,_,_,a,b}
 |resumeSuspended q a _ b=>rw[<-Jo];unfold Hl;rw[q];exact{_,_,a,b}
 |resumeJustStarted q n b=>rw[<-Jo];unfold Hl;rw[q];exact .inr ⟨n,b⟩
 |resumeThrowFresh q b|resumeRunning q b|resumeFinished q b=>rw[<-Jo];unfold Hl;rw[q];exact b
 |segRet a b|segGen a b=>exact{_,_,a,b}
 |segSuspOut q a=>exact{_,_,a,by unfold Iv;rw[q];exact⟨rfl,rfl⟩}
 |segSuspGen q a _ b=>exact{_,_,a,by unfold Iv;rw[q];exact b}
theorem LD{M:ub}{c:pk}{p:La}{t:Ma Fin}{d:List fC}{e:Nn}{f:ja}(k:Xd M c p t d s e f):∀{l:Nn}{m:ja},Xd M c p t d s l m->e=l/\f=m:=by
 induction k with
 |done|raise|yield=>intro l m h;exact{(Tj h).1.symm,(Tj h).2.symm}
 |again _ _ r|rule _ r|«at» _ r|update _ _ r|loadIfAlive _ r|point _ r|alloc _ r|fresh _ r|ask _ r|choose _ _ r|os _ r|handled _ r|stack _ r|thread _ r|newGen _ r=>intro l m h;exact r (Tj h)
 |load q _ r|genState q _ r=>
  intro l m h;obtain⟨o,g,h⟩:=Tj h;rw[q] at g;cases g;exact r h
 |call _ _ i j|segRet _ _ i j|segGen _ _ i j=>
  intro l m h;obtain⟨u,v,a,b⟩:=Tj h;obtain⟨rfl,rfl⟩:=i a;exact j b
 |callSusp _ i=>
  intro l m h;obtain⟨u,v,a,b⟩:=Tj h;obtain⟨rfl,rfl⟩:=i a;exact⟨b.1.symm,b.2.symm⟩
 |segSuspOut q _ i=>
  intro l m h;obtain⟨u,v,a,b⟩:=Tj h;obtain⟨rfl,rfl⟩:=i a;unfold Iv at b;rw[q] at b;exact⟨b.1.symm,b.2.symm⟩
 |segSuspGen q _ _ _ i j=>
  intro l m h;obtain⟨u,v,a,b⟩:=Tj h;obtain⟨rfl,rfl⟩:=i a;unfold Iv at b;rw[q] at b;exact j b
 |resumeFresh q _ _ _ i j=>
  intro l m h;have h:=Tj h;rw[<-Jo] at h;unfold Hl at h;rw[q] at h;obtain⟨_,u,v,a,b⟩ |h:=h
  .obtain⟨rfl,rfl⟩:=i a;exact j b
  .exact absurd rfl h.1
 |resumeSuspended q _ _ _ i j=>
  intro l m h;have h:=Tj h;rw[<-Jo] at h;unfold Hl at h;rw[q] at h;obtain⟨u,v,a,b⟩:=h;obtain⟨rfl,rfl⟩:=i a;exact j b
 |resumeJustStarted q n _ i=>
  intro l m h;have h:=Tj h;rw[<-Jo] at h;unfold Hl at h;rw[q] at h;obtain h|h:=h
  .exact absurd h.1 n
  .exact i h.2
 |resumeThrowFresh q _ i|resumeRunning q _ i|resumeFinished q _ i=>
  intro l m h;have h:=Tj h;rw[<-Jo] at h;unfold Hl at h;rw[q] at h;exact i h
theorem TV{M:ub}{d:pk}{p:La}{g:Nat}{r:bT}{a b:cT}{e f:ja}(h:Wakes M d p g r s a e)(i:Wakes M d p g r s b f):a=b/\e=f:=by
 unfold Wakes at h i;cases j:s.gens[g]? with
 |none=>rw[j] at h;exact h.elim
 |some st=>
  rw[j] at h i;cases st with
  |fresh c=>
   cases r with
   |send v=>
    cases v with
    |none=>
     obtain⟨k,l,m,_,n,o⟩:=h;obtain⟨q,t,u,_,w,y⟩:=i;obtain⟨z,A⟩:=LD m u;subst z A;exact{n.trans w.symm,o.trans y.symm}
    |_=>exact{h.1.trans i.1.symm,h.2.trans i.2.symm}
   |throw x=>exact{h.1.trans i.1.symm,h.2.trans i.2.symm}
  |suspended B C D E F G=>
   obtain⟨k,l,m,_,n,o⟩:=h;obtain⟨q,t,u,_,w,y⟩:=i;obtain⟨z,A⟩:=LD m u;subst z A;exact{n.trans w.symm,o.trans y.symm}
  |running=>exact{h.1.trans i.1.symm,h.2.trans i.2.symm}
  |finished=>exact{h.1.trans i.1.symm,h.2.trans i.2.symm}
theorem C2{M:ub}{b:pk}{d i:α->La->ja->Prop}{j l:Value->La->ja->Prop}:∀(t:Ma α)(p:La)(s:ja),fe M b t d j p s->fe M b t i l p s->(∃a m s',d a m s'/\i a m s')\/∃e m s',j e m s'/\l e m s':=by
 intro t
 induction t with
 |pure a=>intro p s u v;rw[fe] at u v;exact .inl ⟨a,p,s,u,v⟩
 |raise e=>intro p s u v;rw[fe] at u v;exact .inr ⟨e,p,s,u,v⟩
 |unsupported _=>intro p s u v;rw[fe] at u;exact u.elim
 |finish _=>intro p s u v;rw[fe] at u;exact u.elim
 |rule _ k w=>intro p s u v;rw[fe] at u v;exact w _ p s u v
 |«at» m k w=>intro p s u v;rw[fe] at u v;exact w _ m s u v
 |load a _ k w=>
  intro p s u v;rw[fe] at u v;obtain⟨x,y,u⟩:=u;obtain⟨z,A,v⟩:=v;rw[y] at A;cases A;exact w _ p s u v
 |update a _ f k w=>intro p s u v;rw[fe] at u v;exact w _ p _ u.2 v.2
 |alloc o k w=>intro p s u v;rw[fe] at u v;exact w _ p _ u v
 |loadIfAlive a k w=>intro p s u v;rw[fe] at u v;exact w _ p _ u v
 |point _ k w=>intro p s u v;rw[fe] at u v;exact w _ p _ u v
 |register _ k w=>intro p s u v;rw[fe] at u;exact u.elim
 |fresh k w=>intro p s u v;rw[fe] at u v;exact w _ p _ u v
 |ask k w=>intro p s u v;rw[fe] at u v;exact w _ p _ u v
 |choose B n k w=>intro p s u v;rw[fe] at u v;exact w _ p _ u.2 v.2
 |os q _ k w=>intro p s u v;rw[fe] at u v;exact w _ p _ u v
 |call c h _ _ k w=>
  intro p s u v;rw[fe] at u v;obtain⟨C,D,E,u⟩:=u;obtain⟨F,G,H,v⟩:=v;obtain⟨I,J⟩:=LD E H;cases I;subst J;exact w _ p _ u v
 |handled K k w=>intro p s u v;rw[fe] at u v;exact w _ p _ u v
 |genState g k w=>
  intro p s u v;rw[fe] at u v;obtain⟨x,y,u⟩:=u;obtain⟨z,A,v⟩:=v;rw[y] at A;cases A;exact w _ p s u v
 |newGen c k w=>intro p s u v;rw[fe] at u v;exact w _ p _ u v
 |resume g r _ k w=>
  intro p s u v;rw[fe] at u v;obtain⟨C,D,E,u⟩:=u;obtain⟨F,G,H,v⟩:=v;obtain⟨I,J⟩:=TV E H;subst I J;exact w _ p _ u v
 |yield _ _ _ k w=>intro p s u v;rw[fe] at u;exact u.elim
 |stack k w=>intro p s u v;rw[fe] at u v;exact w _ p _ u v
 |fork _ k w=>intro p s u v;rw[fe] at u;exact u.elim
 |thread k w=>intro p s u v;rw[fe] at u v;exact w _ p _ u v
 |await _ _ _ _ k w=>intro p s u v;rw[fe] at u;exact u.elim
abbrev gg(k:pb)(st:Ha):Ha:=wy k (zb st) (xy st) (gallopOf st) (sr st)
abbrev Ib(Ok:Ra->Prop)(xs:Array Ra):Prop:=∀p∈xs.toList,Ok p
section
variable{M:ub}{Γ:pk}{s0:ja}{k1 k2:pb}{Ok:Ra->Prop}
abbrev Zz:Value->La->ja->Prop:=λ_ _ _=>False
def Ec(M:ub)(Γ:pk)(s0:ja)(k1 k2:pb)(Ok:Ra->Prop)(P:α->Prop)(st:Ha)(a b:StateT Ha Ma α):Prop:=
 ∀(Q:α×Ha->La->ja->Prop)(p c:La),fe M Γ (a.run (gg k1 st)) Q Zz p s0->
  fe M Γ (b.run (gg k2 st)) (λr _ s'=>s'=s0/\P r.1/\∃st',Ib Ok (zb st')/\r.2=gg k2 st'/\∃d,Q (r.1,gg k1 st') d s0) Zz c s0
theorem mf{P:α->Prop}{st:Ha}{a:α}(b:P a)(c:Ib Ok (zb st)):Ec M Γ s0 k1 k2 Ok P st (pd a) (pd a):=by
 intro Q p d h;rw[eT,Pn] at h⊢;exact⟨rfl,b,st,c,rfl,p,h⟩
theorem Ee{b:Type}{P:α->Prop}{R:b->Prop}{st:Ha}{c d:StateT Ha Ma α}{f g:α->StateT Ha Ma b}(i:Ec M Γ s0 k1 k2 Ok P st c d)(j:∀a st',P a->Ib Ok (zb st')->Ec M Γ s0 k1 k2 Ok R st' (f a) (g a)):Ec M Γ s0 k1 k2 Ok R st (c>>=f) (d>>=g):=by
 intro Q p k h;rw[fT,yy] at h⊢;refine aI M Γ _ (λr l m n=>?_) (λ_ _ _ z=>z) k s0 (i _ p k h);obtain⟨rfl,o,st',q,e,s,t⟩:=n;rw[e];exact j r.1 st' o q Q s l t
theorem bq{a:Type}{R:a->Prop}{st:Ha}{b c:Ha->StateT Ha Ma a}(h:Ec M Γ s0 k1 k2 Ok R st (b (gg k1 st)) (c (gg k2 st))):Ec M Γ s0 k1 k2 Ok R st (get>>=b) (get>>=c):=by
 intro Q p d e;rw[fT,StateT.run_get,yy,Pn] at e⊢;exact h Q p d e
theorem yw{P:PUnit->Prop}{st st':Ha}{f:Ha->Ha}(a:f (gg k1 st)=gg k1 st')(b:f (gg k2 st)=gg k2 st')(c:Ib Ok (zb st'))(d:P ⟨⟩):Ec M Γ s0 k1 k2 Ok P st (modify f) (modify f):=by
 intro Q p e h;rw[StateT.run_modify,Pn] at h⊢;rw[a] at h;exact⟨rfl,d,st',c,b,p,h⟩
theorem U8{P:PUnit->Prop}{st st':Ha}{a b:Ha}(c:a=gg k1 st')(d:b=gg k2 st')(e:Ib Ok (zb st'))(f:P ⟨⟩):Ec M Γ s0 k1 k2 Ok P st (set a) (set b):=by
 intro Q p g h;rw[StateT.run_set,Pn] at h⊢;rw[c] at h;exact⟨rfl,f,st',e,d,p,h⟩
theorem Fs{P:Unit->Prop}{st:Ha}{b:String}(c:Ib Ok (zb st))(d:P ()):Ec M Γ s0 k1 k2 Ok P st (liftM (rule b:Ma Unit)) (liftM (rule b:Ma Unit)):=by
 intro Q p f h;have e:∀x:Ha,(liftM (rule b:Ma Unit):StateT Ha Ma Unit).run x=(rule b:Ma Unit)>>=λa=>pd (a,x):=λx=>gT _ _;rw[e,yy] at h⊢;unfold rule at h⊢;rw[Ma.wp_rule] at h⊢;have h:Q ((),gg k1 st) p s0:=by
  rw[aa3,Pn] at h;exact h
 rw[aa3,Pn];exact⟨rfl,d,st,c,rfl,p,h⟩
theorem Uu{P:α->Prop}{st:Ha}{b:String}{c:StateT Ha Ma α}:Ec M Γ s0 k1 k2 Ok P st (liftM (unsupported b:Ma α)) c:=by
 intro Q p d h;have e:∀x:Ha,(liftM (unsupported b:Ma α):StateT Ha Ma α).run x=(unsupported b:Ma α)>>=λa=>pd (a,x):=λx=>gT _ _;rw[e,yy] at h;have h:False:=by
  unfold unsupported at h;rw[Ma.wp_unsupported] at h;exact h
 exact h.elim
theorem MJ{P R:α->Prop}{st:Ha}{d e:StateT Ha Ma α}(h:Ec M Γ s0 k1 k2 Ok P st d e)(f:∀a,P a->R a):Ec M Γ s0 k1 k2 Ok R st d e:=by
 intro Q p g i;refine aI M Γ _ (λr j k l=>?_) (λ_ _ _ z=>z) g s0 (h Q p g i);obtain⟨a,b,c⟩:=l;exact{a,f _ b,c}
theorem zM{a:Type}{P:a->Prop}{d e:Nat->a->StateT Ha Ma (ForInStep a)}(h:∀i b st,P b->Ib Ok (zb st)->Ec M Γ s0 k1 k2 Ok (λr=>match r with| .done c=>P c| .yield c=>P c) st (d i b) (e i b)):∀(l:List Nat)(b:a)(st:Ha),P b->Ib Ok (zb st)->Ec M Γ s0 k1 k2 Ok P st (um l b d) (um l b e)
 |[],b,st,f,g=>by
  rw[Uq,Uq];exact mf f g
 |x::l,b,st,f,g=>by
  rw[gu,gu];refine Ee (h x b st f g) λr j k m=>?_;cases r with
  |done c=>exact mf k m
  |yield c=>exact zM h l c j k m
theorem bA{a:Type}{P:a->Prop}{d e:Nat->a->StateT Ha Ma (ForInStep a)}{r:UR}{b:a}{st:Ha}(f:P b)(g:Ib Ok (zb st))(h:∀i b st,P b->Ib Ok (zb st)->Ec M Γ s0 k1 k2 Ok (λr=>match r with| .done c=>P c| .yield c=>P c) st (d i b) (e i b)):Ec M Γ s0 k1 k2 Ok P st (um r b d) (um r b e):=by
 rw[gH,gH];exact zM h _ _ _ f g
def D_(M:ub)(Γ:pk)(s0:ja)(k1 k2:pb)(Ok:Ra->Prop)(P:α->Prop)(st:Ha)(m:StateT Ha Ma α):Prop:=Ec M Γ s0 k1 k2 Ok P st m m
theorem X9{P:α->Prop}{st:Ha}{m a:StateT Ha Ma α}(e:m=a)(h:D_ M Γ s0 k1 k2 Ok P st a):Ec M Γ s0 k1 k2 Ok P st m a:=by
 rw[e];exact h
theorem t_{P:α->Prop}{st:Ha}{a:α}(b:P a)(c:Ib Ok (zb st)):D_ M Γ s0 k1 k2 Ok P st (pd a):=mf b c
theorem om{b:Type}{P:α->Prop}{R:b->Prop}{st:Ha}{m:StateT Ha Ma α}{f:α->StateT Ha Ma b}(c:D_ M Γ s0 k1 k2 Ok P st m)(d:∀a st',P a->Ib Ok (zb st')->D_ M Γ s0 k1 k2 Ok R st' (f a)):D_ M Γ s0 k1 k2 Ok R st (m>>=f):=Ee c d
theorem sm_get{a:Type}{R:a->Prop}{st:Ha}{f:Ha->StateT Ha Ma a}(e:f (gg k1 st)=f (gg k2 st))(h:D_ M Γ s0 k1 k2 Ok R st (f (gg k2 st))):D_ M Γ s0 k1 k2 Ok R st (get>>=f):=bq (X9 e h)
theorem ES{P:α->Prop}{st:Ha}{c:Prop} [Decidable c]{a b:StateT Ha Ma α}(d:c->D_ M Γ s0 k1 k2 Ok P st a)(e:¬c->D_ M Γ s0 k1 k2 Ok P st b):D_ M Γ s0 k1 k2 Ok P st (if c then a else b):=by
 by_cases h:c
 .rw[qa h];exact d h
 .rw[oa h];exact e h
def nD{β:Type}(P:β->Prop)(r:ForInStep β):Prop:=match r with
 | .done c=>P c
 | .yield c=>P c
theorem wR{a:Type}{P:a->Prop}{f:Nat->a->StateT Ha Ma (ForInStep a)}{r:UR}{b:a}{st:Ha}(c:P b)(d:Ib Ok (zb st))(h:∀i b st,P b->Ib Ok (zb st)->D_ M Γ s0 k1 k2 Ok (nD P) st (f i b)):D_ M Γ s0 k1 k2 Ok P st (um r b f):=bA c d h
def xh(M:ub)(Γ:pk)(s0:ja)(k1 k2:pb)(Ok:Ra->Prop):Prop:=∀x y:Ra,Ok x->Ok y->∃B:Bool,(∀p,fe M Γ (bI k1 x.1 y.1) (λb _ s'=>b=B/\s'=s0) Zz p s0)/\∀p,fe M Γ (bI k2 x.1 y.1) (λb _ s'=>b=B/\s'=s0) Zz p s0
theorem RA{P:Option Bool->Prop}(L:xh M Γ s0 k1 k2 Ok){st:Ha}(c:Ib Ok (zb st)){x y:Ra}(d:Ok x)(f:Ok y)(g:∀b,P (ba b)):Ec M Γ s0 k1 k2 Ok P st (lt' x y) (lt' x y):=by
 rw[lt'_eq];refine bq ?_;obtain⟨B,i,j⟩:=L x y d f;intro Q p k h;rw[fT,yy] at h⊢;have e:∀(m:Ma (Except Value Bool))(x:Ha),(liftM m:StateT Ha Ma (Except Value Bool)).run x=m>>=λa=>pd (a,x):=λm x=>gT _ _;rw[e,yy,Ma.wp_attempt] at h⊢;have l:kindOf (gg k1 st)=k1:=rfl;have n:kindOf (gg k2 st)=k2:=rfl;rw[l] at h;rw[n];have o:∃q,Q (ba B,gg k1 st) q s0:=by
  rcases C2 _ _ _ h (i p) with⟨b,q,r,s,t,u⟩ |⟨e,q,r,_,t⟩
  .subst t u;rw[Pn] at s;simp only[eT] at s;rw[Pn] at s;exact⟨q,s⟩
  .exact t.elim
 refine aI M Γ _ (λb q r v=>?_) (λ_ _ _ z=>z.elim) k s0 (j k);obtain⟨rfl,rfl⟩:=v;rw[Pn];simp only[eT];rw[Pn];exact{rfl,g _,st,c,rfl,o}
theorem bt{arr:Array Ra}(a:Ib Ok arr){st:Ha}(b:Ib Ok (zb st)):Ec M Γ s0 k1 k2 Ok Ok st (cI arr i) (cI arr i):=by
 rw[elem'_eq];cases c:arr[i]? with
 |none=>exact Uu
 |some p=>exact mf (a p (by rw[<-Tf] at c;exact vd c)) b
theorem FX(L:xh M Γ s0 k1 k2 Ok){st:Ha}(a:Ib Ok (zb st)){j:Nat}:Ec M Γ s0 k1 k2 Ok (λr=>r.isSome=da) st (dI i j) (dI i j):=by
 rw[ltAt'_eq];refine bq ?_;refine Ee (bt (arr:=zb st) a a) λx b c d=>?_;refine Ee (bt (arr:=zb st) a d) λy e f g=>?_;exact RA L g c f λ_=>rfl
abbrev tt:α->Prop:=λ_=>True
theorem JQ{xs ys:Array Ra}(h:Ib Ok ys)(p:xs.Perm ys):Ib Ok xs:=λe a=>h e ((kS.mp p).mem_iff.mp a)
theorem Y4(L:xh M Γ s0 k1 k2 Ok){st:Ha}(a:Ib Ok (zb st)){j:Nat}:Ec M Γ s0 k1 k2 Ok tt st (dI i j) (dI i j):=MJ (FX L a) λ_ _=>trivial
theorem vW{st:Ha}(a:Ib Ok (zb st)){j:Nat}:Ec M Γ s0 k1 k2 Ok tt st (aa4 i j) (aa4 i j):=by
 rw[reverseSlice'_eq];exact yw (st':=gC st (mirror (zb st) i j ((j - i) / 2))) rfl rfl (JQ a (mirror_perm _ _ _ _)) trivial
theorem r6{st:Ha}(a:Ib Ok (zb st)){j:Nat}:Ec M Γ s0 k1 k2 Ok tt st (moveDown' i j) (moveDown' i j):=by
 rw[moveDown'_eq];exact yw (st':=gC st (bubble (zb st) i (i - j))) rfl rfl (JQ a (bubble_perm _ _ _)) trivial
theorem PU(L:xh M Γ s0 k1 k2 Ok){st:Ha}(a:Ib Ok (zb st)){b n:Nat}:D_ M Γ s0 k1 k2 Ok tt st (countRun' b n):=by
 rw[countRun'_eq]
 repeat'(first|exact t_ trivial (by assumption) |exact Y4 (by assumption) (by assumption) |exact vW (by assumption) |exact r6 (by assumption) |exact Fs (by assumption) trivial|refine wR (P:=tt) trivial (by assumption) (λ_ _ _ _ _=>?_) |refine om (P:=tt) ?_ (λ_ _ _ _=>?_) |(with_reducible refine ES (λ_=>?_) (λ_=>?_)) |dsimp only|split)
theorem MX(L:xh M Γ s0 k1 k2 Ok){st:Ha}(a:Ib Ok (zb st)){b n c:Nat}:D_ M Γ s0 k1 k2 Ok tt st (binarySort' b n c):=by
 rw[binarySort'_eq]
 repeat'(first|exact t_ trivial (by assumption) |exact Y4 (by assumption) (by assumption) |exact vW (by assumption) |exact r6 (by assumption) |exact Fs (by assumption) trivial|refine wR (P:=tt) trivial (by assumption) (λ_ _ _ _ _=>?_) |refine om (P:=tt) ?_ (λ_ _ _ _=>?_) |(with_reducible refine ES (λ_=>?_) (λ_=>?_)) |dsimp only|split)
theorem z6(L:xh M Γ s0 k1 k2 Ok){st:Ha}(a:Ib Ok (zb st)){left:Bool}{key:Ra}(b:Ok key){arr:Array Ra}(c:Ib Ok arr){base:Nat}:Ec M Γ s0 k1 k2 Ok tt st (iT left key arr base i) (iT left key arr base i):=by
 unfold iT;refine Ee (bt c a) λx d e f=>?_;split
 .exact RA L f e b λ_=>trivial
 .refine Ee (RA (P:=tt) L f b e λ_=>trivial) λ_ _ _ _=>?_;exact mf trivial (by assumption)
theorem QX(L:xh M Γ s0 k1 k2 Ok){st:Ha}(a:Ib Ok (zb st)){left:Bool}{key:Ra}(b:Ok key){arr:Array Ra}(c:Ib Ok arr){base n d:Nat}:D_ M Γ s0 k1 k2 Ok tt st (zy left key arr base n d):=by
 rw[gallop'_eq]
 repeat'(first|exact t_ trivial (by assumption) |exact z6 (by assumption) (by assumption) (by assumption) (by assumption) |refine wR (P:=tt) trivial (by assumption) (λ_ _ _ _ _=>?_) |refine om (P:=tt) ?_ (λ_ _ _ _=>?_) |(with_reducible refine ES (λ_=>?_) (λ_=>?_)) |dsimp only|split)
end
class Yc(Ok:Ra->Prop)(α:Type) where
 ok:α->Prop
section
variable{Ok:Ra->Prop}
instance(priority:=high):Yc Ok Ra:=⟨Ok⟩
instance:Yc Ok Nat:=⟨λ_=>True⟩
instance:Yc Ok Bool:=⟨λ_=>True⟩
instance:Yc Ok Unit:=⟨λ_=>True⟩
instance:Yc Ok PUnit:=⟨λ_=>True⟩
instance:Yc Ok (Array Ra):=⟨Ib Ok⟩
instance [Yc Ok α]:Yc Ok (Option α):=⟨λx=>match x with|none=>True|some a=>Yc.ok Ok a⟩
instance{β:Type} [Yc Ok α] [Yc Ok β]:Yc Ok (α×β):=⟨λx=>Yc.ok Ok x.1/\Yc.ok Ok x.2⟩
theorem c8{xs:Array Ra}{x:Ra}(h:Ib Ok xs)(a:Ok x):Ib Ok (xs.push x):=λp b=>by
 rw[KS] at b;rcases Pe.mp b with z|z
 .exact h p z
 .have:p=x:=by simpa using z
  rw[this];exact a
theorem WT{xs ys:Array Ra}(h:Ib Ok xs)(a:Ib Ok ys):Ib Ok (xs++ys):=λp b=>by
 rw[aaB] at b;exact(Pe.mp b).elim (h p) (a p)
theorem Vu{xs:Array Ra}{j:Nat}(h:Ib Ok xs):Ib Ok (xs.extract i j):=λp a=>by
 rw[LS,aaC] at a;exact h p (aa5 (CS a))
theorem N2{xs:Array Ra}(h:Ib Ok xs):Ib Ok xs.reverse:=λp a=>by
 rw[Array.toList_reverse] at a;exact h p (aa6.mp a)
theorem S7{x:Ra}(a:Ok x):Ib Ok #[x]:=λp b=>by
 have:p=x:=by simpa using b
 rw[this];exact a
theorem iP:∀(l:List (Ra×Nat))(xs:Array Ra)(b:Nat),Ib Ok xs->(∀p∈l,Ok p.1)->Ib Ok (l.foldl (λa(p,j)=>a.setIfInBounds (b+j) p) xs)
 |[],xs,_,h,_=>h
 |(p,j)::l,xs,b,h,c=>by
  rw[Bm];refine iP l _ b (λq d=>?_) λq d=>c q (by simp[d]);have d:q∈(xs.setIfInBounds (b+j) p):=wB.mp d;obtain⟨i,f,e⟩:=Array.mem_iff_getElem.mp d;rw[Array.getElem_setIfInBounds (by simpa using f)] at e;split at e
  .rw[<-e];exact c (p,j) (by simp)
  .rw[<-e];have g:i< xs.size:=by simpa using f
   exact h _ (wB.mpr (R_ g))
end
section
variable{Ok:Ra->Prop}
theorem V1(n:Nat):Yc.ok Ok n:=trivial
theorem o4 [Yc Ok α]:Yc.ok Ok (ia:Option α):=trivial
theorem hZ{xs:Array Ra}(h:Ib Ok xs):Yc.ok Ok (ba xs):=h
theorem M4{xs:Array Ra}(h:Ib Ok xs):Yc.ok Ok xs:=h
theorem aZ{c:Type} [Yc Ok α] [Yc Ok c]{a:α}{b:c}(h:Yc.ok Ok a)(d:Yc.ok Ok b):Yc.ok Ok (a,b):=⟨h,d⟩
theorem mW{a:Type}{P:a->Prop}{c:a}(h:P c):nD P (.done c):=h
theorem m7{a:Type}{P:a->Prop}{c:a}(h:P c):nD P (.yield c):=h
end
local macro_rules| `(tactic|k_extra "okt")=> `(tactic|first
 |with_reducible assumption
 |with_reducible exact V1 _
 |with_reducible exact o4
 |(with_reducible refine mW ?_)<;>k_extra "okt"
 |(with_reducible refine m7 ?_)<;>k_extra "okt"
 |(with_reducible refine aZ ?_ ?_)<;>k_extra "okt"
 |(with_reducible refine hZ ?_)<;>k_extra "okt"
 |(with_reducible refine M4 ?_)<;>k_extra "okt"
 |(with_reducible refine c8 ?_ ?_)<;>k_extra "okt"
 |(with_reducible refine WT ?_ ?_)<;>k_extra "okt"
 |(with_reducible refine Vu ?_)<;>k_extra "okt"
 |(with_reducible refine N2 ?_)<;>k_extra "okt"
 |(with_reducible refine S7 ?_)<;>k_extra "okt")
section
variable{M:ub}{Γ:pk}{s0:ja}{k1 k2:pb}{Ok:Ra->Prop}
theorem ZX{st:Ha}(a:Ib Ok (zb st)){g:Nat}{P:Unit->Prop}(b:P ()):Ec M Γ s0 k1 k2 Ok P st (eI g) (eI g):=by
 rw[setMinGallop'_eq];exact yw (st':=setGallop st g) rfl rfl a b
theorem K2(L:xh M Γ s0 k1 k2 Ok){st:Ha}(b:Ib Ok (zb st)){left:Bool}{key:Ra}(c:Ok key){arr:Array Ra}(d:Ib Ok arr){base n e:Nat}:Ec M Γ s0 k1 k2 Ok (Yc.ok Ok) st (zy left key arr base n e) (zy left key arr base n e):=MJ (QX L b c d) λa _=>by cases a<;>trivial
theorem vQ{b:Type} [Yc Ok α]{R:b->Prop}{st:Ha}{c d:StateT Ha Ma (Option α)}{e f:Option α->StateT Ha Ma b}(g:Ec M Γ s0 k1 k2 Ok (Yc.ok Ok) st c d)(h:∀a st',Yc.ok Ok a->Ib Ok (zb st')->Ec M Γ s0 k1 k2 Ok R st' (e (ba a)) (f (ba a)))(i:∀st',Ib Ok (zb st')->Ec M Γ s0 k1 k2 Ok R st' (e ia) (f ia)):Ec M Γ s0 k1 k2 Ok R st (c>>=e) (d>>=f):=
 Ee g λa st' j k=>by
  cases a with
  |none=>exact i st' k
  |some a=>exact h a st' j k
theorem YX(L:xh M Γ s0 k1 k2 Ok){st:Ha}(a:Ib Ok (zb st)){x y:Ra}(b:Ok x)(c:Ok y):Ec M Γ s0 k1 k2 Ok (Yc.ok Ok) st (lt' x y) (lt' x y):=RA L a b c λ_=>trivial
theorem z9{P:α->Prop}{st:Ha}{c:Prop} [Decidable c]{a b:StateT Ha Ma α}{F:Nat->StateT Ha Ma α}(n:Nat)(e:F n=b)(key:∀n,D_ M Γ s0 k1 k2 Ok P st (F n))(hz1:(∀n,D_ M Γ s0 k1 k2 Ok P st (F n))->D_ M Γ s0 k1 k2 Ok P st a):D_ M Γ s0 k1 k2 Ok P st (if c then a else b):=ES (λ_=>hz1 key) λ_=>e▸key n
theorem A9{P:α->Prop}{st:Ha}{c:Prop} [Decidable c]{a b:StateT Ha Ma α}{F:Nat->Array Ra->StateT Ha Ma α}(n:Nat)(o:Array Ra)(d:Ib Ok o)(e:F n o=b)(key:∀n o,Ib Ok o->D_ M Γ s0 k1 k2 Ok P st (F n o))(hz1:(∀n o,Ib Ok o->D_ M Γ s0 k1 k2 Ok P st (F n o))->D_ M Γ s0 k1 k2 Ok P st a):D_ M Γ s0 k1 k2 Ok P st (if c then a else b):=ES (λ_=>hz1 key) λ_=>e▸key n o d
theorem XR{R:Type}{P:R->Prop}(L:xh M Γ s0 k1 k2 Ok){st:Ha}(b:Ib Ok (zb st)){left:Bool}{key:Ra}(c:Ok key){arr:Array Ra}(d:Ib Ok arr){base n e:Nat}{f:Option Nat->StateT Ha Ma R}(g:∀a st',Ib Ok (zb st')->D_ M Γ s0 k1 k2 Ok P st' (f (ba a)))(h:∀st',Ib Ok (zb st')->D_ M Γ s0 k1 k2 Ok P st' (f ia)):D_ M Γ s0 k1 k2 Ok P st (zy left key arr base n e>>=f):=vQ (K2 L b c d) (λa st' _ b=>g a st' b) h
theorem U9{R:Type}{P:R->Prop}(L:xh M Γ s0 k1 k2 Ok){st:Ha}(b:Ib Ok (zb st)){x y:Ra}(c:Ok x)(d:Ok y){f:Option Bool->StateT Ha Ma R}(e:∀a st',Ib Ok (zb st')->D_ M Γ s0 k1 k2 Ok P st' (f (ba a)))(g:∀st',Ib Ok (zb st')->D_ M Γ s0 k1 k2 Ok P st' (f ia)):D_ M Γ s0 k1 k2 Ok P st (lt' x y>>=f):=vQ (YX L b c d) (λa st' _ b=>e a st' b) g
theorem fH{R:Type}{P:R->Prop}{st:Ha}(b:Ib Ok (zb st)){arr:Array Ra}(c:Ib Ok arr){f:Ra->StateT Ha Ma R}(h:∀a st',Ok a->Ib Ok (zb st')->D_ M Γ s0 k1 k2 Ok P st' (f a)):D_ M Γ s0 k1 k2 Ok P st (cI arr i>>=f):=Ee (bt c b) h
theorem A_{R:Type}{P:R->Prop}{st:Ha}(b:Ib Ok (zb st)){g:Nat}{f:Unit->StateT Ha Ma R}(h:∀st',Ib Ok (zb st')->D_ M Γ s0 k1 k2 Ok P st' (f ())):D_ M Γ s0 k1 k2 Ok P st (eI g>>=f):=Ee (P:=tt) (ZX b trivial) λa st' _ b=>h st' b
local macro_rules| `(tactic|k_extra "sgm1")=> `(tactic|first
 |(with_reducible refine t_ ?_ ?_)<;>k_extra "okt"
 |(with_reducible refine ES (λ_=>?_) (λ_=>?_))
 |(with_reducible refine U9 (by assumption) ?_ ?_ ?_ (λ_ _ _=>?_) (λ_ _=>?_))<;>try(with_reducible assumption)
 |(with_reducible refine XR (by assumption) ?_ ?_ ?_ (λ_ _ _=>?_) (λ_ _=>?_))<;>try(with_reducible assumption)
 |(with_reducible refine fH ?_ ?_ (λ_ _ _ _=>?_))<;>try(with_reducible assumption)
 |(with_reducible refine A_ ?_ (λ_ _=>?_))<;>try(with_reducible assumption)
 |dsimp only)
theorem T4(L:xh M Γ s0 k1 k2 Ok){st:Ha}(d:Ib Ok (zb st)){a b:Array Ra}(e:Ib Ok a)(f:Ib Ok b):D_ M Γ s0 k1 k2 Ok (Yc.ok Ok) st (mergeLo' a b):=by
 rw[mergeLo'_eq];dsimp only
 generalize h:(λ(i:Nat)(c:Option (Array Ra)×Array Ra×Nat×Nat×Nat)=>(_:StateT Ha Ma (ForInStep _)))=F
 have hF:∀i c st,Yc.ok Ok c->Ib Ok (zb st)->D_ M Γ s0 k1 k2 Ok (nD (Yc.ok Ok)) st (F i c):=by
  subst h;clear d;intro i c j l p;obtain⟨r,q,ia,ib,mg⟩:=c;obtain⟨_,s,_⟩:=l;have s:Ib Ok q:=s;dsimp only
  generalize h:(λ(i:Nat)(c:Option (Array Ra)×Array Ra×Nat×Nat×Nat×Nat)=>(_:StateT Ha Ma (ForInStep _)))=F
  generalize t:(λ(i:Nat)(c:Option (Array Ra)×Array Ra×Nat×Nat×Nat×Nat×Nat)=>(_:StateT Ha Ma (ForInStep _)))=F2
  have u:∀i c st,Yc.ok Ok c->Ib Ok (zb st)->D_ M Γ s0 k1 k2 Ok (nD (Yc.ok Ok)) st (F i c):=by
   subst h;clear t p s;intro i c v l w;obtain⟨A,B,C,D,x4,y4⟩:=c;obtain⟨_,E,_⟩:=l;have E:Ib Ok B:=E;dsimp only
   repeat' k_extra "sgm1"
  have h3:∀i c st,Yc.ok Ok c->Ib Ok (zb st)->D_ M Γ s0 k1 k2 Ok (nD (Yc.ok Ok)) st (F2 i c):=by
   subst t;clear h u p s;intro i c G l H;obtain⟨I,J,K,N,x6,y6,z6⟩:=c;obtain⟨_,O,_⟩:=l;have O:Ib Ok J:=O;dsimp only
   apply z9 x6 rfl
   case hz1=>exact λkey=>key _
   intro g;refine A_ H λst7 Q=>?_;refine fH Q f λy st8 hy R=>?_;refine XR L R hy e (λk st9 S=>?_) (λst9 S=>t_ (by k_extra "okt") S);dsimp only
   apply A9 K J O rfl
   case hz1=>exact λkey=>ES (λ_=>t_ (by k_extra "okt") S) λ_=>ES (λ_=>t_ (by k_extra "okt") S) λ_=>key _ _ (WT O (Vu e))
   intro n o T;refine fH S f λz st10 hz U=>?_;have T:=c8 T hz
   generalize o.push z=o at T⊢
   generalize N+1=m
   refine ES (λ_=>t_ (by k_extra "okt") U) (λ_=>?_);refine fH U e λz st11 hz V=>?_;refine XR L V hz f (λk2 W X=>?_) (λW X=>t_ (by k_extra "okt") X);dsimp only
   apply A9 m o T rfl
   case hz1=>exact λkey=>ES (λ_=>t_ (by k_extra "okt") X) λ_=>key _ _ (WT T (Vu f))
   intro m o T
   repeat' k_extra "sgm1"
  clear h t;refine om (P:=Yc.ok Ok) (wR (P:=Yc.ok Ok) (by k_extra "okt") p u) λc v l w=>?_;obtain⟨A,B,C,D,x4,y4⟩:=c;obtain⟨g1,E,_⟩:=l;have E:Ib Ok B:=E;clear p s;dsimp only;cases A with
  |some A=>
   have g1:Ib Ok A:=g1;exact t_ (by k_extra "okt") w
  |none=>
   dsimp only;refine om (P:=tt) (Fs w trivial) λ_ st5 _ Y=>?_;refine om (P:=Yc.ok Ok) (wR (P:=Yc.ok Ok) (by k_extra "okt") Y h3) λc G l H=>?_;obtain⟨I,J,K,N,x6,y6,z6⟩:=c;obtain⟨f1,O,_⟩:=l;have O:Ib Ok J:=O;clear w Y g1 E;dsimp only;cases I with
   |some I=>
    have f1:Ib Ok I:=f1;exact t_ (by k_extra "okt") H
   |none=>
    dsimp only
    repeat' k_extra "sgm1"
 clear h;refine om (P:=tt) (Fs d trivial) λ_ st1 _ Z=>?_;refine om (P:=Ok) (bt f Z) λx st2 hx hs2=>?_;clear d Z;refine ES (λ_=>t_ (by k_extra "okt") (by assumption)) (λ_=>?_);refine ES (λ_=>t_ (by k_extra "okt") (by assumption)) (λ_=>?_);refine sm_get rfl ?_;refine om (P:=Yc.ok Ok) (wR (P:=Yc.ok Ok) (by k_extra "okt") hs2 hF) λc j l p=>?_;obtain⟨r,q,ia,ib,mg⟩:=c;obtain⟨u,_⟩:=l;dsimp only at u⊢;cases r with
 |some r=>exact t_ u p
 |none=>exact Uu
theorem wY(L:xh M Γ s0 k1 k2 Ok){st:Ha}(d:Ib Ok (zb st)){a b:Array Ra}(e:Ib Ok a)(f:Ib Ok b):D_ M Γ s0 k1 k2 Ok (Yc.ok Ok) st (mergeHi' a b):=by
 rw[mergeHi'_eq];dsimp only
 generalize h:(λ(i:Nat)(c:Option (Array Ra)×Nat×Nat×Array Ra×Nat)=>(_:StateT Ha Ma (ForInStep _)))=F
 have hF:∀i c st,Yc.ok Ok c->Ib Ok (zb st)->D_ M Γ s0 k1 k2 Ok (nD (Yc.ok Ok)) st (F i c):=by
  subst h;clear d;intro i c j l p;obtain⟨r,na,nb,q,mg⟩:=c;obtain⟨_,_,_,s,_⟩:=l;have s:Ib Ok q:=s;dsimp only
  generalize h:(λ(i:Nat)(c:Option (Array Ra)×Nat×Nat×Array Ra×Nat×Nat)=>(_:StateT Ha Ma (ForInStep _)))=F
  generalize u:(λ(i:Nat)(c:Option (Array Ra)×Nat×Nat×Array Ra×Nat×Nat×Nat)=>(_:StateT Ha Ma (ForInStep _)))=F2
  have v:∀i c st,Yc.ok Ok c->Ib Ok (zb st)->D_ M Γ s0 k1 k2 Ok (nD (Yc.ok Ok)) st (F i c):=by
   subst h;clear u p s;intro i c w l A;obtain⟨B,C,D,E,x4,y4⟩:=c;obtain⟨_,_,_,G,_⟩:=l;have G:Ib Ok E:=G;dsimp only
   repeat' k_extra "sgm1"
  have h3:∀i c st,Yc.ok Ok c->Ib Ok (zb st)->D_ M Γ s0 k1 k2 Ok (nD (Yc.ok Ok)) st (F2 i c):=by
   subst u;clear h v p s;intro i c H l I;obtain⟨J,K,N,O,x6,y6,z6⟩:=c;obtain⟨_,_,_,Q,_⟩:=l;have Q:Ib Ok O:=Q;dsimp only
   apply z9 x6 rfl
   case hz1=>exact λkey=>key _
   intro g;refine A_ I λst7 R=>?_;refine fH R f λy st8 hy hs8=>?_;refine XR L hs8 hy e (λt st9 S=>?_) (λst9 S=>t_ (by k_extra "okt") S);dsimp only
   generalize K - t=k
   apply A9 K O Q rfl
   case hz1=>exact λkey=>ES (λ_=>t_ (by k_extra "okt") S) λ_=>key _ _ (WT Q (N2 (Vu e)))
   intro n o T
   generalize N - 1=m
   refine fH S f λz st10 hz U=>?_;have T:=c8 T hz
   generalize o.push z=o at T⊢
   refine ES (λ_=>t_ (by k_extra "okt") U) (λ_=>?_);refine fH U e λz st11 hz V=>?_;refine XR L V hz f (λt2 W X=>?_) (λW X=>t_ (by k_extra "okt") X);dsimp only
   generalize m - t2=k2
   apply A9 m o T rfl
   case hz1=>exact λkey=>ES (λ_=>t_ (by k_extra "okt") X) λ_=>ES (λ_=>t_ (by k_extra "okt") X) λ_=>key _ _ (WT T (N2 (Vu f)))
   intro m o T
   repeat' k_extra "sgm1"
  clear h u;refine om (P:=Yc.ok Ok) (wR (P:=Yc.ok Ok) (by k_extra "okt") p v) λc w l A=>?_;obtain⟨B,C,D,E,x4,y4⟩:=c;obtain⟨g1,_,_,G,_⟩:=l;have G:Ib Ok E:=G;clear p s;dsimp only;cases B with
  |some B=>
   have g1:Ib Ok B:=g1;exact t_ (by k_extra "okt") A
  |none=>
   dsimp only;refine om (P:=tt) (Fs A trivial) λ_ st5 _ Y=>?_;refine om (P:=Yc.ok Ok) (wR (P:=Yc.ok Ok) (by k_extra "okt") Y h3) λc H l I=>?_;obtain⟨J,K,N,O,x6,y6,z6⟩:=c;obtain⟨f1,_,_,Q,_⟩:=l;have Q:Ib Ok O:=Q;clear A Y g1 G;dsimp only;cases J with
   |some J=>
    have f1:Ib Ok J:=f1;exact t_ (by k_extra "okt") I
   |none=>
    dsimp only
    repeat' k_extra "sgm1"
 clear h;refine om (P:=tt) (Fs d trivial) λ_ st1 _ Z=>?_;refine om (P:=Ok) (bt e Z) λx st2 hx hs2=>?_;clear d Z;refine ES (λ_=>t_ (by k_extra "okt") (by assumption)) (λ_=>?_);refine ES (λ_=>t_ (by k_extra "okt") (by assumption)) (λ_=>?_);refine sm_get rfl ?_;refine om (P:=Yc.ok Ok) (wR (P:=Yc.ok Ok) (by k_extra "okt") hs2 hF) λc j l p=>?_;obtain⟨r,na,nb,q,mg⟩:=c;obtain⟨v,_⟩:=l;dsimp only at v⊢;cases r with
 |some r=>exact t_ v p
 |none=>exact Uu
theorem AU(L:xh M Γ s0 k1 k2 Ok){st:Ha}(b:Ib Ok (zb st)):Ec M Γ s0 k1 k2 Ok tt st (mergeAt' i) (mergeAt' i):=by
 rw[mergeAt'_eq];refine bq ?_;dsimp only;cases c:(xy st)[i]? with
 |none=>exact Uu
 |some q=>
  cases d:(xy st)[i+1]? with
  |none=>exact Uu
  |some q2=>
   obtain⟨f,g,h⟩:=q;obtain⟨l,n,o⟩:=q2;dsimp only;refine Ee (P:=tt) (U8 (st':=setPending st (((xy st).setIfInBounds i (f,g+n,h)).eraseIdxIfInBounds (i+1))) rfl rfl b trivial) λ_ r _ t=>?_;have u:Ib Ok (zb st):=b;refine X9 rfl ?_;refine fH t u λx v w A=>?_;refine XR L A w u (λk B C=>?_) (λB C=>t_ trivial C);dsimp only;refine ES (λ_=>t_ trivial C) (λ_=>?_);refine fH C u λy D E F=>?_;refine XR L F E u (λG H I=>?_) (λH I=>t_ trivial I);dsimp only;refine ES (λ_=>t_ trivial I) (λ_=>?_);have J:∀(m:Array Ra)(K:Ha),Yc.ok Ok m->Ib Ok (zb K)->D_ M Γ s0 k1 k2 Ok tt K (do
     modify λs=>gC s (m.toList.zipIdx.foldl (λa(p,j)=>a.setIfInBounds (f+k+j) p) (zb s))
     return(sr (<-get)).isNone):=λm K N O=>by
    have N:Ib Ok m:=N;refine om (P:=tt) (yw (st':=gC K (m.toList.zipIdx.foldl (λa(p,j)=>a.setIfInBounds (f+k+j) p) (zb K))) rfl rfl (iP _ _ _ O λp Q=>?_) trivial) λ_ R _ S=>?_
    .refine N p.1 ?_;obtain⟨T,U⟩:=Cp Q;rw[List.getElem?_zipIdx] at U;obtain⟨z,V,e⟩:=Ie.mp U;rw[<-e];exact vd V
    .refine sm_get rfl ?_;exact t_ trivial S
   refine ES (λ_=>?_) (λ_=>?_)
   .exact om (T4 L I (Vu u) (Vu u)) J
   .exact om (wY L I (Vu u) (Vu u)) J
theorem L1{F:Ha->Ha}(h:∀k st,F (gg k st)=gg k (F st))(a:∀st,zb (F st)=zb st){st:Ha}(b:Ib Ok (zb st)):Ec M Γ s0 k1 k2 Ok tt st (modify F) (modify F):=
 yw (st':=F st) (h _ _) (h _ _) (by rw[a];exact b) trivial
theorem Z6(k:pb)(st:Ha):xy (gg k st)=xy st:=rfl
theorem OY(k:pb)(st:Ha):zb (gg k st)=zb st:=rfl
theorem D1(L:xh M Γ s0 k1 k2 Ok){st:Ha}(a:Ib Ok (zb st)):D_ M Γ s0 k1 k2 Ok tt st iC:=by
 rw[sortRuns'_eq]
 repeat'(first|(with_reducible refine t_ ?_ ?_)<;>(first|trivial|assumption) |exact PU (by assumption) (by assumption) |exact MX (by assumption) (by assumption) |exact AU (by assumption) (by assumption) |exact Fs (by assumption) trivial|(refine L1 ?_ ?_ (by assumption))<;>(intros;rfl) |(with_reducible refine sm_get rfl ?_);(try simp only[Z6,OY]) |(with_reducible refine ES (λ_=>?_) (λ_=>?_)) |refine wR (P:=tt) trivial (by assumption) (λ_ _ _ _ _=>?_) |(with_reducible refine om (P:=tt) ?_ (λ_ _ _ _=>?_)) |dsimp only|split)
end
open PyProof.Rows.G (tupKindC tupKeyC KeepsTups tupC_ltAt tupKeys isTupObj LtAt wpS_sortRunsSt)
theorem Ew:∀{t:Text}{its:List Value},yb (txt t) its->mm its (t.map λn=>((n:Nat):Int))
 |[],_,r=>by
  cases r;exact .nil
 |x::t,_,r=>by
  rw[vo] at r;cases r with
  |cons h q=>
   obtain⟨a,rfl⟩:=h;exact .cons _ _ (Ew q)
theorem CF:∀a b:Text,HT.lexLt (a.map λn=>((n:Nat):Int)) (b.map λn=>((n:Nat):Int))=Si a b
 |[],[]=>rfl
 |[],_::_=>rfl
 |_::_,[]=>rfl
 |x::a,y::b=>by
  rw[Nb,Nb,HT.JM,CF a b];show _=(decide (x< y)||(x==y&&Si a b));by_cases h:x=y
  .subst h;simp
  .have c:¬((x:Int)=(y:Int)):=by omega
   rw[oa c,lp h,kh,su];exact mh.mpr (by omega)
inductive DE(s:ja)(p:Ra):Prop|mk:∀t q,p.1= .ref q->Rc s.heap t q->DE s p
theorem Rc.key{t:Text}{q:Addr}(x:Rc s.heap t q):tupKeyC s.heap Ve (.ref q)=ba (Aj t):=by
 obtain⟨o,a,n,b,c,hd,r⟩:=x;unfold tupKeyC;have d:isTupObj s.heap (.ref q)=da:=by simp[isTupObj,b,c]
 rw[qa d];simp only[tupKey,b,hd];exact fF t 0 _ r
theorem Rc.isTup{t:Text}{q:Addr}(x:Rc s.heap t q):∃its:List Value,yb (txt t) its/\qj s.heap q its.toArray:=by
 obtain⟨o,its,n,a,b,hd,r⟩:=x;exact⟨its,r,o,a,b,n,hd⟩
theorem hY{t u:Text}{q p:Addr}(x:Rc s.heap t q)(y:Rc s.heap u p)(a:A.units< Wc){Q:Bool->ja->Prop}(h:Q (Si t u) s):ra (Ea prog w) A (bI Ay (.ref q) (.ref p)) Q E s:=by
 obtain⟨b,c,d⟩:=x.isTup;obtain⟨e,f,g⟩:=y.isTup;show ra _ _ (oneLt' ma (.ref q) (.ref p)) _ _ _;rw[oneLt'_eq];simp only[yc,Ub];refine wpAny_bind (HT.L8 d g (by simpa using Ew c) (by simpa using Ew f) a ?_);rw[CF];exact il h
theorem J3{t u:Text}{q p:Addr}(x:Rc s.heap t q)(y:Rc s.heap u p)(a:A.units< Wc){Q:Bool->ja->Prop}(h:Q (Si t u) s):ra (Ea prog w) A (bI By (.ref q) (.ref p)) Q E s:=by
 obtain⟨⟨b,c,d,e⟩,f,n,g,i,hd,j⟩:=id x;obtain⟨⟨k,l,data2,m⟩,o,r,v,z,B,C⟩:=id y;simp only at i hd z B;subst i hd z B;rw[keyLt'_oneType,oneLt'_eq];simp only[Ld];refine wpAny_bind (wpAny_cRoomFor_or (.inr a) ?_);refine wpAny_bind (wpAny_callSpecialIfBound?_slot x.typeIs mR (eu mR x.typeIs V9 (W9 _ _)
  (HT.gO q p f.toArray o.toArray n r c l e m _ _ (by simpa using Ew j) (by simpa using Ew C)) {g,v,?_}))
 rw[CF];exact il h
theorem M6{kd:pb}(a:kd=Ay\/kd=By){c:pk}(d:c.In A)(f:A.units< Wc):xh (Ea prog w) c s (lr da) kd (DE s):=by
 rintro⟨g,h⟩ ⟨i,j⟩ ⟨t,q,rfl,x⟩ ⟨u,p,rfl,y⟩;refine{Si t u,λk=>?_,λk=>?_}
 .have l:LtAt prog w s (tupKindC s.heap Ve) (lr da):=tupC_ltAt (s:=s) da (λb o e _=>e);have:=l A (λ_ _=>False) (.ref q) (.ref p) (Aj t) (Aj u) (Q:=λb m=>b=Si t u/\m=s) x.key y.key {YE t u,rfl};exact this c k d
 .rcases a with rfl|rfl
  .exact hY (E:=λ_ _=>False) x y f (Q:=λb m=>b=Si t u/\m=s) ⟨rfl,rfl⟩ c k d
  .exact J3 (E:=λ_ _=>False) x y f (Q:=λb m=>b=Si t u/\m=s) ⟨rfl,rfl⟩ c k d
open PyProof.Rows.G (tupKindC tupKeyC KeepsTups tupC_ltAt tupKeys isTupObj LtAt wpS_sortRunsSt SInv sortHeap6 keeps_sort6)
theorem PZ{kd:pb}(a:kd=Ay\/kd=By)(c:A.units< Wc){vs:List Value}(d:∀v∈vs,∃t q,v=Bb q/\Rc s.heap t q)(f:2<=vs.length){Q:Unit->Ha->Prop}
  (h:∀st',(zb st').Perm (Td vs)->sr st'=ia->yj (tupKindC s.heap Ve) (zb st') (Td vs).size->Q () st'):wpS (Ea prog w) A E s iC Q (wy kd (Td vs) #[] 7 ia):=by
 intro g p i;have j:KeysOf (tupKindC s.heap Ve) (Td vs):=tupKeys λv k=>by
  obtain⟨t,q,rfl,x⟩:=d v k;exact{_,x.key}
 have l:Ib (DE s) (Td vs):=λe m=>by
  rw[lS] at m;have:=DB m;obtain⟨t,q,n,x⟩:=d e.1 this.1;exact⟨t,q,n,x⟩
 have u:=wpS_sortRunsSt (prog:=prog) (w:=w) (A:=A) (E:=λ_ _=>False) (s:=s) (κ:=tupKindC s.heap Ve) (kd:=lr da) (a₀:=Td vs) (st:=wy (lr da) (Td vs) #[] 7 ia)
  (Q:=λ_ st'=>(zb st').Perm (Td vs)/\sr st'=ia/\yj (tupKindC s.heap Ve) (zb st') (Td vs).size)
  (tupC_ltAt (s:=s) da (λb o e _=>e)) j {Array.Perm.refl _,rfl,rfl} rfl (Stable.refl _) (by rw[mS];exact f) λst' y B C D=>⟨y,B,C⟩
 have F:=D1 (M6 (s:=s) (prog:=prog) (w:=w) a i c) (st:=wy kd (Td vs) #[] 7 ia) l _ p p (u g p i);refine aI _ _ _ (λr G H I=>?_) (λ_ _ _ z=>z.elim) p s F;obtain⟨rfl,_,st',_,e,J,_,K,L,M⟩:=I;refine{rfl,?_};rw[e];exact h _ K L M
theorem YW{κ:KeyKind}{kd:pb}{vs:List Value}{n:Nat}{F:Fin->ja->Prop}(b:s.heap.get? a=ba (nh "list" vs.toArray n))(c:2<=vs.length)
  (d:∀{Q:pb->ja->Prop},Q kd {s with heap:=sortHeap6 s.heap a vs}->ra (Ea prog w) A (xH vs.toArray) Q E {s with heap:=sortHeap6 s.heap a vs})
  (e:∀{Q:Unit->Ha->Prop},(∀st',(zb st').Perm (Td vs)->sr st'=ia->yj κ (zb st') (Td vs).size->Q () st')->wpS (Ea prog w) A E {s with heap:=sortHeap6 s.heap a vs} iC Q (wy kd (Td vs) #[] 7 ia)) (f:vs.length<=sizeLine)
  (h:∀st':Ha,(zb st').Perm (Td vs)->yj κ (zb st') (Td vs).size->F (.done (.ret .none)) {s with heap:=sortedHeap s.heap a vs ((zb st').map (·.2))}):
  ra (Ea prog w) A (Builtin.«list.sort» ⟨[.ref a],[]⟩) F E s:=by
 rw[list_sort_plain];have g:a< s.heap.objs.size:=cc b;refine wpAny_bind (listItems_at b rfl (wpAny_bind (aa7 b rfl ?_)));obtain⟨i,j⟩:∃i,(s.heap.update a (Wo λ_=>#[])).get? a=ba (nh "list" #[] i):={_,get?_update_seq b (λ_=>#[])};refine wpAny_bind (seqEpoch_at j rfl (wpAny_bind (cS (wpAny_bind (iS (ng ?_))))));have k:(sortHeap6 s.heap a vs).get? a=ba (nh "list" #[] i):=by
  show(((s.heap.update a (Wo λ_=>#[])).push (nh "tuple" vs.toArray 0)).push (nh "list" #[] 0)).get? a=_;exact Qb _ (Qb _ j)
 have l:¬vs.toArray.size< 2:=by rw[Od];omega
 show ra (Ea prog w) A _ F E {s with heap:=sortHeap6 s.heap a vs};dsimp only;rw[oa l,oa l];refine wpAny_bind (d ?_);have m:=e (Q:=λ_ st'=>(zb st').Perm (Td vs)/\sr st'=ia/\yj κ (zb st') (Td vs).size) λst' o p q=>⟨o,p,q⟩;refine wpAny_bind (jh m ?_ λ_ _ z=>z);rintro⟨⟨⟩,st'⟩ r ⟨rfl,t,hf,u⟩;dsimp only;refine wpAny_bind (seqEpoch_at k rfl (wpAny_bind (aa7 k rfl ?_ (hsz2:=?_))))
 .rw[hf];simp only[qr,yc,Ub];exact wpAny_pure (h st' t u)
 .exact Bc (AB ((aaK ..).trans (t.size_eq.trans (mS _)))) (En f)
open PyProof.Rows.G (tupKindC tupKeyC KeepsTups tupC_ltAt tupKeys isTupObj LtAt wpS_sortRunsSt SInv sortHeap6 keeps_sort6)
open PySem.W (Looks)
abbrev Cw(h:Heap)(ps:List Addr)(ts:List Text):Prop:=Paired (λq t=>Rc h t q) ps ts
theorem Rc.cls{t:Text}{q:Addr}(x:Rc h t q){M:ub}:Looks M h (yR (.ref q)) (.type "tuple"):=by
 obtain⟨o,a,n,b,c,hd,r⟩:=x;rw[<-c];exact(Looks.ld b).andThen .now
section
variable{M:ub}
theorem yZ{t:Text}{q:Addr}(x:Rc s.heap t q){Q:Option Value->ja->Prop}(h:∀f:Option Value,f.isSome= !t.isEmpty->Q f s):ra M A (aa8 (.ref q)) Q E s:=by
 rw[PySem.W.kas_first_eq];refine wpAny_bind (x.cls.here ?_);rw[oa (by first|decide|simp)];obtain⟨o,a,n,b,d,hd,r⟩:=x;refine wpAny_bind (listItems_at b hd (wpAny_pure (h _ ?_)));cases t with
 |nil=>
  cases r;rfl
 |cons c t=>
  rw[vo] at r;cases r with
  |cons h q=>rfl
theorem kO:∀{ps:List Addr}{ts:List Text},Cw s.heap ps ts->∀{Q:List (Option Value)->ja->Prop},(∀b:List (Option Value),b.map Option.isSome=ts.map (λt=> !t.isEmpty)->Q b s)->ra M A ((ps.map Bb).mapM aa8) Q E s
 |_,_,.nil,Q,h=>by
  rw[Tq,List.mapM_nil];exact wpAny_pure (h [] rfl)
 |_,_,.cons a r,Q,h=>by
  rw[Nb,List.mapM_cons];refine wpAny_bind (yZ a λf hf=>wpAny_bind (kO r λb c=>wpAny_pure (h (f::b) ?_)));rw[Nb,Nb,hf,c]
def kdOf(ts:List Text):pb:=if ts.headD []=[] then By else Ay
theorem L6(a:List Text):kdOf a=Ay\/kdOf a=By:=by
 unfold kdOf;split
 .exact .inr rfl
 .exact .inl rfl
theorem OD:∀{ps:List Addr}{ts:List Text},Cw h ps ts->∀v∈ps.map Bb,∃t q,v=Bb q/\Rc h t q
 |_,_,.nil,v,b=>by simp at b
 |_,_,.cons a r,v,b=>by
  rw[Nb] at b;rcases jc.mp b with e|b
  .exact{_,_,e,a}
  .exact OD r v b
theorem fJ:∀{ps:List Addr}{ts:List Text},Cw h ps ts->ps.length=ts.length
 |_,_,.nil=>rfl
 |_,_,.cons a r=>wc (·+1) (fJ r)
theorem bY{ps:List Addr}(a:Cw s.heap ps ts)(b:[]∈ts){Q:pb->ja->Prop}(h:Q (kdOf ts) s):ra M A (xH (ps.map Bb).toArray) Q E s:=by
 rw[keyKind'_eq,aa9,map_eq_pure_bind];refine wpAny_bind (wpAny_bind (kO a λd g=>wpAny_pure ?_));have i:¬(d.toArray.all λx=>x.isSome)=da:=λz=>by
  rw[aba] at z;have j:ma∈ts.map (λt=> !t.isEmpty):=Mb.mpr {[],b,rfl};rw[<-g] at j;obtain⟨f,hf,e⟩:=Mb.mp j;have:=Df.mp z f hf;rw[e] at this;cases this
 rw[oa i];cases ts with
 |nil=>simp at b
 |cons t ts=>
  cases d with
  |nil=>cases g
  |cons f d=>
   rw[Nb,Nb] at g;injection g with hf _;have k:((f::d).toArray[0]?.bind id).isSome= !t.isEmpty:=by
    rw[<-hf];rfl
   rw[k];unfold kdOf at h;cases t with
   |nil=>
    have h:Q By s:=h;rw[oa (by simp)];rw[oneTypeOnly'_eq,aa9,map_eq_pure_bind];refine wpAny_bind (wpAny_bind (wpAny_bind (PySem.W.kas_mapM (r:=ck "tuple") _ (λv l m n=>?_) (wpAny_pure ?_))))
    .obtain⟨u,q,rfl,x⟩:=OD a v l;exact x.cls.here n
    .have i:((PH (λ_=>ck "tuple") (ps.map Bb)).toArray.all λx=>x==ck "tuple")=da:=by
      simp only[aba,tm,Df];intro _ _;rfl
     have o:0< ps.length:=by rw[fJ a];simp
     have w:(PH (λ_=>ck "tuple") (ps.map Bb)).toArray[0]?=ba (ck "tuple"):=by
      cases ps with
      |nil=>simp at o
      |cons p ps=>simp
     rw[w];simp only[i,Ld];exact wpAny_pure (wpAny_pure h)
   |cons c t=>
    have h:Q Ay s:=by simpa using h
    rw[qa (by simp)];exact wpAny_pure h
end
theorem NZ{κ:KeyKind}{kd:pb}{r:Value}{vs:List Value}(a:2<=vs.length)
  (c:∀(R:List Value->ja->Prop),(∀(h':Heap)(tk:Nat),(∀b o,s.heap.get? b=ba o->h'.get? b=ba o)->s.heap.objs.size<=h'.objs.size->R vs {s with heap:=h',toks:=tk})->ra (Ea prog w) A.in1 (Bu r) R E s)
  (d:∀(B:bb)(f:ja){Q:pb->ja->Prop},KeepsTups s.heap f.heap->Q kd f->ra (Ea prog w) B (xH vs.toArray) Q E f)
  (g:∀(f:ja),KeepsTups s.heap f.heap->∀{Q:Unit->Ha->Prop},(∀st',(zb st').Perm (Td vs)->sr st'=ia->yj κ (zb st') (Td vs).size->Q () st')->wpS (Ea prog w) A.in1.in1 E f iC Q (wy kd (Td vs) #[] 7 ia)) (i:vs.length<=sizeLine)
  (h:∀(h':Heap)(tk:Nat)(D:Addr)(n:Nat)(st':Ha),(zb st').Perm (Td vs)->yj κ (zb st') (Td vs).size->(∀b o,s.heap.get? b=ba o->h'.get? b=ba o)->s.heap.objs.size<=D->h'.get? D=ba (nh "list" ((zb st').map (·.2)) n)->Q (.ref D) {s with heap:=h',toks:=tk}):
  ra (Ea prog w) A (call (.builtin "sorted") [r]) Q E s:=by
 refine gS PyProof.Rows.kind_sorted PyProof.Rows.plain_sorted PyProof.Rows.entry_sorted (PyProof.Rows.args_sorted1 _) ?_;unfold Builtin.«sorted»;refine wpAny_bind (m:=V' "sorted" 1 1 _) (wpAny_pure ?_);refine wpAny_bind (c _ λj tk k l=>?_);refine wpAny_bind (iS ?_ i);have p:(j.push (nh "list" vs.toArray 0)).get? j.objs.size=ba (nh "list" vs.toArray 0):=Uc _ rfl;have q:KeepsTups s.heap (j.push (nh "list" vs.toArray 0)):=λb o e _=>Qb _ (k b o e);have t:=q.trans (keeps_sort6 (vs:=vs) p);refine wpAny_bind (ng (Rg PyProof.Rows.slot_list_sort {_,p,rfl} PyProof.Rows.entry_list_sort (YW (κ:=κ) (kd:=kd) (s:={s with heap:=j.push (nh "list" vs.toArray 0),toks:=tk}) p a (λu=>d _ _ t u) (λu=>g _ t u) i λst' v x=>{_,rfl,?_}) (PyProof.Rows.args_list_sort _)));obtain⟨e,y⟩:=W' (out:=(zb st').map (·.2)) p;refine wpAny_pure {_,rfl,h _ tk j.objs.size e st' v x (λb o z=>?_) l y};have C:=k b o z;have F:=cc C;rw[X' (Kd F) (by rw[yH];exact Wq F)];exact Qb _ C
open PyProof.Rows.G (tupKindC tupKeyC KeepsTups tupC_ltAt tupKeys isTupObj LtAt wpS_sortRunsSt SInv sortHeap6 keeps_sort6)
theorem Rc.SD{h':Heap}{t:Text}{q:Addr}(x:Rc h t q)(k:KeepsTups h h'):Rc h' t q:=by
 obtain⟨o,a,n,b,c,hd,r⟩:=x;exact{o,a,n,k q o b c,c,hd,r}
theorem sX{a:ja}(k:KeepsTups s.heap a.heap){vs:List Value}(b:∀v∈vs,∃t q,v=Bb q/\Rc s.heap t q){xs:Array Ra}(c:xs.Perm (Td vs)){n:Nat}(h:yj (tupKindC a.heap Ve) xs n):yj (tupKindC s.heap Ve) xs n:=by
 have d:∀i,KK (tupKindC a.heap Ve) xs i=KK (tupKindC s.heap Ve) xs i:=λi=>by
  unfold KK;cases e:xs[i]? with
  |none=>rfl
  |some p=>
   have f:p∈(Td vs).toList:=(kS.mp c).mem_iff.mp (by
    rw[<-Tf] at e;exact vd e)
   rw[lS] at f;obtain⟨t,q,g,x⟩:=b p.1 (DB f).1;show(tupKeyC a.heap Ve p.1).getD _=(tupKeyC s.heap Ve p.1).getD _;rw[g,x.key,(x.SD k).key]
 intro i j l m;have:=h i j l m;rw[d i,d j] at this;exact this
theorem QJ(I:Inv X pins σ H s):∀{ps:List Addr}{ts:List Text},Wb H ps ts->Cw s.heap ps ts
 |_,_,.nil=> .nil
 |_,_,.cons a r=> .cons (by
   obtain⟨b,c,⟨o,d,e,n,hd⟩,f⟩:=I.tuple (Ba.of a);exact⟨o,b,n,d,e,hd,c⟩) (QJ I r)
theorem W3:FQ:=by
 intro X c hu d s f H g i Q I r h;obtain⟨a,j,l,rfl,m,u,w,q⟩:=h;by_cases y:∀t∈l,t≠[]
 .exact lK c d s f H _ i Q I r ⟨a,j,l,rfl,m,u,y,w,q⟩
 have C:[]∈l:=Ln λz=>y λt ht e=>z (e▸ht);obtain⟨its,rv,hl,_⟩:=I.list m;have e:=zF rv;subst e;rw[yb.Ml r];have hpl:=u.len;have E:(j.map Bb).length<=sizeLine:=by rw[Na];exact Ag (Jd (by omega))
 have F:=QJ I u;have G:=OD F;have J:∀(R:List Value->ja->Prop),(∀(K:Heap)(L:Nat),(∀b o,s.heap.get? b=ba o->K.get? b=ba o)->s.heap.objs.size<=K.objs.size->R (j.map Bb) {s with heap:=K,toks:=L})->ra (Ea X.prog X.w) X.A.in1 (Bu (.ref a)) R X.xe s:=λR hR=>by
  refine Z' hl.isList (hR _ s.toks (λb o M=>?_) ?_) E
  .rw[aaa _ _ _ _ (Kd (cc M))];exact Qb _ M
  .rw[aab,yH];exact KG _
 have N:∀(K:Heap)(L:Nat)(D:Addr)(n:Nat)(O:Ha),(zb O).Perm (Td (j.map Bb))->yj (tupKindC s.heap Ve) (zb O) (Td (j.map Bb)).size->(∀b o,s.heap.get? b=ba o->K.get? b=ba o)->s.heap.objs.size<=D->K.get? D=ba (nh "list" ((zb O).map (·.2)) n)->EP X d f Q (.ref D) {s with heap:=K,toks:=L}:=
  λK L D n O P S hk hD T=>ZF I u w q P S hk hD T
 by_cases U:2<=(j.map Bb).length
 .refine NZ (κ:=tupKindC s.heap Ve) (kd:=kdOf l) U J (λB V _ k W=>bY (Paired.wh F λ_ _ x=>x.SD k) C W) (λV k _ W=>?_) E N;refine PZ (s:=V) (L6 l) (A:=X.A.in1.in1) ?_ (λv Y=>?_) U λO Z a2 a3=>W O Z a2 (sX k G Z a3)
  .show X.A.units+1+1< Wc;omega
  .obtain⟨t,p,e,x⟩:=G v Y;exact{t,p,e,x.SD k}
 .refine HT.Lz (κ:=tupKindC s.heap Ve) (kd:=lr da) (vs:=j.map Bb) J (tupKeys λv Y=>?_) (λV k=>tupC_ltAt (s:=V) da k) (λh3=>absurd h3 U) E N;obtain⟨p,P,e⟩:=Mb.mp Y;subst e;exact{_,Uw I (Jr u P)}
end Tl
namespace Tl.E
open Vabldc (Text textBefore put inOrder within clashes putFile fileAt File)
theorem Vp:∀a:Text,textBefore a a=ma
 |[]=>rfl
 |x::r=>by simp[textBefore,Vp r]
theorem Bt:∀{a b c:Text},textBefore a b=da->textBefore b c=da->textBefore a c=da
 |[],[],_,h,_=>by simp[textBefore] at h
 |[],_::_,[],_,h=>by simp[textBefore] at h
 |[],_::_,_::_,_,_=>by simp[textBefore]
 |_::_,[],_,h,_=>by simp[textBefore] at h
 |_::_,_::_,[],_,h=>by simp[textBefore] at h
 |x::a,y::b,z::c,h,g=>by
  simp only[textBefore,ki,Kc,decide_eq_true_eq,Oh] at h g⊢;rcases h with h|⟨d,e⟩<;>rcases g with g|⟨f,i⟩
  .exact .inl (by omega)
  .exact .inl (by omega)
  .exact .inl (by omega)
  .exact .inr {by omega,Bt e i}
theorem wA:∀(a b:Text),textBefore a b=da\/a=b\/textBefore b a=da
 |[],[]=> .inr (.inl rfl)
 |[],_::_=> .inl rfl
 |_::_,[]=> .inr (.inr rfl)
 |x::a,y::b=>by
  simp only[textBefore,ki,Kc,decide_eq_true_eq,Oh];rcases JS x y with h|h|h
  .exact .inl (.inl h)
  .subst h;rcases wA a b with g|g|g
   .exact .inl (.inr ⟨rfl,g⟩)
   .exact .inr (.inl (by rw[g]))
   .exact .inr (.inr (.inr ⟨rfl,g⟩))
  .exact .inr (.inr (.inl h))
abbrev Up(l:List Text):Prop:=l.Pairwise λa b=>textBefore a b=da
theorem up_eq{l m:List Text}(c:Up l)(d:Up m)(h:∀t,t∈l↔t∈m):l=m:=by
 have f:∀{l:List Text},Up l->l.Nodup:=λh=>h.imp λ{a b} e z=>by rw[z,Vp] at e;cases e
 have p:=(bC (f c) (f d)).mpr h;refine abb (le:=λa b=>textBefore a b=da) (λa b _ _ g i=>?_) c d p;have:=Bt g i;rw[Vp] at this;cases this
theorem x6{l:List Text}(h:Up l):l.Nodup:=h.imp λ{a b} e z=>by rw[z,Vp] at e;cases e
theorem nG{l:List Text}(h:Cj l)(c:l.Nodup):Up l:=by
 refine(h.and c).imp λ{a b} ⟨h1,h2⟩=>?_;rcases wA a b with g|g|g
 .exact g
 .exact absurd g h2
 .rw[g] at h1;cases h1
theorem NC(x t:Text):∀l:List Text,t∈put x l↔t=x\/t∈l
 |[]=>by simp[put]
 |y::r=>by
  unfold put;by_cases h:x=y
  .rw[qa h];simp[h]
  .rw[oa h];by_cases g:textBefore x y=da
   .rw[qa g];simp
   .rw[oa g,jc,NC x t r,jc];constructor
    .rintro(h|h|h)
     .exact .inr (.inl h)
     .exact .inl h
     .exact .inr (.inr h)
    .rintro(h|h|h)
     .exact .inr (.inl h)
     .exact .inl h
     .exact .inr (.inr h)
theorem sM(x:Text):∀{l:List Text},Up l->Up (put x l)
 |[],_=>fI _ _
 |y::r,h=>by
  unfold put;by_cases e:x=y
  .rw[qa e];exact h
  .rw[oa e];obtain⟨a,b⟩:=Ui.mp h;by_cases g:textBefore x y=da
   .rw[qa g];refine Ui.mpr {λz c=>?_,h};rcases jc.mp c with rfl|c
    .exact g
    .exact Bt g (a z c)
   .rw[oa g];refine Ui.mpr {λz c=>?_,sM x b};rcases(NC x z r).mp c with rfl|c
    .rcases wA z y with q|q|q
     .exact absurd q g
     .exact absurd q e
     .exact q
    .exact a z c
theorem LI(t:Text):∀l:List Text,t∈inOrder l↔t∈l
 |[]=>by simp[inOrder]
 |x::r=>by
  have:=LI t r;show t∈put x (inOrder r)↔_;rw[NC,this,jc]
theorem kJ:∀l:List Text,Up (inOrder l)
 |[]=>gI
 |x::r=>sM x (kJ r)
theorem order_eq{l:List Text}(h:Cj ts)(a:ts.Nodup)(b:∀t,t∈ts↔t∈l):ts=inOrder l:=up_eq (nG h a) (kJ l) λt=>(b t).trans (LI t l).symm
theorem kx(a:List Text):Hd a=Ju a:=rfl
theorem xM{u:Text}:gb (u++[47])=ma:=by
 cases h:gb (u++[47]) with
 |false=>rfl
 |true=>
  have:=dz h [] (by rw[ot];simp[Za]);exact absurd rfl (pO this)
theorem Qu{t u:Text}(c:gb t=da)(d:u≠[]):Af t u=within u t:=by
 unfold Af within;have f:u.isEmpty=ma:=by cases u with
  |nil=>exact absurd rfl d
  |cons a b=>rfl
 rw[f];simp only[yc,Ub];by_cases e:t.take (u.length+1)=u++[47]
 .have g:u.length+1< t.length:=by
   have g:=wc He e;rw[rd,wd,UG] at g;rcases Sg (u.length+1) t.length with h|h
   .exact h
   .have:t=u++[47]:=by rw[<-e,rm h]
    rw[this,xM] at c;cases c
  simp[e,g,gp]
 .simp[e,gp]
theorem gw{t u:Text}(c:gb t=da):qd t u=within u t:=by
 unfold qd;by_cases d:u=[]
 .subst d;have:t≠[]:=Mg c;cases t with
  |nil=>exact absurd rfl this
  |cons a b=>rfl
 .rw[Qu c d];simp[d]
theorem wV{t u:Text}(a:gb t=da)(b:gb u=da):Xg t u=clashes t u:=by
 unfold Xg clashes;rw[Qu a (Mg b),Qu b (Mg a),jT]
theorem A7{p q:Text}(a:gb p=da)(b:gb q=da):gf p q=ur p q:=by
 unfold gf ur;rw[Qu b (Mg a)]
 congr 1
 rw[tf,decide_eq_true_eq,Oh]
theorem xx{u t:Text}(c:u≠[]):within u t=da↔∃r,r≠[]/\t=u++47::r:=by
 unfold within;have d:u.isEmpty=ma:=by cases u with
  |nil=>exact absurd rfl c
  |cons a b=>rfl
 rw[d];simp only[yc,Ub,Kc,decide_eq_true_eq,Oh,gp];constructor
 .rintro⟨f,g⟩;refine{t.drop (u.length+1),λe=>?_,?_}
  .have:=wc He e;rw[ue,uj] at this;omega
  .have:=Ph (u.length+1) t;rw[g] at this;rw[<-this];simp
 .rintro⟨r,f,rfl⟩;constructor
  .have:0< r.length:=hI.mpr f;simp;omega
  .rw[show u++47::r=(u++[47])++r by simp];exact lT (by simp)
theorem nA(p q:Text):clashes p q=clashes q p:=jT _ _
open Vabldc (Text textBefore put inOrder within clashes putFile fileAt File)
def ent(f:File):Ent:=(f.path,f.bytes)
abbrev El(t:List File):Prop:=t.Pairwise λf g=>textBefore f.path g.path=da
structure Ab(x:List Ent)(t:List File):Prop where
 perm:x.Perm (t.map ent)
 up:El t
 path:∀f∈t,gb f.path=da
 b:∀f∈t,f.bytes.length<=4096
 cl:∀f∈t,∀g∈t,clashes f.path g.path=ma
 n:t.length<=64
 dB:Vf t<=8192
theorem Xl(t:List File):Vf t=(t.map λf=>f.bytes.length).sum:=by
 have:∀(l:List Nat)(a:Nat),l.foldl (λn k=>n+k) a=a+l.sum:=by
  intro l
  induction l with
  |nil=>intro a;rfl
  |cons y l b=>intro a;rw[Bm,b,Em,HS]
 unfold Vf;rw[this,QS]
theorem GD(h:El t):Up (t.map (·.path)):=Ti.mpr h
theorem Hq(h:El t):(t.map (·.path)).Nodup:=x6 (GD h)
theorem gF(t:List File):(t.map ent).map (·.1)=t.map (·.path):=by rw[yd];rfl
theorem Ab.keys(h:Ab x t):(x.map (·.1)).Perm (t.map (·.path)):=by
 have:=h.perm.map (·.1);rwa[gF] at this
theorem Ab.nd(h:Ab x t):(x.map (·.1)).Nodup:=(h.keys.nodup_iff).mpr (Hq h.up)
theorem Ab.mem(h:Ab x t){e:Ent}:e∈x↔∃f∈t,ent f=e:=by rw[h.perm.mem_iff,Mb]
theorem Ab.OA(h:Ab x t){p:Text}:p∈x.map (·.1)↔∃f∈t,f.path=p:=by rw[h.keys.mem_iff,Mb]
theorem Ab.small(h:Ab x t):Small x where
 n:=by have:=h.perm.length_eq;rw[Na] at this;have:=h.n;omega
 path:=λf hf=>by obtain⟨g,a,rfl⟩:=h.mem.mp hf;exact h.path g a
 b:=λf hf=>by obtain⟨g,a,rfl⟩:=h.mem.mp hf;have:=h.b g a;show g.bytes.length<=_;omega
 nd:=h.nd
theorem Ab.len(h:Ab x t):x.length=t.length:=by have:=h.perm.length_eq;rwa[Na] at this
theorem Ab.sum(h:Ab x t):(x.map λf=>f.2.length).sum=Vf t:=by
 rw[Xl,(h.perm.map λf=>f.2.length).sum_nat,yd];rfl
theorem Ab.pV(h:Ab x t):Tight x where
 n:=by rw[h.len];exact h.n
 b:=by rw[h.sum];exact h.dB
theorem Gp{p:Text}{f:File}(h:fileAt t p=ba f):f∈t/\f.path=p:=by
 have a:=EH h;have b:=oy h;exact{a,by simpa using b}
theorem ZE{p:Text}(h:fileAt t p=ia):∀f∈t,f.path≠p:=λf hf e=>by
 have:=mr.mp h f hf;simp[e] at this
theorem rC{k:α->Text}:∀{l:List α},(l.map k).Nodup->∀{a b:α},a∈l->b∈l->k a=k b->a=b
 |[],_,_,_,h,_,_=>absurd h (by simp)
 |y::l,c,a,b,d,f,e=>by
  obtain⟨g,i⟩:=Ui.mp (show abc (·≠·) (k y::l.map k) from c);rcases jc.mp d with j|j<;>rcases jc.mp f with m|m
  .rw[j,m]
  .exact absurd (j▸e) (g _ (Ku m))
  .exact absurd (m▸e.symm) (g _ (Ku j))
  .exact rC i j m e
theorem Cz(h:El t){f:File}(hf:f∈t):fileAt t f.path=ba f:=by
 cases e:fileAt t f.path with
 |none=>exact absurd rfl (ZE e f hf)
 |some g=>
  obtain⟨a,b⟩:=Gp e;rw[rC (Hq h) a hf b]
theorem zO{p b:Text}(h:look x p=ba b):(p,b)∈x:=by
 unfold look at h;obtain⟨f,a,c⟩:=Ie.mp h;have d:=oy a;have e:=EH a;simp only[decide_eq_true_eq] at d;subst c;subst d;exact e
theorem vU{p:Text}(h:look x p=ia):p∉x.map (·.1):=λm=>by
 obtain⟨f,hf,e⟩:=Mb.mp m;have:=mr.mp (aar.mp h) f hf;simp[e] at this
theorem Fj(a:(x.map (·.1)).Nodup){f:Ent}(hf:f∈x):look x f.1=ba f.2:=by
 cases e:look x f.1 with
 |none=>exact absurd (Ku hf) (vU e)
 |some b=>exact wc (λg:Ent=>ba g.2) (rC a (zO e) hf rfl)
theorem Ab.look(h:Ab x t)(p:Text):look x p=(fileAt t p).map (·.bytes):=by
 cases e:fileAt t p with
 |none=>
  cases a:Tl.look x p with
  |none=>rfl
  |some b=>
   obtain⟨f,hf,z⟩:=h.mem.mp (zO a);exact absurd (wc Prod.fst z) (ZE e f hf)
 |some f=>
  obtain⟨c,d⟩:=Gp e;have:=Fj h.nd (h.mem.mpr ⟨f,c,rfl⟩);rw[show(ent f).1=p from d] at this;exact this
theorem Yn(f g:File):∀{t:List File},El t->(g∈putFile f t↔g=f\/(g∈t/\g.path≠f.path))
 |[],_=>by simp[putFile]
 |y::r,h=>by
  obtain⟨a,c⟩:=Ui.mp h;unfold putFile;by_cases e:f.path=y.path
  .rw[qa e,jc,jc];constructor
   .rintro(z|z)
    .exact .inl z
    .refine .inr {.inr z,λq=>?_};have:=a g z;rw[q,e,Vp] at this;cases this
   .rintro(z|⟨z|z,q⟩)
    .exact .inl z
    .subst z;exact absurd e.symm q
    .exact .inr z
  .rw[oa e];by_cases b:textBefore f.path y.path=da
   .rw[qa b,jc];constructor
    .rintro(z|z)
     .exact .inl z
     .refine .inr {z,λq=>?_};rcases jc.mp z with rfl|z
      .exact e q.symm
      .have:=Bt b (a g z);rw[q,Vp] at this;cases this
    .rintro(z|⟨z,_⟩)
     .exact .inl z
     .exact .inr z
   .rw[oa b,jc,Yn f g c,jc];constructor
    .rintro(z|z|⟨z,q⟩)
     .exact .inr {.inl z,by rw[z];exact λq=>e q.symm}
     .exact .inl z
     .exact .inr {.inr z,q}
    .rintro(z|⟨z|z,q⟩)
     .exact .inr (.inl z)
     .exact .inl z
     .exact .inr (.inr ⟨z,q⟩)
theorem Js(f:File):∀{t:List File},El t->El (putFile f t)
 |[],_=>fI _ _
 |y::r,h=>by
  obtain⟨a,c⟩:=Ui.mp h;unfold putFile;by_cases e:f.path=y.path
  .rw[qa e];exact Ui.mpr {λz d=>by rw[e];exact a z d,c}
  .rw[oa e];by_cases b:textBefore f.path y.path=da
   .rw[qa b];refine Ui.mpr {λz d=>?_,h};rcases jc.mp d with rfl|d
    .exact b
    .exact Bt b (a z d)
   .rw[oa b];refine Ui.mpr {λz d=>?_,Js f c};rcases(Yn f z c).mp d with rfl|⟨d,_⟩
    .rcases wA y.path z.path with q|q|q
     .exact q
     .exact absurd q.symm e
     .exact absurd q b
    .exact a z d
theorem Pu:∀l:List File,El (l.foldr putFile [])
 |[]=>gI
 |f::l=>Js f (Pu l)
theorem QM:∀{l:List File},(l.map (·.path)).Nodup->∀g,(g∈l.foldr putFile []↔g∈l)
 |[],_,g=>by simp
 |f::l,a,g=>by
  obtain⟨b,c⟩:=Ui.mp (show abc (·≠·) (f.path::l.map (·.path)) from a);rw[List.foldr_cons,Yn f g (Pu l),QM c g,jc];constructor
  .rintro(z|⟨z,_⟩)
   .exact .inl z
   .exact .inr z
  .rintro(z|z)
   .exact .inl z
   .exact .inr {z,λq=>b _ (Ku z) q.symm}
theorem jK{l:List File}(c:(l.map (·.path)).Nodup):(l.foldr putFile []).Perm l:=by
 have d:∀{m:List File},(m.map (·.path)).Nodup->m.Nodup:=λ{m} h=>(Ti.mp h).imp λ{a b} h e=>h (by rw[e]);exact(bC (d (Hq (Pu l))) (d c)).mpr (QM c)
theorem JK{p b:Text}:(md x p b).map (·.1)=if p∈x.map (·.1) then x.map (·.1) else x.map (·.1)++[p]:=by
 unfold md;by_cases h:(x.any λf=>decide (f.1=p))=da
 .rw[qa h];have a:p∈x.map (·.1):=by
   obtain⟨f,hf,e⟩:=Ze.mp h;exact Mb.mpr {f,hf,by simpa using e}
  rw[qa a,yd];refine Am λf _=>?_;show(if f.1=p then(f.1,b) else f).1=f.1;by_cases e:f.1=p
  .rw[qa e]
  .rw[oa e]
 .rw[oa h];have a:p∉x.map (·.1):=λm=>by
   obtain⟨f,hf,e⟩:=Mb.mp m;exact h (Ze.mpr {f,hf,by simpa using e})
  rw[oa a,vf];rfl
theorem NM{p b:Text}(d:(x.map (·.1)).Nodup):((md x p b).map (·.1)).Nodup:=by
 rw[JK];by_cases h:p∈x.map (·.1)
 .rw[qa h];exact d
 .rw[oa h];refine YB.mpr {d,by simp,λa f c g e=>?_};rw[dC.mp g] at e;exact h (e▸f)
theorem nL{p b:Text}(e:Ent):e∈md x p b↔e=(p,b)\/(e∈x/\e.1≠p):=by
 unfold md;by_cases h:(x.any λf=>decide (f.1=p))=da
 .rw[qa h,Mb];obtain⟨a,c,d⟩:=Ze.mp h;have d:a.1=p:=by simpa using d
  constructor
  .rintro⟨f,hf,rfl⟩;by_cases q:f.1=p
   .rw[qa q];exact .inl (by rw[q])
   .rw[oa q];exact .inr ⟨hf,q⟩
  .rintro(rfl|⟨g,q⟩)
   .exact{a,c,by rw[qa d,d]}
   .exact{e,g,oa q}
 .rw[oa h,Pe,dC];have i:∀f∈x,f.1≠p:=λf hf e=>h (Ze.mpr {f,hf,by simpa using e});constructor
  .rintro(z|z)
   .exact .inr {z,i _ z}
   .exact .inl z
  .rintro(z|⟨z,_⟩)
   .exact .inr z
   .exact .inl z
theorem PM(c:(x.map (·.1)).Nodup):x.Nodup:=(Ti.mp c).imp λ{a b} h e=>h (by rw[e])
theorem O0(h:El t):(t.map ent).Nodup:=PM (by rw[gF];exact Hq h)
theorem FJ(a:(x.map (·.1)).Nodup)(b:El t)(h:∀e,e∈x↔∃f∈t,ent f=e):x.Perm (t.map ent):=(bC (PM a) (O0 b)).mpr λe=>by rw[h e,Mb]
theorem XM(h:Ab x t)(p b:Text):(md x p b).Perm ((putFile ⟨p,b⟩ t).map ent):=by
 refine FJ (NM h.nd) (Js _ h.up) λe=>?_;rw[nL];constructor
 .rintro(rfl|⟨a,c⟩)
  .exact{⟨p,b⟩,(Yn _ _ h.up).mpr (.inl rfl),rfl}
  .obtain⟨f,hf,rfl⟩:=h.mem.mp a;exact{f,(Yn _ _ h.up).mpr (.inr ⟨hf,c⟩),rfl}
 .rintro⟨f,hf,rfl⟩;rcases(Yn _ _ h.up).mp hf with rfl|⟨hf,c⟩
  .exact .inl rfl
  .exact .inr {h.mem.mpr ⟨f,hf,rfl⟩,c}
theorem Ab.any(h:Ab x t)(c:Text->Bool):(x.any λf=>c f.1)=t.any λf=>c f.path:=by
 rw[tf,Ze,Ze];constructor
 .rintro⟨e,a,z⟩;obtain⟨f,hf,rfl⟩:=h.mem.mp a;exact⟨f,hf,z⟩
 .rintro⟨f,hf,z⟩;exact{_,h.mem.mpr ⟨f,hf,rfl⟩,z}
open Vabldc (Text textBefore put inOrder within clashes putFile fileAt File)
theorem ls(t:Text):Fd (vr t)=bh t:=rfl
theorem B1(p:Text):within p p=ma:=by
 unfold within;cases p with
 |nil=>rfl
 |cons a b=>
  have:¬(a::b).length+1< (a::b).length:=by omega
  simp only[List.isEmpty_cons,yc,Ub,this,decide_false,kh]
theorem KW(p:Text):clashes p p=ma:=by simp[clashes,B1]
theorem VI(g:α->Nat):∀l:List α,(l.map λf=>((g f:Nat):Int)).sum=(((l.map g).sum:Nat):Int)
 |[]=>rfl
 |a::l=>by rw[Nb,Em,VI g l,Nb,Em];simp
theorem RL{p:Text}{e:Ent}:e∈others x p↔e∈x/\e.1≠p:=by simp[others]
theorem uW(h:Ab x t)(p b:Text):((p,b)::others x p).Perm ((putFile ⟨p,b⟩ t).map ent):=by
 have c:(((p,b)::others x p).map (·.1)).Nodup:=by
  refine Ui.mpr {λq d=>?_,(DH _ zl).nodup h.nd};obtain⟨e,f,rfl⟩:=Mb.mp d;exact λz=>(RL.mp f).2 z.symm
 refine FJ c (Js _ h.up) λe=>?_;rw[jc,RL,<-nL];have:=(XM h p b).mem_iff (a:=e);rwa[Mb] at this
theorem bE(h:Ab x t)(p b:Text):xk x p b= !Fm (putFile ⟨p,b⟩ t):=by
 have a:=uW h p b;have c:=a.length_eq;rw[Na,Oc] at c;have d:=(a.map λf:Ent=>f.2.length).sum_nat;rw[yd,Nb,Em] at d;have e:((putFile ⟨p,b⟩ t).map ((λf:Ent=>f.2.length)∘ent)).sum=Vf (putFile ⟨p,b⟩ t):=(Xl _).symm;rw[e] at d;unfold xk Fm Vabldc.FILES Vabldc.BYTES;rw[VI,<-c,<-d];rw[tf];simp only[ki,decide_eq_true_eq,IH,Bool.and_eq_false_iff,decide_eq_false_iff_not];omega
theorem fw:Fm t=da↔t.length<=64/\Vf t<=8192:=by
 rw[Fm,Kc];exact{λ⟨a,b⟩=>{Qe a,Qe b},λ⟨a,b⟩=>{Xc a,Xc b}}
theorem Ab.put(h:Ab x t){p b:Text}(a:gb p=da)(c:b.length<=4096)(d:(t.any λf=>clashes p f.path)=ma)(e:Fm (putFile ⟨p,b⟩ t)=da):Ab (md x p b) (putFile ⟨p,b⟩ t):=by
 have m:∀f∈putFile ⟨p,b⟩ t,f=⟨p,b⟩\/f∈t:=λf hf=>((Yn _ _ h.up).mp hf).imp id And.left;have d:∀f∈t,clashes p f.path=ma:=λf hf=>by simpa using vB.mp d f hf
 obtain⟨i,j⟩:=fw.mp e;refine{XM h p b,Js _ h.up,λf hf=>?_,λf hf=>?_,λf hf g k=>?_,i,j}
 .rcases m f hf with rfl|hf
  .exact a
  .exact h.path f hf
 .rcases m f hf with rfl|hf
  .exact c
  .exact h.b f hf
 .rcases m f hf with rfl|hf<;>rcases m g k with rfl|k
  .exact KW p
  .exact d g k
  .rw[nA];exact d f hf
  .exact h.cl f hf g k
theorem any_congr{c d:α->Bool}{l:List α}(h:∀a∈l,c a=d a):l.any c=l.any d:=by
 induction l with
 |nil=>rfl
 |cons a l e=>rw[ji,ji,h a (by simp),e λb f=>h b (by simp[f])]
theorem EA(h:Ab x t){p:Text}(a:gb p=da):(x.any λf=>Xg p f.1)=t.any λf=>clashes p f.path:=by
 rw[h.any λq=>Xg p q];exact any_congr λf hf=>wV a (h.path f hf)
theorem b7{s:Tg}(h:Ab x s.tree)(p b:Text):(Vd x p b).1=Fd (iI s p b).2/\Ab (Vd x p b).2 (iI s p b).1.tree/\(iI s p b).1.kept=s.kept:=by
 unfold Vd iI;by_cases a:gb p=ma
 .simp only[a,Ld];exact{rfl,h,by first|rfl|trivial}
 simp only[a,Ub];have c:gb p=da:=by simpa using a
 by_cases d:4096< b.length
 .simp only[d,Ld];exact{rfl,h,by first|rfl|trivial}
 simp only[d,Ub];rw[EA h c];by_cases g:(s.tree.any λf=>clashes p f.path)=da
 .simp only[g,Ld];exact{rfl,h,by first|rfl|trivial}
 simp only[g,Ub];rw[bE h];by_cases i:Fm (putFile ⟨p,b⟩ s.tree)=ma
 .simp only[i,Hu,Ld];exact{rfl,h,by first|rfl|trivial}
 have j:Fm (putFile ⟨p,b⟩ s.tree)=da:=by simpa using i
 simp only[j,si,yc,Ub];refine{?_,h.put c (by omega) (by simpa using g) j,rfl};rw[h.look p];cases e:fileAt s.tree p with
 |none=>rfl
 |some f=>rfl
theorem Ab.mL(h:Ab x t)(c:Text->Bool):Ab (x.filter λf=>c f.1) (t.filter λf=>c f.path):=by
 have b:(t.filter λf=>c f.path).Sublist t:=zl;refine{?_,h.up.sublist b,λf hf=>h.path f (b.subset hf),λf hf=>h.b f (b.subset hf),λf hf g d=>h.cl f (b.subset hf) g (b.subset d),Bc b.length_le h.n,?_}
 .have:=h.perm.filter (λf=>c f.1);rwa[mT] at this
 .refine Bc ?_ h.dB;rw[Xl,Xl];have:∀l:List File,((l.filter λf=>c f.path).map λf=>f.bytes.length).sum<=(l.map λf=>f.bytes.length).sum:=by
   intro l
   induction l with
   |nil=>exact rb _
   |cons a l i=>
    rw[jk,Nb,Em];by_cases e:c a.path=da
    .rw[qa e,Nb,Em];omega
    .rw[oa e];omega
  exact this _
theorem Ab.fk(h:Ab x t)(c:Text->Bool):((x.map (·.1)).filter c).Perm ((t.filter λf=>c f.path).map (·.path)):=by
 have:=h.keys.filter c;rwa[mT (f:=λf:File=>f.path)] at this
theorem dO{c d:α->Bool}{l:List α}(h:∀a∈l,c a=d a):l.filter c=l.filter d:=pT h
theorem fQ(h:Ab x t)(c:Text->Bool):without x ((x.map (·.1)).filter c)=x.filter λf=> !c f.1:=by
 refine dO λf hf=>?_
 congr 1
 rw[tf,qT,Mc];exact{And.right,λz=>{Ku hf,z}}
theorem VN(h:Ab x t){p:Text}(a:gb p=da):(x.map (·.1)).filter (gf p)=(x.map (·.1)).filter (ur p):=dO λq b=>by
 obtain⟨f,hf,rfl⟩:=h.OA.mp b;exact A7 a (h.path f hf)
theorem B0{s:Tg}(h:Ab x s.tree)(p:Text):(Bj x p).1=Fd (kI s p).2/\Ab (Bj x p).2 (kI s p).1.tree/\(kI s p).1.kept=s.kept:=by
 unfold Bj kI;by_cases a:gb p=ma
 .simp only[a,Ld];exact{rfl,h,by first|rfl|trivial}
 simp only[a,Ub];have b:gb p=da:=by simpa using a
 rw[VN h b,fQ h];have c:=h.fk (ur p);have d:=c.length_eq;rw[Na] at d;by_cases g:(s.tree.filter λf=>ur p f.path).length=0
 .have i:(x.map (·.1)).filter (ur p)=[]:=zm.mp (d.trans g);simp only[g,i,Ld];exact{rfl,h,by first|rfl|trivial}
 .have i:¬(x.map (·.1)).filter (ur p)=[]:=λe=>g (d.symm.trans (by rw[e];rfl));simp only[g,i,Ub];exact{by rw[d];rfl,h.mL λq=> !ur p q,by rfl}
open Vabldc (Text textBefore put inOrder within clashes putFile fileAt File movedPath isAt)
theorem Dz{a p:Text}(b:a≠[])(h:isAt a p=da):∃r,p=a++r:=by
 unfold isAt at h;rcases ki _ _▸h with h|h
 .exact{[],by simpa using h}
 .obtain⟨r,_,e⟩:=(xx b).mp h;exact{47::r,e}
theorem bB(a b r:Text):movedPath a b (a++r)=b++r:=by
 unfold movedPath;rw[aat]
theorem IK{a b r s:Text}(c:a≠[])(d:b≠[])(h:within (b++r) (b++s)=da):within (a++r) (a++s)=da:=by
 have f:a++r≠[]:=λe=>c (abe.mp e).1;have g:b++r≠[]:=λe=>d (abe.mp e).1;obtain⟨u,i,e⟩:=(xx g).mp h;rw[cf] at e;have:=abf e;exact(xx f).mpr {u,i,by rw[this,cf]}
theorem gZ{a b r s:Text}(c:a≠[])(d:b≠[])(h:clashes (a++r) (a++s)=ma):clashes (b++r) (b++s)=ma:=by
 cases e:clashes (b++r) (b++s) with
 |false=>rfl
 |true=>
  have:clashes (a++r) (a++s)=da:=by
   unfold clashes at e⊢;rcases(ki _ _).mp e with e|e
   .rw[IK c d e];rfl
   .rw[IK c d e,Bool.or_true]
  rw[this] at h;cases h
noncomputable def Wh(a b:Text)(e:Ent):Ent:=if isAt a e.1=da then(movedPath a b e.1,e.2) else e
noncomputable def Zj(a b:Text)(f:File):File:=if isAt a f.path=da then{f with path:=movedPath a b f.path} else f
theorem qZ(a b:Text)(f:File):Wh a b (ent f)=ent (Zj a b f):=by
 unfold Wh Zj ent;by_cases h:isAt a f.path=da
 .simp only[h,Ld]
 .simp only[h,Ub];rfl
theorem PN(g:Text->Text)(v:Text->Text):∀(a:List Text)(y:List Ent),((y.map (·.1))++a.map g).Nodup->(a.zip (a.map g)).foldl (λz b=>md z b.2 (v b.1)) y=y++a.map λp=>(g p,v p)
 |[],y,_=>by simp
 |p::a,y,c=>by
  rw[Nb,lR,Bm];have d:g p∉y.map (·.1):=λm=>by
   have:=(YB.mp c).2.2 _ m (g p) (by simp);exact this rfl
  have e:md y (g p) (v p)=y++[(g p,v p)]:=by
   unfold md;rw[oa];intro z;obtain⟨f,hf,q⟩:=Ze.mp z;exact d (Mb.mpr {f,hf,by simpa using q})
  rw[e,PN g v a _ (by rw[vf,cf];exact c),cf];rfl
theorem wD(c:α->Bool):∀l:List α,l.Perm ((l.filter λa=> !c a)++l.filter c)
 |[]=>JH _
 |a::l=>by
  rw[jk,jk];cases h:c a with
  |true=>
   simp only[si,yc,Ub,Ld];exact((wD c l).cons a).trans MH.symm
  |false=>
   simp only[Hu,yc,Ub,Ld];exact(wD c l).cons a
theorem DO(x:List Ent)(c:Text->Bool):(x.map (·.1)).filter c=(x.filter λe=>c e.1).map (·.1):=by rw[mT];rfl
theorem yW(h:Ab x t){a b:Text}(c:(((x.filter λe=> !isAt a e.1).map (·.1))++((x.map (·.1)).filter (isAt a)).map λp=>movedPath a b p).Nodup):
  fv x ((x.map (·.1)).filter (isAt a)) (((x.map (·.1)).filter (isAt a)).map λp=>movedPath a b p) (x.filter λe=> !isAt a e.1)=(x.filter λe=> !isAt a e.1)++(x.filter λe=>isAt a e.1).map (Wh a b):=by
 unfold fv;rw[PN (movedPath a b) (λp=>(look x p).getD []) _ _ c]
 congr 1
 rw[DO,yd];refine Am λe d=>?_;obtain⟨f,g⟩:=Mc.mp d;show(movedPath a b e.1,(look x e.1).getD [])=_;rw[Fj h.nd f];unfold Wh;rw[qa g];rfl
theorem B3(x:List Ent)(a b:Text):((x.filter λe=> !isAt a e.1)++(x.filter λe=>isAt a e.1).map (Wh a b)).Perm (x.map (Wh a b)):=by
 have:=((wD (λe:Ent=>isAt a e.1) x).map (Wh a b)).symm;rw[vf] at this;have e:(x.filter λe=> !isAt a e.1).map (Wh a b)=x.filter λe=> !isAt a e.1:=by
  conv=>rhs;rw[<-Cu (x.filter λe=> !isAt a e.1)]
  refine Am λe c=>?_;have d:=(Mc.mp c).2;unfold Wh;rw[oa (by simpa using d)];rfl
 rwa[e] at this
theorem Ab.move(h:Ab x t){a b:Text}(c:a≠[])(d:b≠[])(i:∀f∈t,isAt a f.path=da->gb (movedPath a b f.path)=da)
  (j:∀f∈t,isAt a f.path=ma->∀g∈t,isAt a g.path=da->movedPath a b g.path≠f.path/\clashes (movedPath a b g.path) f.path=ma):
  (((x.filter λe=> !isAt a e.1).map (·.1))++((x.map (·.1)).filter (isAt a)).map λp=>movedPath a b p).Nodup/\Ab ((x.filter λe=> !isAt a e.1)++(x.filter λe=>isAt a e.1).map (Wh a b)) (rT t a b):=by
 have l:(((x.filter λe=> !isAt a e.1).map (·.1))++((x.map (·.1)).filter (isAt a)).map λp=>movedPath a b p).Nodup:=by
  refine YB.mpr {(DH _ zl).nodup h.nd,?_,λp m q n e=>?_}
  .refine Ti.mpr (tT (λ{p q} m n o e=>?_) (h.nd.sublist zl));obtain⟨r,rfl⟩:=Dz c (Mc.mp m).2;obtain⟨u,rfl⟩:=Dz c (Mc.mp n).2;rw[bB,bB] at e;exact o (by rw[abf e])
  .obtain⟨s,v,rfl⟩:=Mb.mp m;obtain⟨q0,w,rfl⟩:=Mb.mp n;obtain⟨y,z⟩:=Mc.mp v;obtain⟨A,B⟩:=Mc.mp w;obtain⟨f,hf,rfl⟩:=h.mem.mp y;obtain⟨g,C,rfl⟩:=h.OA.mp A;exact(j f hf (by simpa[ent] using z) g C B).1 e.symm
 refine{l,?_};have D:((x.filter λe=> !isAt a e.1)++(x.filter λe=>isAt a e.1).map (Wh a b)).Perm ((t.map (Zj a b)).map ent):=by
  refine(B3 x a b).trans ?_;have:=h.perm.map (Wh a b);rw[yd] at this⊢;refine this.trans (OS.of_eq (Am λf _=>qZ a b f))
 have E:((t.map (Zj a b)).map (·.path)).Nodup:=by
  have k:=D.map (·.1);rw[gF] at k;refine k.nodup_iff.mp ?_;rw[vf,yd];have e:((x.map (·.1)).filter (isAt a)).map (λp=>movedPath a b p)=(x.filter λe=>isAt a e.1).map ((λe:Ent=>e.1)∘Wh a b):=by
   rw[DO,yd];refine Am λe F=>?_;show movedPath a b e.1=(Wh a b e).1;unfold Wh;rw[qa (Mc.mp F).2]
  rw[<-e];exact l
 have G:(rT t a b).Perm (t.map (Zj a b)):=jK E;have H:∀g∈rT t a b,∃f∈t,g=Zj a b f:=λg C=>by
  obtain⟨f,hf,e⟩:=Mb.mp (G.mem_iff.mp C);exact⟨f,hf,e.symm⟩
 refine{D.trans (G.map ent).symm,Pu _,λg C=>?_,λg C=>?_,λg C I J=>?_,?_,?_}
 .obtain⟨f,hf,rfl⟩:=H g C;unfold Zj;by_cases e:isAt a f.path=da
  .rw[qa e];exact i f hf e
  .rw[oa e];exact h.path f hf
 .obtain⟨f,hf,rfl⟩:=H g C;unfold Zj;by_cases e:isAt a f.path=da
  .rw[qa e];exact h.b f hf
  .rw[oa e];exact h.b f hf
 .obtain⟨f,hf,rfl⟩:=H g C;obtain⟨K,L,rfl⟩:=H I J;unfold Zj;by_cases e:isAt a f.path=da<;>by_cases M:isAt a K.path=da
  .rw[qa e,qa M];have N:=h.cl f hf K L;obtain⟨r,O⟩:=Dz c e;obtain⟨u,P⟩:=Dz c M;show clashes (movedPath a b f.path) (movedPath a b K.path)=ma;rw[O,P] at N⊢;rw[bB,bB];exact gZ c d N
  .rw[qa e,oa M];exact(j K L (by simpa using M) f hf e).2
  .rw[oa e,qa M,nA];exact(j f hf (by simpa using e) K L M).2
  .rw[oa e,oa M];exact h.cl f hf K L
 .rw[G.length_eq,Na];exact h.n
 .rw[Xl,(G.map λf=>f.bytes.length).sum_nat,yd];have e:t.map ((λf:File=>f.bytes.length)∘Zj a b)=t.map λf=>f.bytes.length:=Am λf _=>by
   show(Zj a b f).bytes.length=_;unfold Zj;by_cases e:isAt a f.path=da
   .rw[qa e]
   .rw[oa e]
  rw[e,<-Xl];exact h.dB
theorem zW{l m:List α}(h:l.Perm m)(c:α->Bool):l.any c=m.any c:=by
 rw[tf,Ze,Ze];exact{λ⟨a,h1,h2⟩=>{a,h.mem_iff.mp h1,h2},λ⟨a,h1,h2⟩=>{a,h.mem_iff.mpr h1,h2}}
theorem N6{l m:List α}(h:l.Perm m)(c:α->Bool):l.all c=m.all c:=by
 rw[tf,Df,Df];exact{λz a b=>z a (h.mem_iff.mpr b),λz a b=>z a (h.mem_iff.mp b)}
theorem dN(h:Ab x t){q:Text}(a:gb q=da):Xh q x=t.any λf=>q==f.path||clashes q f.path:=by
 unfold Xh;rw[EA h a,h.look q,tf];simp only[ki,Ze,aH,Oh];constructor
 .rintro(z|⟨f,hf,z⟩)
  .obtain⟨f,e⟩:=GB.mp z;obtain⟨b,c⟩:=Gp e;exact{f,b,.inl c.symm}
  .exact{f,hf,.inr z}
 .rintro⟨f,hf,z|z⟩
  .left
   rw[z,Cz h.up hf];rfl
  .exact .inr ⟨f,hf,z⟩
theorem qW{s:Tg}(h:Ab x s.tree)(a b:Text):(Ek x a b).1=Fd (lI s a b).2/\Ab (Ek x a b).2 (lI s a b).1.tree/\(lI s a b).1.kept=s.kept:=by
 unfold Ek lI;by_cases c:gb a=ma\/gb b=ma
 .simp only[c,Ld];exact{rfl,h,by first|rfl|trivial}
 simp only[c,Ub];have d:gb a=da:=by
  cases e:gb a with
  |true=>rfl
  |false=>exact absurd (.inl e) c
 have i:gb b=da:=by
  cases e:gb b with
  |true=>rfl
  |false=>exact absurd (.inr e) c
 rw[VN h d,fQ h,Qu i (Mg d)];have j:=h.fk (isAt a);have k:=j.length_eq;rw[Na] at k;by_cases l:(s.tree.filter λf=>isAt a f.path).isEmpty=da
 .have m:(x.map (·.1)).filter (isAt a)=[]:=zm.mp (k.trans (by rw[xr.mp l];rfl));simp only[l,m,Ld];exact{rfl,h,by first|rfl|trivial}
 have m:¬(x.map (·.1)).filter (isAt a)=[]:=λe=>l (xr.mpr (zm.mp (k.symm.trans (by rw[e];rfl))));simp only[l,m,Ub];by_cases n:within a b=da
 .simp only[n,Ld];exact{rfl,h,by first|rfl|trivial}
 simp only[n,Ub];have o:(((x.map (·.1)).filter (isAt a)).map λp=>b++p.drop a.length).all gb=(s.tree.filter λf=>isAt a f.path).all λf=>gb (movedPath a b f.path):=by
  rw[N6 (j.map λp=>b++p.drop a.length),yd,tm];rfl
 rw[o];by_cases r:((s.tree.filter λf=>isAt a f.path).all λf=>gb (movedPath a b f.path))=ma
 .simp only[r,Ld];exact{rfl,h,by first|rfl|trivial}
 simp only[r,Ub];have t:∀f∈s.tree,isAt a f.path=da->gb (movedPath a b f.path)=da:=λf hf e=>by
  simp only[abg] at r;exact Df.mp r f (Mc.mpr ⟨hf,e⟩)
 have u:=h.mL λq=> !isAt a q;have v:((((x.map (·.1)).filter (isAt a)).map λp=>b++p.drop a.length).any λq=>Xh q (x.filter λf=> !isAt a f.1))=jC s.tree a b:=by
  rw[zW (j.map λp=>b++p.drop a.length)];unfold jC;rw[tf,Ze,Ze];constructor
  .rintro⟨q,y,z⟩;obtain⟨p,A,rfl⟩:=Mb.mp y;obtain⟨f,hf,rfl⟩:=Mb.mp A;obtain⟨B,C⟩:=Mc.mp hf;have z:Xh (movedPath a b f.path) _=da:=z;rw[dN u (t f B C)] at z;obtain⟨g,D,w⟩:=Ze.mp z;exact{g,D,Ze.mpr {_,Mb.mpr ⟨f,hf,rfl⟩,w}}
  .rintro⟨g,D,z⟩;obtain⟨q,y,w⟩:=Ze.mp z;obtain⟨f,hf,rfl⟩:=Mb.mp y;obtain⟨B,C⟩:=Mc.mp hf;refine{_,Ku (Ku hf),?_};show Xh (movedPath a b f.path) _=da;rw[dN u (t f B C)];exact Ze.mpr ⟨g,D,w⟩
 rw[v];by_cases E:jC s.tree a b=da
 .simp only[E,Ld];exact{rfl,h,by first|rfl|trivial}
 simp only[E,Ub];have F:∀f∈s.tree,isAt a f.path=ma->∀g∈s.tree,isAt a g.path=da->movedPath a b g.path≠f.path/\clashes (movedPath a b g.path) f.path=ma:=λf hf e g D G=>by
  have z:jC s.tree a b=ma:=by simpa using E
  unfold jC at z;have H:=vB.mp z f (Mc.mpr {hf,by simp[e]});simp only[xS] at H;have I:=vB.mp H (movedPath a b g.path) (Mb.mpr {g,Mc.mpr ⟨D,G⟩,rfl});simpa using I
 obtain⟨J,S⟩:=h.move (Mg d) (Mg i) t F;refine{by rw[k];rfl,?_,by rfl};have:=yW h J;show Ab (fv x _ (((x.map (·.1)).filter (isAt a)).map λp=>movedPath a b p) _) _;rw[this];exact S
open Vabldc (Text textBefore put inOrder within clashes putFile fileAt File isAt)
noncomputable def ui:List Text->Text
 |[]=>[]
 |y::r=>y++r.flatMap λz=>47::z
theorem LP{m:List Text}(h:m≠[]):(m.flatMap λz=>47::z)=47::ui m:=by
 cases m with
 |nil=>exact absurd rfl h
 |cons a m=>rfl
theorem dD{l m:List Text}(a:l≠[])(b:m≠[]):ui (l++m)=ui l++47::ui m:=by
 cases l with
 |nil=>exact absurd rfl a
 |cons y r=>
  show y++(r++m).flatMap _=y++r.flatMap _++_;rw[Du,LP b,cf]
theorem gz:∀t:Text,ui (Za 47 t)=t
 |[]=>rfl
 |x::r=>by
  have a:=gz r;unfold Za;by_cases h:x=47
  .rw[qa h,h];show []++(Za 47 r).flatMap _=_;rw[LP (Ki 47 r),a];rfl
  .rw[oa h];cases e:Za 47 r with
   |nil=>exact absurd e (Ki 47 r)
   |cons y l=>
    rw[e] at a;show x::(y++l.flatMap _)=_;exact wc (x::·) a
theorem cw{t:Text}(h:t≠[]):uu t=Za 47 t:=by
 unfold uu;rw[oa]
 .rfl
 .intro z;exact h (xr.mp z)
theorem sO{p:Text}(h:p≠[]):kC p=((Li (Za 47 p).length).map λn=>ui ((Za 47 p).take n)).reverse:=by
 unfold kC;rw[cw h,<-abh,yd,<-abh];refine Am λn _=>?_;show(match(Za 47 p).take n with|[]=>[] |y::r=>y++r.flatMap λz=>gp::z)=_;cases(Za 47 p).take n<;>rfl
theorem CK{p t:Text}:Af p t=da↔∃r,p=t++47::r:=by
 unfold Af;rw[decide_eq_true_eq];constructor
 .intro e;refine{p.drop (t.length+1),?_};have:=Ph (t.length+1) p;rw[e] at this;rw[<-this];simp
 .rintro⟨r,rfl⟩;rw[show t++47::r=(t++[47])++r by simp];exact lT (by simp)
theorem LA{p t:Text}(a:p≠[]):t∈kC p↔qd p t=da:=by
 rw[sO a,aa6,Mb];unfold qd;rw[ki,decide_eq_true_eq,CK];constructor
 .rintro⟨n,b,rfl⟩;have b:=dm.mp b;cases n with
  |zero=>exact .inl rfl
  |succ n=>
   right
   refine{ui ((Za 47 p).drop (n+1)),?_};rw[<-dD,Ph,gz]
   .intro e;have:=wc He e;rw[rd,uj] at this;omega
   .intro e;have:=wc He e;rw[ue,uj] at this;omega
 .rintro(rfl|⟨r,e⟩)
  .refine{0,dm.mpr ?_,rfl};exact hI.mpr (Ki 47 p)
  .refine{(Za 47 t).length,dm.mpr ?_,?_}
   .rw[e,ot,wd];have:=hI.mpr (Ki 47 r);omega
   .rw[e,ot,XB,gz]
theorem HX(l:List Text)(n:Nat):(ui (l.take n)).length<=(ui l).length:=by
 by_cases a:l.take n=[]
 .rw[a];exact Pd _
 .by_cases b:l.drop n=[]
  .have:=Ph n l;rw[b,sj] at this;rw[this];exact rb _
  .have:=dD a b;rw[Ph] at this;rw[this,wd];omega
theorem bV{p:Text}(c:p≠[]):(kC p).Pairwise λa b=>b.length<=a.length:=by
 rw[sO c,List.pairwise_reverse,Ti];refine aaL.imp λ{i j} h=>?_;have:=HX ((Za 47 p).take j) i;rwa[FH,ml (by omega)] at this
theorem oE:Vabldc.BUILD=Fi:=by decide
theorem J2(u:Text):Jh (mj u)=u:=by
 unfold Jh mj;by_cases h:u=[]
 .subst h;rfl
 .rw[oa h];have:(u++[47]++Fi).length - 6=u.length:=by
   simp[Fi]
  rw[this,cf];exact XB
theorem Nw(h:Ab x t){u:Text}:u∈Nc x↔yr t u=da:=by
 unfold yr Nc;rw[oE,<-sx,Mb];constructor
 .rintro⟨e,a,rfl⟩;obtain⟨b,c⟩:=Mc.mp a;obtain⟨f,hf,rfl⟩:=h.mem.mp b;have c:f.path=mj (Jh f.path):=Qe c;show(fileAt t (mj (Jh f.path))).isSome=da;rw[<-c,Cz h.up hf];rfl
 .intro z;obtain⟨f,e⟩:=GB.mp z;obtain⟨b,c⟩:=Gp e;have d:Jh f.path=u:=by rw[c,J2]
  refine{ent f,Mc.mpr {h.mem.mpr ⟨f,b,rfl⟩,?_},d};show decide (f.path=mj (Jh f.path))=da;rw[d,c];exact Xc rfl
theorem QT(h:Ab x t):(Nc x).Nodup:=by
 unfold Nc;refine Ti.mpr (tT (λ{e f} a hf b z=>?_) ((Ti.mp h.nd).sublist zl));have c:e.1=mj (Jh e.1):=by simpa[Wt] using(Mc.mp a).2
 have d:f.1=mj (Jh f.1):=by simpa[Wt] using(Mc.mp hf).2
 exact b (by rw[c,d,z])
theorem OI(h:Ab x t)(u:Text):(Nc x).contains u=yr t u:=by
 rw[tf,qT,Nw h]
theorem Zw(h:Ab x t){p:Text}(a:p≠[]):aroundOf (Nc x) p=mI t p:=by
 unfold mI;cases e:(kC p).find? (yr t) with
 |none=>
  refine wC λu b=>?_;cases hd:qd p u with
  |false=>rfl
  |true=>
   have:=mr.mp e u ((LA a).mpr hd);exact absurd ((Nw h).mp b) this
 |some u=>
  obtain⟨b,c,d,f,g⟩:=List.find?_eq_some_iff_append.mp e;refine tD ((Nw h).mpr b) ((LA a).mp (EH e)) λv i hd=>?_;have j:=(LA a).mpr hd;rw[f] at j;rcases Pe.mp j with q|q
  .have:=g v q;rw[(Nw h).mp i] at this;cases this
  .rcases jc.mp q with rfl|q
   .exact rb _
   .have:=bV a;rw[f] at this;exact(Ui.mp (aaE.mp this).2.1).1 v q
theorem a7(u:Text):Eg u Fi≠[]:=by
 rw[<-sx];unfold mj;by_cases h:u=[]
 .rw[qa h];decide
 .rw[oa h];simp
theorem J7(u:Text):qd (mj u) u=da:=by
 unfold qd mj;by_cases h:u=[]
 .simp[h]
 .rw[oa h,ki];exact .inr (CK.mpr {Fi,by simp})
theorem Z4(h:Ab x t){r:List Int}(a:Ow x r):r=Fd (vr (Ju (Vabldc.packages t))):=by
 obtain⟨b,c,d,rfl⟩:=a;rw[ls,kx]
 congr 2
 refine order_eq d (c.nodup_iff.mpr (QT h)) λu=>?_;rw[c.mem_iff,Nw h,Mc,List.mem_flatMap];constructor
 .intro g;refine{?_,g};unfold yr at g;rw[oE,<-sx] at g;obtain⟨f,e⟩:=GB.mp g;obtain⟨i,j⟩:=Gp e;refine{f,i,?_};rw[j];refine(LA ?_).mpr (J7 u);rw[sx];exact a7 u
 .exact And.right
theorem E1(h:Ab x t){p:Text}{r:List Int}(a:Jz x p r):r=Fd (abi t p):=by
 unfold abi;rcases a with⟨b,rfl⟩ |⟨b,c,rfl⟩ |⟨b,u,d,hd,e,rfl⟩
 .rw[qa b];rfl
 .rw[oa (by simp[b]),<-Zw h (Mg b),wC c];rfl
 .rw[oa (by simp[b]),<-Zw h (Mg b),tD d hd e];rfl
theorem L4(h:Ab x t){r:List Int}(a:zw x r):r=Fd (vr (Ju (t.map λf=>f.path))):=by
 obtain⟨b,c,d,rfl⟩:=a;rw[ls,kx]
 congr 2
 exact up_eq (nG d (c.nodup_iff.mpr h.nd)) (GD h.up) λu=>by rw[c.mem_iff,h.keys.mem_iff]
theorem C3(h:Ab x t)(a:ts.Perm (x.map (·.1)))(b:Cj ts):ts=t.map λf=>f.path:=up_eq (nG b (a.nodup_iff.mpr h.nd)) (GD h.up) λu=>by rw[a.mem_iff,h.keys.mem_iff]
theorem V6{s:Tg}(h:Ab x s.tree){p:Text}{r:List Int}(a:Zm x p r):r=Fd (oI s (.get p)):=by
 unfold Zm at a;rw[a];show _=Fd (if gb p=ma then pI Vabldc.PATH else _);by_cases b:gb p=ma
 .rw[qa b,qa b];rfl
 .rw[oa b,oa b,h.look p];cases fileAt s.tree p<;>rfl
open Vabldc (Text textBefore put inOrder within clashes putFile fileAt File isAt)
theorem sQ:∀(ts:List Text)(y:List Ent),(y.map (·.1)).Nodup->((ts.foldl (λz p=>md z (ve p) (Vg p)) y).map (·.1)).Nodup
 |[],y,h=>h
 |t::ts,y,h=>sQ ts _ (NM h)
theorem aL:∀(ts:List Text)(y:List Ent)(u:Text),u∈(ts.foldl (λz p=>md z (ve p) (Vg p)) y).map (·.1)↔u∈y.map (·.1)\/∃q∈ts,ve q=u
 |[],y,u=>by simp
 |t::ts,y,u=>by
  rw[Bm,aL ts _ u,JK];have:(u∈if ve t∈y.map (·.1) then y.map (·.1) else y.map (·.1)++[ve t])↔u∈y.map (·.1)\/ve t=u:=by
   by_cases h:ve t∈y.map (·.1)
   .rw[qa h];exact{.inl,λz=>z.elim id λe=>e▸h}
   .rw[oa h,Pe,dC];exact or_congr Iff.rfl eq_comm
  rw[this];constructor
  .rintro((h|h) |⟨q,a,e⟩)
   .exact .inl h
   .exact .inr {t,by simp,h}
   .exact .inr {q,by simp[a],e}
  .rintro(h|⟨q,a,e⟩)
   .exact .inl (.inl h)
   .rcases jc.mp a with rfl|a
    .exact .inl (.inr e)
    .exact .inr ⟨q,a,e⟩
theorem QD{p t:Text}(c:gb t=da)(h:qd t p=da):Je p t≠[]/\Eg p (Je p t)=t:=by
 unfold Je Eg;by_cases e:p=[]
 .subst e;exact{Mg c,rfl}
 .have d:p.isEmpty=ma:=by cases p with
   |nil=>exact absurd rfl e
   |cons a b=>rfl
  rw[gw c] at h;obtain⟨r,f,rfl⟩:=(xx e).mp h;simp only[d,yc,Ub];have:(p++47::r).drop (p.length+1)=r:=by
   rw[show p++47::r=(p++[47])++r by simp];exact abj (by simp)
  rw[this];exact⟨f,rfl⟩
theorem y8(p y r:Text):Eg p (y++r)=Eg p y++r:=by
 unfold Eg;by_cases e:p.isEmpty=da
 .rw[qa e,qa e]
 .rw[oa e,oa e];simp
theorem Wp(h:Ab x t){p q:Text}:q∈inside x p↔∃f∈t,qd f.path p=da/\q=Je p f.path:=by
 unfold inside;rw[Mb];constructor
 .rintro⟨u,a,rfl⟩;obtain⟨b,c⟩:=Mc.mp a;obtain⟨f,hf,rfl⟩:=h.OA.mp b;exact⟨f,hf,c,rfl⟩
 .rintro⟨f,hf,b,rfl⟩;exact{f.path,Mc.mpr {h.OA.mpr ⟨f,hf,rfl⟩,b},rfl}
theorem val_eq(h:Ab x t){p q:Text}(a:q∈inside x p):Vg q=if(fileAt t (Eg p (ve q))).isSome=da then ve q else ve q++[gp]:=by
 obtain⟨f,hf,hd,rfl⟩:=(Wp h).mp a;obtain⟨b,c⟩:=QD (h.path f hf) hd
 generalize d:Je p f.path=q at b c
 have e:=gz q;unfold Vg ve;cases i:Za 47 q with
 |nil=>exact absurd i (Ki 47 q)
 |cons y m=>
  rw[i] at e;show(if(y::m).length=1 then y else y++[47])=if(fileAt t (Eg p y)).isSome=da then y else y++[47]
  cases m with
  |nil=>
   have:y=q:=by rw[<-e];simp[ui]
   rw[qa (show [y].length=1 from rfl),this,c,Cz h.up hf];rfl
  |cons z m=>
   rw[oa (by simp)];have j:q=y++47::ui (z::m):=by
    rw[<-e];exact dD (l:=[y]) (by simp) (by simp) |>.trans (by simp[ui])
   rw[oa];intro w;obtain⟨g,k⟩:=GB.mp w;obtain⟨n,o⟩:=Gp k;have r:f.path=g.path++47::ui (z::m):=by rw[<-c,j,y8,<-o]
   have s:ui (z::m)≠[]:=λu=>by
    have:=h.path f hf;rw[r,u,xM] at this;cases this
   have v:within g.path f.path=da:=(xx (Mg (h.path g n))).mpr {_,s,r};have:=h.cl g n f hf;unfold clashes at this;rw[v] at this;cases this
theorem gM(h:Ab x t)(p:Text):uT t p=da↔¬(p≠[]/\inside x p=[]):=by
 unfold uT;rw[ki,Ze];constructor
 .rintro(e|⟨f,hf,e⟩) ⟨a,b⟩
  .exact a (xr.mp e)
  .have:=(Wp h (p:=p)).mpr {f,hf,by rw[gw (h.path f hf)];exact e,rfl};rw[b] at this;cases this
 .intro z;by_cases a:p=[]
  .exact .inl (by rw[a];rfl)
  .right
   cases e:inside x p with
   |nil=>exact absurd ⟨a,e⟩ z
   |cons q m=>
    obtain⟨f,hf,hd,_⟩:=(Wp h).mp (show q∈inside x p by rw[e];simp);exact{f,hf,by rw[<-gw (h.path f hf)];exact hd}
theorem Z0(h:Ab x t){p:Text}{r:List Int}(a:Kw x p r):r=Fd (abk t p):=by
 unfold abk;rcases a with⟨b,rfl⟩ |⟨b,c,d,rfl⟩ |⟨b,c,g,d,i,rfl⟩
 .rw[qa b];rfl
 .rw[oa (by simp[b]),qa]
  .rfl
  .cases e:uT t p with
   |false=>rfl
   |true=>exact absurd ⟨c,d⟩ ((gM h p).mp e)
 .rw[oa (by simp[b]),oa (by rw[(gM h p).mpr c];simp),ls,kx]
  congr 2
  have j:((Jf (inside x p)).map (·.1)).Nodup:=sQ _ [] (by simp);have k:g=inOrder ((t.filter λf=>within p f.path).map λf=>(uu (Je p f.path)).headD []):=by
   refine order_eq i (d.nodup_iff.mpr j) λu=>?_;rw[d.mem_iff];unfold Jf;rw[aL,Mb (l:=t.filter λf=>within p f.path)];have m:∀f∈t,qd f.path p=da->(uu (Je p f.path)).headD []=ve (Je p f.path):=λf hf hd=>by
    rw[cw (QD (h.path f hf) hd).1];rfl
   constructor
   .rintro(z|⟨q,n,rfl⟩)
    .simp at z
    .obtain⟨f,hf,hd,rfl⟩:=(Wp h).mp n;exact{f,Mc.mpr {hf,by rw[<-gw (h.path f hf)];exact hd},m f hf hd}
   .rintro⟨f,hf,rfl⟩;obtain⟨o,s⟩:=Mc.mp hf;have hd:qd f.path p=da:=by rw[gw (h.path f o)];exact s
    exact .inr {_,(Wp h).mpr ⟨f,o,hd,rfl⟩,(m f o hd).symm}
  rw[<-k];refine Am λu v=>?_;obtain⟨e,w,y⟩:=Mb.mp (d.mem_iff.mp v);obtain⟨q,n,A⟩:=lD w;rw[<-y,Fj j w,A];exact val_eq h n
theorem OX{t:Text}{l:Vabldc.Label}(h:Qh t=ba l):zf t=l.package/\uh t=Eg l.package l.name:=by
 have a:=(Zy t).2 l h;have b:xf l.package=da:=by
  unfold Qh at h;simp only at h;split at h
  .rename_i d
   cases h;exact d.2.1
  .cases h
 have d:58∉l.package:=by
  unfold xf at b;rcases(ki _ _).mp b with e|e
  .rw[xr.mp e];simp
  .exact uN e
 unfold vp at a;rw[zq] at a;have f:t.findIdx (·==58)=2+l.package.length:=by
  rw[<-a];rw[show [47,47]++(l.package++58::l.name)=([47,47]++l.package)++(58::l.name) by simp];rw[List.findIdx_append];have g:([47,47]++l.package).findIdx (·==58)=([47,47]++l.package).length:=by
   rw[E'];intro c i;rcases Pe.mp i with z|z
   .simp at z;subst z;rfl
   .simp;intro w;subst w;exact d z
  rw[oa (by rw[g];exact Zk _),dS];simp;omega
 have j:zf t=l.package:=by
  unfold zf;rw[f,<-a,show [47,47]++(l.package++58::l.name)=([47,47]++l.package)++(58::l.name) by simp,lT (by simp;omega)];rfl
 refine{j,?_};unfold uh;rw[j,f]
 congr 1
 rw[<-a,show [47,47]++(l.package++58::l.name)=([47,47]++l.package++[58])++l.name by simp];exact abj (by simp;omega)
theorem W6(h:Ab x t)(u:Text):lj x u=Fd (abl t u):=by
 unfold lj abl;cases e:Qh u with
 |none=>rfl
 |some l=>
  obtain⟨a,b⟩:=OX e;simp only[ER,Bool.true_eq_false,Ub];rw[a,b,OI h,h.look];by_cases c:yr t l.package=ma
  .rw[qa c,qa c];rfl
  rw[oa c,oa c];by_cases d:gb (Eg l.package l.name)=ma
  .rw[qa d,qa d];rfl
  rw[oa d,oa d,Zw h (Mg (by simpa using d))];by_cases g:mI t (Eg l.package l.name)=ba l.package
  .rw[oa (by simpa using g),oa (by simpa using g)];cases i:fileAt t (Eg l.package l.name) with
   |none=>rfl
   |some f=>rfl
  .rw[qa g,qa g];rfl
theorem U0{y:List Ent}{u:List File}(h:Ab x t)(g:Ab y u)(p:Text):df x y p=match vT t p,vT u p with
  |some a,ba b=>if a=b then [] else [vm "~ "++p]
  |some _,ia=>[vm "- "++p]
  |none,ba _=>[vm "+ "++p]
  |none,ia=>[]:=by
 unfold df vT;rw[h.look p,g.look p];have c:vm "~ "=[126,32]:=by decide
 have d:vm "- "=[45,32]:=by decide
 have e:vm "+ "=[43,32]:=by decide
 rw[c,d,e]<;>cases fileAt t p<;>cases fileAt u p<;>rfl
theorem FO{y:List Ent}{u:List File}(h:Ab x t)(g:Ab y u){r:List Int}(a:zx x y r):r=Fd (vr (Ju (qI t u))):=by
 obtain⟨b,⟨c,d⟩,i,rfl⟩:=a;rw[ls,kx]
 congr 2
 have e:b=inOrder ((t++u).map λf=>f.path):=order_eq i c λp=>by
  rw[d p,h.keys.mem_iff,g.keys.mem_iff,vf,Pe]
 unfold qI;rw[<-e]
 congr 1
 funext p
 exact U0 h g p
def Fl(ks:List Cb)(s:Tg):Prop:=∀k:Int,(jj ks k=ia/\Qn s k=ia)\/∃y u,jj ks k=ba y/\Qn s k=ba u/\Ab y u
theorem cW(a:List Cb)(k j:Int)(x:List Ent):jj (Sn a k x) j=if j=k then ba x else jj a j:=by
 unfold jj Sn;by_cases b:(a.any λe=>decide (e.1=k))=da
 .rw[qa b,List.find?_map];by_cases e:j=k
  .subst e;rw[qa rfl];obtain⟨f,hf,c⟩:=Ze.mp b;have c:f.1=j:=by simpa using c
   have d:(λe:Cb=>decide (e.1=j))∘(λe:Cb=>if e.1=j then(e.1,x) else e)=λe:Cb=>decide (e.1=j):=by
    funext e
    show decide ((if e.1=j then(e.1,x) else e).1=j)=_;by_cases z:e.1=j
    .rw[qa z]
    .rw[oa z]
   rw[d];cases h:a.find? λe=>decide (e.1=j) with
   |none=>
    have:=mr.mp h f hf;simp[c] at this
   |some g=>
    have:=oy h;have this:g.1=j:=by simpa using this
    simp[this]
  .rw[oa e];have d:(λe:Cb=>decide (e.1=j))∘(λe:Cb=>if e.1=k then(e.1,x) else e)=λe:Cb=>decide (e.1=j):=by
    funext e
    show decide ((if e.1=k then(e.1,x) else e).1=j)=_;by_cases z:e.1=k
    .rw[qa z]
    .rw[oa z]
   rw[d];cases h:a.find? λe=>decide (e.1=j) with
   |none=>rfl
   |some g=>
    have:=oy h;have this:g.1=j:=by simpa using this
    have i:g.1≠k:=λz=>e (this.symm.trans z);simp[i]
 .rw[oa b,List.find?_append];by_cases e:j=k
  .subst e;rw[qa rfl];have:(a.find? λe=>decide (e.1=j))=ia:=mr.mpr λf hf z=>b (Ze.mpr ⟨f,hf,z⟩);rw[this];simp
  .rw[oa e];cases h:a.find? λe=>decide (e.1=j) with
   |none=>
    have i:¬k=j:=λz=>e (Eq.symm z);simp[List.find?,i]
   |some g=>simp
theorem JY(s:Tg){k:Int}(a:0<=k)(j:Int):Qn {s with kept:=(k.toNat,s.tree)::s.kept.filter λx=>x.1 != k.toNat} j=if j=k then ba s.tree else Qn s j:=by
 unfold Qn;by_cases b:0<=j
 .rw[qa b,qa b];show((((k.toNat,s.tree)::s.kept.filter λx=>x.1 != k.toNat).find? λx=>x.1==j.toNat).map λx=>x.2)=_;rw[ju];by_cases e:j=k
  .subst e;simp
  .have:¬k.toNat=j.toNat:=by omega
   rw[oa e];simp only[this,Oh,decide_false,yc];rw[show((k.toNat==j.toNat))=ma by simpa using this];simp only
   congr 1
   rw[List.find?_filter]
   congr 1
   funext x
   by_cases z:x.1=j.toNat
   .simp[z];omega
   .simp[z]
 .rw[oa b,oa b,oa (by omega)]
theorem z1{a:List Cb}{s:Tg}(h:Ab x s.tree)(b:Fl a s){k:Int}{r:List Int}{d:List Ent}{f:List Cb}(g:fx x a k r d f):r=Fd (Ke s (.keep k)).2/\Ab d (Ke s (.keep k)).1.tree/\Fl f (Ke s (.keep k)).1:=by
 obtain⟨rfl,g⟩:=g;show r=Fd (if k< 0\/3< k then _ else _:Tg×xT).2/\Ab d (if k< 0\/3< k then _ else _:Tg×xT).1.tree/\Fl f (if k< 0\/3< k then _ else _:Tg×xT).1;by_cases c:k< 0\/4<=k
 .rw[qa c] at g;obtain⟨rfl,rfl⟩:=g;have i:k< 0\/3< k:=by omega
  simp only[i,Ld];exact⟨rfl,h,b⟩
 .rw[oa c] at g;obtain⟨rfl,rfl⟩:=g;have i:¬(k< 0\/3< k):=by omega
  simp only[i,Ub];refine{rfl,h,λj=>?_};rw[cW,JY s (by omega)];by_cases e:j=k
  .rw[qa e,qa e];exact .inr {_,_,rfl,rfl,h}
  .rw[oa e,oa e];exact b j
theorem QZ{a:List Cb}{s:Tg}(h:Ab x s.tree)(b:Fl a s){k:Int}{r:List Int}{c:List Ent}{d:List Cb}(e:Pw x a k r c d):r=Fd (Ke s (.back k)).2/\Ab c (Ke s (.back k)).1.tree/\Fl d (Ke s (.back k)).1:=by
 obtain⟨rfl,e⟩:=e;unfold Ke;rcases b k with⟨f,g⟩ |⟨y,u,f,g,i⟩
 .rw[f] at e;obtain⟨rfl,rfl⟩:=e;simp only[g];exact⟨rfl,h,b⟩
 .rw[f] at e;obtain⟨rfl,rfl⟩:=e;simp only[g];refine{by rw[i.len];rfl,i,λj=>?_};exact b j
theorem NU{a:List Cb}{s:Tg}(h:Ab x s.tree)(b:Fl a s){k:Int}{r:List Int}{c:List Ent}{d:List Cb}(e:Sv x a k r c d):r=Fd (Ke s (.changed k)).2/\Ab c (Ke s (.changed k)).1.tree/\Fl d (Ke s (.changed k)).1:=by
 obtain⟨rfl,rfl,e⟩:=e;show r=Fd (match Qn s k with|some y=>vr (Ju (qI s.tree y)) |none=>pI Vabldc.KEPT)/\_;rcases b k with⟨f,g⟩ |⟨y,u,f,g,i⟩
 .rw[f] at e;rw[g];exact⟨e,h,b⟩
 .rw[f] at e;rw[g];exact{FO h i e,h,b}
open Vabldc (Text textBefore put inOrder within clashes putFile fileAt File isAt)
theorem zN{t:Text}(h:t.length< 10^12):ag t=sI t:=by
 unfold ag sI;rw[BN h,cf];rfl
theorem F3(h:Ab x t){r:List Int}(a:Rz x r):r=Fd (vr (abm t)):=by
 obtain⟨b,c,d,rfl⟩:=a;rw[ls,C3 h c d];unfold abm Hi;have e:vm "."=[46]:=by decide
 rw[e,List.flatMap_map]
 congr 2
 have:∀l:List File,(∀f∈l,f∈t)->(l.flatMap λf=>ag f.path++ag (bytesOf x f.path))=l.flatMap λf=>sI f.path++sI f.bytes:=by
  intro l
  induction l with
  |nil=>intro _;rfl
  |cons f l i=>
   intro j;have hf:=j f (by simp);have k:bytesOf x f.path=f.bytes:=by
    unfold bytesOf;rw[h.look,Cz h.up hf];rfl
   have m:=mq (h.path f hf);have n:=h.b f hf;rw[Eu,Eu,i λg o=>j g (by simp[o]),k,zN (t:=f.path) (by omega),zN (t:=f.bytes) (by omega)]
 exact this t λf hf=>hf
theorem QF:Gd 58=ma:=by decide
theorem oX{u:Text}(a:u[i]?=ba 58)(b:(u.take i).all Gd=da):u.takeWhile Gd=u.take i/\u.dropWhile Gd=u.drop i:=by
 have e:u=u.take i++u.drop i:=(Ph i u).symm;have hd:u.drop i=58::u.drop (i+1):=by
  have c:i< u.length:=by
   rcases Sg i u.length with h|h
   .exact h
   .rw[Xq h] at a;cases a
  rw[<-gy c]
  congr 1
  rw[Wd c] at a;exact Dd a
 have b:=Df.mp b;constructor
 .conv=>lhs;rw[e]
  rw[List.takeWhile_append_of_pos b,hd,List.takeWhile_cons_of_neg (by simp[QF]),sj]
 .conv=>lhs;rw[e]
  rw[List.dropWhile_append_of_pos b,hd,List.dropWhile_cons_of_neg (by simp[QF])]
theorem iE(t:Text)(p n:Nat):(t.take (p+n)).drop p=(t.drop p).take n:=by
 rw[ly]
 congr 1
 omega
theorem Hz(t:Text):Hf t=da↔t≠[]/\t.all Gd=da/\(t.length=1\/t.head?≠ba 48):=by
 unfold Hf;by_cases a:t=[]
 .rw[qa a];simp[a]
 .rw[oa a];by_cases b:t.all Gd=ma
  .rw[qa b,b];simp
  .rw[oa b];have c:t.all Gd=da:=by
    simp only[abg] at b;exact b
   rw[c];simp[a]
theorem aW{t:Text}{p n q:Nat}(h:rk t p=ba (n,q)):∃i,(t.drop p)[i]?=ba 58/\Hf ((t.drop p).take i)=da/\i<=4/\n=lk ((t.drop p).take i)/\q=p+i+1:=by
 unfold rk at h;rw[iE] at h
 generalize t.drop p=u at h⊢
 by_cases a:(u.take 5).contains 58=ma
 .rw[qa a] at h;cases h
 rw[oa a] at h;simp only at h;have b:58∈u.take 5:=by simpa using a
 have c:(u.take 5).findIdx (·==58)< (u.take 5).length:=mH.mpr {58,b,by simp};have d:(u.take 5)[(u.take 5).findIdx (·==58)]=58:=dk (ZR (w:=c))
 generalize(u.take 5).findIdx (·==58)=i at h c d
 have e:i<=4:=by rw[rd] at c;omega
 have f:(u.take 5).take i=u.take i:=by rw[FH,ml (by omega)]
 rw[f] at h;by_cases hd:Hf (u.take i)=ma
 .rw[qa hd] at h;cases h
 rw[oa hd] at h;have g:i< u.length:=by rw[rd] at c;omega
 have j:(u.take i).length=i:=by rw[rd];omega
 rw[j] at h;cases h;refine{i,?_,by simpa using hd,e,rfl,rfl};rw[rS] at d;rw[Wd g,d]
theorem kU{u a r:Text}(h:zr u=ba (a,r)):∃i,u[i]?=ba 58/\Hf (u.take i)=da/\a.length=lk (u.take i):=by
 unfold zr at h;simp only at h;split at h
 .cases h
 .rename_i b
  have c:¬(u.takeWhile Gd).isEmpty=da:=λz=>b (.inl z);have d:¬(1< (u.takeWhile Gd).length/\(u.takeWhile Gd).head?=ba 48):=λz=>b (.inr (.inr (.inl z)));have f:(u.dropWhile Gd).head?=ba 58:=Decidable.byContradiction λz=>b (.inr (.inr (.inr (.inl z))));have g:¬((u.dropWhile Gd).drop 1).length< lk (u.takeWhile Gd):=λz=>b (.inr (.inr (.inr (.inr z))));have e:=List.takeWhile_append_dropWhile (p:=Gd) (l:=u);have j:u.take (u.takeWhile Gd).length=u.takeWhile Gd:=by
   conv=>lhs;rw[<-e]
   have k:(u.takeWhile Gd++u.dropWhile Gd).takeWhile Gd=u.takeWhile Gd:=by rw[e]
   rw[k,XB]
  refine{(u.takeWhile Gd).length,?_,?_,?_}
  .have m:u[(u.takeWhile Gd).length]?=(u.takeWhile Gd++u.dropWhile Gd)[(u.takeWhile Gd).length]?:=by rw[e]
   rw[m,Px (rb _),yS,<-List.head?_eq_getElem?];exact f
  .rw[j,Hz];refine{λz=>c (by rw[z];rfl),List.all_takeWhile,?_};by_cases q:(u.takeWhile Gd).length=1
   .exact .inl q
   .refine .inr λz=>d {?_,z};have:(u.takeWhile Gd).length≠0:=λw=>c (by rw[zm.mp w];rfl);omega
  .rw[j];have:=wc (λo:Option (Text×Text)=>o.map λx=>x.1.length) h;simp only[abo,QB] at this;rw[<-this,rd];omega
theorem cZ{u:Text}(a:u[i]?=ba 58)(hd:Hf (u.take i)=da)(b:i<=8):zr u=if(u.drop (i+1)).length< lk (u.take i) then ia else ba ((u.drop (i+1)).take (lk (u.take i)),(u.drop (i+1)).drop (lk (u.take i))):=by
 obtain⟨d,e,f⟩:=(Hz _).mp hd;obtain⟨g,j⟩:=oX a e;have k:i< u.length:=by
  rcases Sg i u.length with h|h
  .exact h
  .rw[Xq h] at a;cases a
 have l:(u.take i).length=i:=by rw[rd];omega
 unfold zr;simp only;rw[g,j];have m:(u.drop i).drop 1=u.drop (i+1):=by rw[Hn]
 rw[m];have n:(u.drop i).head?=ba 58:=by rw[List.head?_drop,a]
 by_cases c:(u.drop (i+1)).length< lk (u.take i)
 .rw[qa (.inr (.inr (.inr (.inr c)))),qa c]
 .rw[oa c,oa];rintro(z|z|z|z|z)
  .exact d (xr.mp z)
  .rw[l] at z;omega
  .rcases f with q|q
   .omega
   .exact q z.2
  .exact z n
  .exact c z
theorem mQ:∀(t:Text)(a:Nat),a*10^t.length<=t.foldl (λn c=>10*n+(c - 48)) a
 |[],a=>by simp
 |c::t,a=>by
  rw[Bm,Oc];refine Bc ?_ (mQ t _);rw[Dm];refine Bc ?_ (aap (10^t.length) (Zo (10*a) (c - 48)));rw[nr (10^t.length) 10,<-Fu,nr a 10];exact rb _
theorem k7{t:Text}(hd:Hf t=da)(a:5<=t.length):10000<=lk t:=by
 obtain⟨b,d,f⟩:=(Hz _).mp hd;cases t with
 |nil=>exact absurd rfl b
 |cons c r=>
  have g:c≠48:=λe=>by
   rcases f with q|q
   .rw[q] at a;omega
   .exact q (by rw[e];rfl)
  have h:Gd c=da:=Df.mp d c (by simp);have i:48<=c:=by
   unfold Gd at h;simp only[Kc,decide_eq_true_eq] at h;exact h.1
  unfold lk;rw[Bm];refine Bc ?_ (mQ r _);have j:1<=10*0+(c - 48):=by omega
  have k:10^4<=10^r.length:=sy (by decide) (by simp at a;omega)
  calc 10000=1*10^4:=by decide
   _<=(10*0+(c - 48))*10^r.length:=Nat.mul_le_mul j k
theorem bJ(t:Text)(p:Nat):(∃a q,Eh t p=ba (a,q)/\zr (t.drop p)=ba (a,t.drop q))\/(Eh t p=ia/\(zr (t.drop p)=ia\/∃a r,zr (t.drop p)=ba (a,r)/\10000<=a.length)):=by
 unfold Eh;cases e:rk t p with
 |none=>
  refine .inr {rfl,?_};cases b:zr (t.drop p) with
  |none=>exact .inl rfl
  |some ar=>
   obtain⟨a,r⟩:=ar;refine .inr {a,r,rfl,?_};obtain⟨i,d,f,g⟩:=kU b;rw[g];refine k7 f ?_;have k:i< (t.drop p).length:=by
    rcases Sg i (t.drop p).length with h|h
    .exact h
    .rw[Xq h] at d;cases d
   have l:((t.drop p).take i).length=i:=by rw[rd];omega
   rw[l];refine Decidable.byContradiction λm=>?_;have o:i<=4:=by omega
   unfold rk at e;rw[iE] at e
   generalize t.drop p=u at e d f k l
   have s:(u.take 5)[i]?=ba 58:=by rw[aaF,qa (by omega)];exact d
   have v:58∈u.take 5:=vd s;have w:¬(u.take 5).contains 58=ma:=by simpa using v
   rw[oa w] at e;simp only at e;have hf:(u.take 5).findIdx (·==58)=i:=by
    rw[List.findIdx_eq (by rw[rd];omega)];have x:i< (u.take 5).length:=by rw[rd];omega
    rw[Wd x] at s;refine{by rw[Dd s];rfl,λj y=>?_};obtain⟨A,B,C⟩:=(Hz _).mp f;have D:j< (u.take i).length:=by omega
    have:=Df.mp B (u.take i)[j] (BH D);rw[rS] at this⊢;cases z:u[j]==58 with
    |false=>rfl
    |true=>
     rw[dk z,QF] at this;cases this
   rw[hf] at e;have E:(u.take 5).take i=u.take i:=by rw[FH,ml (by omega)]
   rw[E,oa (by rw[f];simp)] at e;cases e
 |some nq=>
  obtain⟨n,q⟩:=nq;obtain⟨i,d,f,g,rfl,rfl⟩:=aW e;have w:=cZ d f (by omega);simp only;rw[iE];have F:t.drop (p+i+1)=(t.drop p).drop (i+1):=by rw[Hn,HS]
  rw[F,w];by_cases c:((t.drop p).drop (i+1)).length< lk ((t.drop p).take i)
  .rw[qa c,qa]
   .exact .inr {rfl,.inl rfl}
   .rw[rd];omega
  .rw[oa c,oa]
   .exact .inl {_,_,rfl,by rw[<-F,Hn]}
   .rw[rd];omega
def ao(T l:List File):Prop:=Cy l=da/\(∀g∈l,∀f∈T,f.path≠g.path/\clashes g.path f.path=ma)/\T.length+l.length<=64/\Vf T+Vf l<=8192
theorem CI{T:List File}(h:Ab x T){p b:Text}(c:∀f∈T,f.path≠p):(putFile ⟨p,b⟩ T).Perm (⟨p,b⟩::T):=by
 have d:(putFile ⟨p,b⟩ T).Nodup:=(Ti.mp (Hq (Js ⟨p,b⟩ h.up))).imp λ{a b} h e=>h (by rw[e]);have i:((⟨p,b⟩:File)::T).Nodup:=Ui.mpr {λf hf e=>c f hf (by rw[<-e]),(Ti.mp (Hq h.up)).imp λ{a b} h e=>h (by rw[e])};refine(bC d i).mpr λg=>?_;rw[Yn _ _ h.up,jc];exact{λz=>z.imp id And.left,λz=>z.imp id λw=>{w,c g w}}
theorem Mz{l m:List File}(h:l.Perm m):Vf l=Vf m:=by
 rw[Xl,Xl,(h.map λf=>f.bytes.length).sum_nat]
theorem Ur(f:File)(l:List File):Vf (f::l)=f.bytes.length+Vf l:=by
 rw[Xl,Xl,Nb,Em]
theorem YC{T:List File}(h:Ab x T)(p b:Text):(Vd x p b).1=[1]↔gb p=da/\b.length<=4096/\(∀f∈T,f.path≠p/\clashes p f.path=ma)/\T.length+1<=64/\Vf T+b.length<=8192:=by
 unfold Vd;by_cases a:gb p=ma
 .rw[qa a,a];simp
 rw[oa a];have c:gb p=da:=by simpa using a
 by_cases d:4096< b.length
 .rw[qa d];constructor
  .intro z;exact absurd z (by simp)
  .rintro⟨_,z,_⟩;omega
 rw[oa d,EA h c];by_cases g:(T.any λf=>clashes p f.path)=da
 .rw[qa g];constructor
  .intro z;exact absurd z (by simp)
  .rintro⟨_,_,z,_⟩;obtain⟨f,hf,e⟩:=Ze.mp g;rw[(z f hf).2] at e;cases e
 rw[oa g,bE h];have i:∀f∈T,clashes p f.path=ma:=λf hf=>by
  cases e:clashes p f.path with
  |false=>rfl
  |true=>exact absurd (Ze.mpr ⟨f,hf,e⟩) g
 rw[h.look p];cases e:fileAt T p with
 |some f=>
  obtain⟨j,k⟩:=Gp e;constructor
  .intro z;split at z
   .exact absurd z (by simp)
   .exact absurd z (by simp)
  .rintro⟨_,_,z,_⟩;exact absurd k (z f j).1
 |none=>
  have l:=ZE e;have m:=CI h (b:=b) l;have n:(putFile ⟨p,b⟩ T).length=T.length+1:=by rw[m.length_eq];rfl
  have o:Vf (putFile ⟨p,b⟩ T)=b.length+Vf T:=by rw[Mz m,Ur]
  by_cases q:Fm (putFile ⟨p,b⟩ T)=da
  .rw[q];obtain⟨r,s⟩:=fw.mp q;constructor
   .intro _;exact{c,by omega,λf hf=>{l f hf,i f hf},by omega,by omega}
   .intro _;rfl
  .have t:Fm (putFile ⟨p,b⟩ T)=ma:=by simpa using q
   rw[t];constructor
   .intro z;exact absurd z (by simp)
   .rintro⟨_,_,_,u,v⟩;exact absurd (fw.mpr {by omega,by omega}) q
theorem qG{T:List File}(h:Ab x T){p b:Text}(a:(Vd x p b).1=[1]):Ab (Vd x p b).2 (putFile ⟨p,b⟩ T)/\(putFile ⟨p,b⟩ T).Perm (⟨p,b⟩::T):=by
 obtain⟨c,d,g,i,j⟩:=(YC h p b).mp a;have k:=CI h (b:=b) λf hf=>(g f hf).1;have l:(putFile ⟨p,b⟩ T).length=T.length+1:=by rw[k.length_eq];rfl
 have m:Vf (putFile ⟨p,b⟩ T)=b.length+Vf T:=by rw[Mz k,Ur]
 have n:Fm (putFile ⟨p,b⟩ T)=da:=fw.mpr {by omega,by omega};have o:(T.any λf=>clashes p f.path)=ma:=vB.mpr λf hf=>by rw[(g f hf).2];simp
 refine{?_,k};have e:(Vd x p b).2=md x p b:=by
  unfold Vd;rw[oa (by simp[c]),oa (by omega),EA h c,oa (by rw[o];simp),bE h,oa (by rw[n];simp)]
 rw[e];exact h.put c d o n
theorem aF{T:List File}(h:Ab x T)(f:File)(l:List File):ao T (f::l)↔(Vd x f.path f.bytes).1=[1]/\ao (putFile f T) l:=by
 constructor
 .rintro⟨a,b,c,d⟩;rw[Ur] at d;rw[Oc] at c;unfold Cy at a;simp only[Kc,decide_eq_true_eq] at a;obtain⟨e,i,j,m⟩:=a;have n:=(YC h f.path f.bytes).mpr {e,i,λg o=>b f (by simp) g o,by omega,by omega};obtain⟨_,p⟩:=qG h n;refine{n,m,λg o k q=>?_,?_,?_}
  .rcases jc.mp (p.mem_iff.mp q) with rfl|q
   .have:=Df.mp j g o;simp only[Kc,bne_iff_ne,ne_eq,IH] at this;exact{λz=>this.1 z.symm,by rw[nA];exact this.2}
   .exact b g (by simp[o]) k q
  .rw[p.length_eq,Oc];omega
  .rw[Mz p,Ur];show f.bytes.length+_+_<=_;omega
 .rintro⟨n,a,b,c,d⟩;obtain⟨_,p⟩:=qG h n;obtain⟨r,s,t,u,v⟩:=(YC h f.path f.bytes).mp n;rw[p.length_eq,Oc] at c;rw[Mz p,Ur] at d;have d:f.bytes.length+Vf T+Vf l<=8192:=d;refine{?_,λg o k q=>?_,by rw[Oc];omega,by rw[Ur];omega}
  .unfold Cy;simp only[Kc,decide_eq_true_eq];refine{r,s,Df.mpr λg o=>?_,a};obtain⟨w,y⟩:=b g o f (p.mem_iff.mpr (by simp));simp only[Kc,bne_iff_ne,ne_eq,IH];exact{λz=>w z.symm,by rw[nA];exact y}
  .rcases jc.mp o with rfl|o
   .exact t k q
   .exact b g o k (p.mem_iff.mpr (by simp[q]))
theorem oW{T:List File}{f:File}{l:List File}(h:10000<=f.path.length):¬ao T (f::l):=λz=>by
 have:=z.1;unfold Cy at this;simp only[Kc] at this;have:=mq this.1;omega
theorem DY{T:List File}{f:File}{l:List File}(h:10000<=f.bytes.length):¬ao T (f::l):=λz=>by
 have:=z.1;unfold Cy at this;simp only[Kc,decide_eq_true_eq] at this;have:=this.2.1;omega
theorem FP(t:Text):∀(k p:Nat)(x:List Ent)(T:List File),Ab x T->
  (∃y l U,zi k t p x=ba y/\tI k (t.drop p)=ba l/\ao T l/\Ab y U/\U.Perm (l++T))\/(zi k t p x=ia/\∀l,tI k (t.drop p)=ba l->¬ao T l)
 |0,p,x,T,h=> .inr {rfl,λl z=>by cases z}
 |k+1,p,x,T,h=>by
  unfold zi tI;have d:vm "."=[46]:=by decide
  rw[d];by_cases c:t.drop p=[46]
  .rw[qa c,qa c];exact .inl {x,[],T,rfl,rfl,{rfl,λg e=>(by cases e),by simpa using h.n,by simpa[Vf] using h.dB},h,JH _}
  .rw[oa c,oa c];rcases bJ t p with⟨a,q,f,i⟩ |⟨f,i⟩
   .rw[f,i];simp only;rcases bJ t q with⟨b,j,m,n⟩ |⟨m,n⟩
    .rw[m,n];simp only;by_cases o:(Vd x a b).1=[1]
     .rw[qa o];obtain⟨S,s⟩:=qG h o;rcases FP t k j _ _ S with⟨y,l,U,u,v,w,A,B⟩ |⟨u,v⟩
      .refine .inl {y,⟨a,b⟩::l,U,u,by rw[v];rfl,(aF h ⟨a,b⟩ l).mpr ⟨o,w⟩,A,B.trans ?_};refine(s.append_left l).trans ?_;exact MH
      .refine .inr {u,λl C D=>?_};obtain⟨E,F,rfl⟩:=Ie.mp C;exact v E F ((aF h ⟨a,b⟩ E).mp D).2
     .rw[oa o];refine .inr {rfl,λl C D=>?_};obtain⟨E,F,rfl⟩:=Ie.mp C;exact o ((aF h ⟨a,b⟩ E).mp D).1
    .rw[m];refine .inr {rfl,λl C=>?_};rcases n with n|⟨b,r,n,G⟩
     .rw[n] at C;cases C
     .rw[n] at C;obtain⟨E,F,rfl⟩:=Ie.mp C;exact DY G
   .rw[f];refine .inr {rfl,λl C=>?_};rcases i with i|⟨a,r,i,m⟩
    .rw[i] at C;cases C
    .rw[i] at C;simp only at C;split at C
     .cases C
     .obtain⟨E,F,rfl⟩:=Ie.mp C;exact oW m
theorem eP:Ab [] []:={JH _,gI,λf hf=>(by cases hf),λf hf=>(by cases hf),λf hf=>(by cases hf),by simp,by simp[Vf]}
theorem HI(l:List File):ao [] l↔Cy l=da/\Fm l=da:=by
 rw[fw];unfold ao;have e:Vf []=0:=rfl;rw[e];simp only[uj,QS];constructor
 .rintro⟨a,_,b,c⟩;exact⟨a,b,c⟩
 .rintro⟨a,b,c⟩;exact{a,λg d f hf=>(by cases hf),b,c}
theorem JP(t:Text):(∃y U,Vl t=ba y/\uI t=ba U/\Ab y U)\/(Vl t=ia/\uI t=ia):=by
 unfold Vl uI;rcases FP t (t.length+1) 0 [] [] eP with⟨y,l,U,c,d,h,i,j⟩ |⟨c,d⟩
 .rw[Fn] at d;rw[c,d];simp only;rw[qa ((HI l).mp h)];rw[sj] at j;have k:(l.map (·.path)).Nodup:=((j.map (·.path)).nodup_iff).mp (Hq i.up);have e:U=l.foldr putFile []:=abb (le:=λf g:File=>textBefore f.path g.path=da) (λa b _ _ m n=>by
   have:=Bt m n;rw[Vp] at this;cases this) i.up (Pu l) (j.trans (jK k).symm)
  exact .inl {y,U,rfl,by rw[e],i}
 .rw[Fn] at d;refine .inr {c,?_};cases e:tI (t.length+1) t with
  |none=>rfl
  |some l=>
   simp only;rw[oa];exact λz=>d l e ((HI l).mpr z)
theorem M0{s:Tg}(h:Ab x s.tree)(t:Text):(Fk x t).1=Fd (Ke s (.read t)).2/\Ab (Fk x t).2 (Ke s (.read t)).1.tree/\(Ke s (.read t)).1.kept=s.kept:=by
 unfold Fk Ke;rcases JP t with⟨y,U,a,b,c⟩ |⟨a,b⟩
 .rw[a];simp only[b];exact{by rw[c.len];rfl,c,by first|rfl|trivial}
 .rw[a];simp only[b];exact{rfl,h,by first|rfl|trivial}
theorem wX{s:Tg}(h:Ab x s.tree){t:Text}{r:List Int}(a:aq x t r):r=Fd (oI s (.compare t)):=by
 show r=Fd (match uI t with|some y=>vr (Ju (qI s.tree y)) |none=>pI Vabldc.ARCHIVE);unfold aq at a;rcases JP t with⟨y,U,b,c,d⟩ |⟨b,c⟩
 .rw[b] at a;rw[c];exact FO h d a
 .rw[b] at a;rw[c];exact a
open Vabldc (Text textBefore put inOrder within clashes putFile fileAt File isAt)
section
variable{β:Type}(deep:α->Bool)(ok:α->β->Bool)
def Mt:List α->List β->Prop
 |[],l=>l=[]
 |a::r,l=>if deep a=da then∃j,j<=l.length/\Mt r (l.drop j) else∃x s,l=x::s/\ok a x=da/\Mt r s
theorem Zs(a:α)(r:List α)(l:List β):Mt deep ok (a::r) l=if deep a=da then∃j,j<=l.length/\Mt deep ok r (l.drop j) else∃x s,l=x::s/\ok a x=da/\Mt deep ok r s:=by
 conv=>lhs;unfold Mt
noncomputable def gs(bs:List β)(p:Nat)(a:α):Bool:=match bs[p]? with
 |some x=>ok a x
 |none=>ma
noncomputable def Vi(bs:List β)(l:List Nat)(a:α):List Nat:=if deep a=da then kj l bs.length else(l.filter λp=>gs ok bs p a).map (·+1)
abbrev Kt(l:List Nat):Prop:=l.Pairwise (· < ·)
theorem xG{l:List Nat}{e:Nat}(h:Kt l)(p:Nat):p∈kj l e↔p<=e/\∃q∈l,q<=p:=by
 cases l with
 |nil=>simp[kj]
 |cons x l=>
  obtain⟨c,_⟩:=Ui.mp h;unfold kj;rw[aah];constructor
  .rintro⟨a,b⟩;exact{by omega,x,by simp,a}
  .rintro⟨a,q,d,b⟩;rcases jc.mp d with rfl|d
   .omega
   .have:=c q d;omega
theorem KU(l:List Nat)(e:Nat):Kt (kj l e):=by
 cases l with
 |nil=>exact gI
 |cons x l=>exact List.pairwise_lt_range'
theorem j3{bs:List β}{l:List Nat}{a:α}(h:Kt l):Kt (Vi deep ok bs l a):=by
 unfold Vi;by_cases c:deep a=da
 .rw[qa c];exact KU _ _
 .rw[oa c];exact Ti.mpr ((h.sublist zl).imp λ{p q} z=>Nat.add_lt_add_right z 1)
theorem sY{bs:List β}{l:List Nat}{a:α}(h:Kt l)(b:∀p∈l,p<=bs.length):∀p∈Vi deep ok bs l a,p<=bs.length:=by
 unfold Vi;by_cases c:deep a=da
 .rw[qa c];exact λp d=>((xG h p).mp d).1
 .rw[oa c];intro p d;obtain⟨q,e,rfl⟩:=Mb.mp d;have f:=(Mc.mp e).2;unfold gs at f;rcases Sg q bs.length with z|z
  .omega
  .rw[Xq z] at f;cases f
theorem xC{bs:List β}:∀(b:List α)(l:List Nat),Kt l->(∀p∈l,p<=bs.length)->((b.foldl (Vi deep ok bs) l).contains bs.length=da↔∃p∈l,Mt deep ok b (bs.drop p))
 |[],l,d,f=>by
  rw[List.foldl_nil,qT];constructor
  .intro h;exact⟨bs.length,h,zS⟩
  .rintro⟨p,g,e⟩;have e:bs.drop p=[]:=e;have:=f p g;have i:=wc He e;rw[ue,uj] at i;have:p=bs.length:=by omega
   exact this▸g
 |a::b,l,d,f=>by
  rw[Bm,xC b _ (j3 deep ok d) (sY deep ok d f)];simp only[Zs];by_cases c:deep a=da
  .simp only[c,Ld];constructor
   .rintro⟨p,g,m⟩;unfold Vi at g;rw[qa c] at g;obtain⟨k,q,n,o⟩:=(xG d p).mp g;refine{q,n,p - q,by rw[ue];omega,?_};rw[Hn,show q+(p - q)=p by omega];exact m
   .rintro⟨q,n,j,r,m⟩;rw[ue] at r;have:=f q n;rw[Hn] at m;refine{q+j,?_,m};unfold Vi;rw[qa c];exact(xG d _).mpr {by omega,q,n,by omega}
  .simp only[c,Ub];constructor
   .rintro⟨p,g,m⟩;unfold Vi at g;rw[oa c] at g;obtain⟨q,n,rfl⟩:=Mb.mp g;obtain⟨t,u⟩:=Mc.mp n;unfold gs at u;rcases Sg q bs.length with z|z
    .rw[Wd z] at u;exact{q,t,bs[q],bs.drop (q+1),(gy z).symm,u,m}
    .rw[Xq z] at u;cases u
   .rintro⟨q,n,x,s,e,k,m⟩;have z:q< bs.length:=by
     have i:=wc He e;rw[ue,Oc] at i;omega
    have v:=(gy z).symm;rw[v] at e;injection e with e4 e5;refine{q+1,?_,by rw[e5];exact m};unfold Vi;rw[oa c];refine Mb.mpr {q,Mc.mpr {n,?_},rfl};unfold gs;rw[Wd z,e4];exact k
end
theorem lL{β:Type}{deep:α->Bool}{ok:α->β->Bool}{a:α}{r:List α}(c:deep a=da)(y:β)(s:List β):Mt deep ok (a::r) (y::s)↔Mt deep ok r (y::s)\/Mt deep ok (a::r) s:=by
 rw[Zs,qa c,Zs,qa c];constructor
 .rintro⟨j,b,m⟩;cases j with
  |zero=>exact .inl m
  |succ j=>exact .inr {j,by simpa using b,m}
 .rintro(m|⟨j,b,m⟩)
  .exact{0,Pd _,m}
  .exact{j+1,by simpa using b,m}
theorem DP{β:Type}{deep:α->Bool}{ok:α->β->Bool}{a:α}{r:List α}(c:deep a=da):Mt deep ok (a::r) []↔Mt deep ok r []:=by
 rw[Zs,qa c];constructor
 .rintro⟨j,b,m⟩;rwa[List.drop_nil] at m
 .intro m;exact{0,Pd _,m}
abbrev ZK:Text->Text->Prop:=Mt (λc:Nat=>c==42) (λc x=>x==c)
theorem zv:∀(k:Nat)(p t:Text),p.length+t.length< k->(Ey k p t=da↔ZK p t)
 |0,_,_,h=>absurd h (by omega)
 |k+1,[],t,h=>by
  show t.isEmpty=da↔t=[];exact xr
 |k+1,c::r,t,h=>by
  rw[Oc] at h;unfold Ey;by_cases e:c=Lu
  .rw[qa e];have hd:(λc:Nat=>c==42) c=da:=by rw[e];rfl
   cases t with
   |nil=>
    rw[su,zv k r [] (by simp at h⊢;omega)];exact(DP (deep:=λc:Nat=>c==42) hd).symm
   |cons y s=>
    rw[Oc] at h;rw[ki,zv k r (y::s) (by simp;omega)];show _\/Ey k (c::r) s=da↔_;rw[zv k (c::r) s (by simp;omega)];exact(lL (deep:=λc:Nat=>c==42) hd y s).symm
  .rw[oa e];have hd:¬(c==42)=da:=λz=>e (dk z);rw[show ZK (c::r) t=_ from Zs _ _ c r t,oa hd];cases t with
   |nil=>simp
   |cons y s=>
    rw[Oc] at h;show(y==c&&Ey k r s)=da↔_;rw[Kc,zv k r s (by omega)];constructor
    .rintro⟨a,b⟩;exact⟨y,s,rfl,a,b⟩
    .rintro⟨x,d,f,a,b⟩;cases f;exact⟨a,b⟩
theorem Z5(a b:Text):Im a b=Ey (b.length+a.length+2) b a:=by
 rw[tf,zv _ _ _ (by omega)];unfold Im;have e:zh a=Vi (λc:Nat=>c==42) (λc x=>x==c) a:=by
  funext l c
  unfold zh Vi;by_cases h:c=42
  .rw[qa h,qa (by rw[h];rfl)]
  .rw[oa h,oa (λz=>h (dk z))]
   congr 1
   refine pT λp _=>?_;unfold gs;rcases Sg p a.length with z|z
   .rw[Wd z];rw[Xc z,gr,tf,decide_eq_true_eq,QB];exact Oh.symm
   .rw[Xq z];simp
 rw[e,xC _ _ b [0] (fI _ _) (λp d=>by simp at d;omega)];constructor
 .rintro⟨p,d,m⟩;simp at d;subst d;exact m
 .intro m;exact{0,by simp,m}
abbrev cG:List Text->List Text->Prop:=Mt Bl λp x=>Im x p
theorem Hw:∀(k:Nat)(ps l:List Text),ps.length+l.length< k->(vI k ps l=da↔cG ps l)
 |0,_,_,h=>absurd h (by omega)
 |k+1,[],l,h=>by
  show l.isEmpty=da↔l=[];exact xr
 |k+1,p::r,l,h=>by
  rw[Oc] at h;unfold vI;by_cases hd:Bl p=da
  .rw[qa hd];cases l with
   |nil=>
    rw[su,Hw k r [] (by simp at h⊢;omega)];exact(DP hd).symm
   |cons y s=>
    rw[Oc] at h;rw[ki,Hw k r (y::s) (by simp;omega)];show _\/vI k (p::r) s=da↔_;rw[Hw k (p::r) s (by simp;omega)];exact(lL hd y s).symm
  .rw[oa hd];rw[show cG (p::r) l=_ from Zs _ _ p r l,oa hd];cases l with
   |nil=>simp
   |cons y s=>
    rw[Oc] at h;show(Ey (p.length+y.length+2) p y&&vI k r s)=da↔_;rw[Kc,Hw k r s (by omega),<-Z5];constructor
    .rintro⟨a,b⟩;exact⟨y,s,rfl,a,b⟩
    .rintro⟨x,c,d,a,b⟩;cases d;exact⟨a,b⟩
theorem Sr(p:Text):Bl p=da↔p=[42,42]:=by
 unfold Bl;exact{λh=>dk h,λh=>by rw[h];rfl}
theorem f7(a b:List Text):allM a b=da↔cG b a:=by
 unfold allM;have e:rh a=Vi Bl (λp x=>Im x p) a:=by
  funext l p
  unfold rh Vi;by_cases h:p=[42,42]
  .rw[qa h,qa ((Sr p).mpr h)]
  .rw[oa h,oa (λz=>h ((Sr p).mp z))]
   congr 1
   refine pT λq _=>?_;unfold uk gs;cases a[q]?<;>rfl
 rw[e,xC _ _ b [0] (fI _ _) (λp c=>by simp at c;omega)];constructor
 .rintro⟨p,c,m⟩;simp at c;subst c;exact m
 .intro m;exact{0,by simp,m}
theorem SI{q n:Text}(a:q≠[])(b:n≠[]):allM (Za 47 n) (Za 47 q)=yT q n:=by
 unfold yT;rw[cw a,cw b,tf,f7,Hw _ _ _ (by omega)]
theorem WU(c:Nat):Lf (c:Int)=ik c:=by
 unfold Lf ik;rw[tf];simp only[ki,Kc,decide_eq_true_eq,Oh];omega
theorem tM{s t:Text}(h:Jb s=Jb t):s=t:=by
 have:=wc (PH Cm) h;unfold Jb at this;rw[yd,yd] at this;have e:(Cm∘λn:Nat=>((n:Nat):Int))=id:=by funext n;simp
 rwa[e,Cu,Cu] at this
theorem dX(t:Text):(Jb t).count 42=(t.filter λc=>c==42).length:=by
 unfold Jb
 induction t with
 |nil=>rfl
 |cons c t a=>
  rw[Nb,pH,a,jk];by_cases h:c=42
  .simp[h]
  .have b:¬((c:Nat):Int)=42:=by omega
   simp[h,b]
theorem RK:∀t:Text,(((Jb t).zip ((Jb t).drop 1)).any λp=>decide ([p.1,p.2]=[42,42]))=zT t
 |[]=>rfl
 |[a]=>rfl
 |a::b::r=>by
  have c:=RK (b::r);unfold zT;rw[<-c];show(((((a:Nat):Int),((b:Nat):Int))::(Jb (b::r)).zip ((Jb (b::r)).drop 1)).any λp=>decide ([p.1,p.2]=[42,42]))=_;rw[ji]
  congr 1
  rw[tf];simp only[decide_eq_true_eq,List.cons.injEq,and_true,Kc,Oh,Lu];omega
theorem O1(t:Text):jg (Jb t)=CT t:=by
 unfold jg CT;have a:Jb t=[42,42]↔t=[42,42]:={λh=>tM (t:=[42,42]) h,λh=>by rw[h];rfl};by_cases h:t=[42,42]
 .rw[qa (a.mpr h),(Sr t).mpr h];rfl
 .have hd:Bl t=ma:=by
   cases e:Bl t with
   |false=>rfl
   |true=>exact absurd ((Sr t).mp e) h
  rw[oa (λz=>h (a.mp z)),hd,ll,dX,RK];have b:(Jb t).length=t.length:=by simp[Jb]
  rw[b];have d:((Jb t).all λc=>c==42||Lf c)=t.all λc=>ik c||c==Lu:=by
   unfold Jb;rw[tm]
   congr 1
   funext c
   show(((c:Nat):Int)==42||Lf (c:Int))=_;rw[WU,jT]
   congr 1
   rw[tf];simp only[Oh,Lu];omega
  rw[d];have f:(t.filter λc=>c==42)=t.filter λc=>c==Lu:=rfl;rw[f];by_cases g:t.length< 1\/32< t.length\/4< (t.filter λc=>c==Lu).length
  .rw[qa g,tf];simp only[yc,false_iff,Kc,decide_eq_true_eq];omega
  .rw[oa g];have i:decide (1<=t.length)=da:=Xc (by omega);have j:decide (t.length<=32)=da:=Xc (by omega);have k:decide ((t.filter λc=>c==Lu).length<=4)=da:=Xc (by omega);rw[i,j,k];cases zT t<;>simp
theorem FK(t:Text):Ae (Jb t)=Dl t:=by
 by_cases a:t=[]
 .subst a;decide
 unfold Ae Dl;rw[cw a];have b:Zc 47 (Jb t)=(Za 47 t).map Jb:=BD 47 t;rw[b];have c:(Jb t).length=t.length:=by simp[Jb]
 have d:((Za 47 t).map Jb).count [42,42]=((Za 47 t).filter Bl).length:=by
  generalize Za 47 t=l
  induction l with
  |nil=>rfl
  |cons p l f=>
   rw[Nb,pH,f,jk];by_cases h:p=[42,42]
   .rw[(Sr p).mpr h,h];rfl
   .have g:Bl p=ma:=by
     cases e:Bl p with
     |false=>rfl
     |true=>exact absurd ((Sr p).mp e) h
    have i:(Jb p==[42,42])=ma:=by
     cases e:Jb p==[42,42] with
     |false=>rfl
     |true=>exact absurd (tM (t:=[42,42]) (dk e)) h
    rw[g,i];simp
 have j:((Za 47 t).map Jb).all jg=(Za 47 t).all CT:=by
  rw[tm]
  congr 1
  funext p
  exact O1 p
 rw[c,d,j,Na];have k:1<=(Za 47 t).length:=hI.mpr (Ki 47 t);by_cases m:96< t.length
 .rw[qa m];have:decide (t.length<=96)=ma:=Rf (by omega);rw[this];rfl
 .rw[oa m];have n:decide (t.length<=96)=da:=Xc (by omega);have o:decide (1<=(Za 47 t).length)=da:=Xc k;rw[n,o];by_cases q:8< (Za 47 t).length\/2< ((Za 47 t).filter Bl).length
  .rw[qa q,tf];simp only[yc,false_iff,Kc,decide_eq_true_eq];omega
  .rw[oa q];have r:decide ((Za 47 t).length<=8)=da:=Xc (by omega);have s:decide (((Za 47 t).filter Bl).length<=2)=da:=Xc (by omega);rw[r,s];simp
theorem wK{q:Text}(h:Dl q=da):q≠[]:=λe=>by
 subst e;exact absurd h (by decide)
theorem N1(q n:Text):Xm q n=Fd (abp q n):=by
 unfold Xm abp;rw[FK];by_cases a:Dl q=ma
 .rw[qa a,qa a];rfl
 rw[oa a,oa a];by_cases b:gb n=ma
 .rw[qa b,qa b];rfl
 rw[oa b,oa b,SI (wK (by simpa using a)) (Mg (by simpa using b))];rfl
open Vabldc (Text textBefore put inOrder within clashes putFile fileAt File isAt)
theorem pP:∀(k:Nat)(l:Ka),(∃c∈l,c< 0)->Yd k l=ia
 |_,[],h=>by obtain⟨c,a,_⟩:=h;cases a
 |0,_::_,_=>rfl
 |k+1,n::r,h=>by
  unfold Yd;by_cases c:0<=n/\n.toNat<=r.length/\Ae (r.take n.toNat)=da
  .rw[qa c];obtain⟨b,d,e⟩:=c;obtain⟨z,f,g⟩:=h;rcases jc.mp f with rfl|f
   .omega
   .rw[<-Ph n.toNat r] at f;rcases Pe.mp f with q|q
    .have:=II e z q;omega
    .rw[pP k _ ⟨z,q,g⟩];rfl
  .rw[oa c]
theorem DJ:∀(k:Nat)(l:Ka),(∀c∈l,0<=c)->Yd k l=match wI k l with
  |none=>ia
  |some ps=>if ps.all Dl=da then ba (ps.map Jb) else ia
 |0,[],_=>rfl
 |_+1,[],_=>rfl
 |0,_::_,_=>rfl
 |k+1,n::r,h=>by
  have a:0<=n:=h n (by simp);have b:∀c∈r,0<=c:=λc d=>h c (by simp[d]);unfold Yd wI;have f:=DJ k (r.drop n.toNat) λc d=>b c (aa5 d);have g:r.take n.toNat=Jb ((r.take n.toNat).map Cm):=Uz λc d=>b c (CS d);have i:Ae (r.take n.toNat)=Dl ((r.take n.toNat).map Cm):=by
   conv=>lhs;rw[g]
   exact FK _
  by_cases j:0<=n/\n<=(r.length:Int)
  .rw[qa j];have m:n.toNat<=r.length:=by omega
   rw[f];cases e:wI k (r.drop n.toNat) with
   |none=>
    simp only[aam];split<;>rfl
   |some ps=>
    simp only[abo];rw[du,<-i];by_cases o:Ae (r.take n.toNat)=da
    .rw[qa ⟨a,m,o⟩,o,gr];by_cases p:ps.all Dl=da
     .rw[qa p,qa p,Nb];show ba (r.take n.toNat::ps.map Jb)=_;rw[<-g]
     .rw[oa p,oa p];rfl
    .rw[oa (λz=>o z.2.2)];have q:Ae (r.take n.toNat)=ma:=by simpa using o
     rw[q,kh];rfl
  .rw[oa j,oa];rintro⟨s,t,_⟩;exact j {s,by omega}
theorem KQ(l:Ka):Yd l.length l=(Fy l).map λps=>ps.map Jb:=by
 rw[<-GA (l.length+1) l (by omega)];unfold Fy;by_cases h:(l.any λn=>decide (n< 0))=da
 .rw[qa h];obtain⟨c,a,e⟩:=Ze.mp h;rw[pP _ _ {c,a,by simpa using e}];rfl
 .rw[oa h,DJ _ _ λc a=>?_]
  .cases wI (l.length+1) l with
   |none=>rfl
   |some ps=>
    simp only;by_cases c:ps.all Dl=da
    .rw[qa c,qa c];rfl
    .rw[oa c,oa c];rfl
  .rcases Int.lt_or_le c 0 with z|z
   .exact absurd (Ze.mpr {c,a,by simpa using z}) h
   .exact z
theorem fO{l:List Int}{ps:List Text}(h:Fy l=ba ps):∀q∈ps,Dl q=da:=by
 unfold Fy at h;split at h
 .cases h
 .split at h
  .cases h
  .split at h
   .rename_i c
    cases h;exact Df.mp c
   .cases h
theorem Py{n:Text}(a:n≠[]){ps:List Text}(h:∀q∈ps,Dl q=da):gj n ((ps.map Jb).map Pf)=ps.any λq=>yT q n:=by
 unfold gj;rw[yd,Tx];refine any_congr λq b=>?_;show allM (Za 47 n) (Pf (Jb q))=_;unfold Pf Jb;rw[yd];have e:(Cm∘λn:Nat=>((n:Nat):Int))=id:=by funext n;simp
 rw[e,Cu];exact SI (wK (h q b)) a
theorem kX(h:Ab x t){p n:Text}:n∈namesOf x p↔n∈(t.filter λf=>mI t f.path==ba p).map λf=>Je p f.path:=by
 unfold namesOf;rw[Mb,Mb];constructor
 .rintro⟨e,a,rfl⟩;obtain⟨b,c⟩:=Mc.mp a;obtain⟨f,hf,rfl⟩:=h.mem.mp b;refine{f,Mc.mpr {hf,?_},rfl};have c:aroundOf (Nc x) f.path=ba p:=Qe c;rw[<-Zw h (Mg (h.path f hf)),c];exact qu _
 .rintro⟨f,hf,rfl⟩;obtain⟨b,c⟩:=Mc.mp hf;refine{ent f,Mc.mpr {h.mem.mpr ⟨f,b,rfl⟩,?_},rfl};refine Xc ?_;show aroundOf (Nc x) f.path=ba p;rw[Zw h (Mg (h.path f b))];exact dk c
theorem MD(h:Ab x t){p:Text}{e:Ent}(a:e∈x.filter λf=>decide (aroundOf (Nc x) f.1=ba p)):Je p e.1≠[]/\Eg p (Je p e.1)=e.1:=by
 obtain⟨b,c⟩:=Mc.mp a;obtain⟨f,hf,rfl⟩:=h.mem.mp b;exact QD (h.path f hf) (OK (Qe c)).2
theorem F2(h:Ab x t)(p:Text):(namesOf x p).Nodup:=by
 unfold namesOf;refine Ti.mpr (tT (λ{e f} a hf b z=>?_) ((Ti.mp h.nd).sublist zl));have c:=(MD h a).2;have d:=(MD h hf).2;exact b (by rw[<-c,<-d,z])
theorem wO(h:Ab x t){p n:Text}(a:n∈namesOf x p):n≠[]:=by
 unfold namesOf at a;obtain⟨e,b,rfl⟩:=Mb.mp a;exact(MD h b).1
theorem zV(h:Ab x t){p:Text}{a b:List Text}(c:∀q∈a,Dl q=da)(d:∀q∈b,Dl q=da)(e:ts.Perm (Om x p (a.map Jb) (b.map Jb)))(f:Cj ts):ts=abq t p a b:=by
 have g:(Om x p (a.map Jb) (b.map Jb)).Nodup:=(F2 h p).sublist (zl.trans zl);refine order_eq f (e.nodup_iff.mpr g) λn=>?_;rw[e.mem_iff];unfold Om Vabldc.namesIn;rw[Mc,Mc,Mc,Mc,<-kX h,oE];constructor
 .rintro⟨⟨i,j⟩,k⟩;have l:=wO h i;rw[Py l c,Kc] at j;rw[Py l d] at k;refine{{i,?_},?_}
  .have:=j.1;simpa using this
  .rw[j.2,k];rfl
 .rintro⟨⟨i,j⟩,k⟩;have l:=wO h i;rw[Kc] at k;rw[Py l c,Py l d];refine{{i,?_},k.2};rw[k.1,aak];simpa using j
theorem hX(h:Ab x t){p:Text}{y e:Ka}{r:List Int}(c:Wn x p y e r):r=Fd (abr t p y e):=by
 unfold Wn at c;unfold abr;by_cases d:xf p=ma
 .rw[qa d] at c;rw[qa d,c];rfl
 rw[oa d] at c;rw[oa d];rw[KQ y,KQ e] at c;cases f:Fy y with
 |none=>
  rw[f] at c;have c:r=[-10]:=c;rw[c];rfl
 |some a=>
  cases g:Fy e with
  |none=>
   rw[f,g] at c;have c:r=[-10]:=c;rw[c];rfl
  |some b=>
   rw[f,g] at c;have c:(if(Nc x).contains p=ma then r=[-7] else∃i,i.Perm (Om x p (a.map Jb) (b.map Jb))/\Cj i/\r=bh (Hd i)):=c;rw[OI h] at c;show r=Fd (if yr t p=ma then pI Vabldc.PACKAGE else vr (Ju (abq t p a b)));by_cases j:yr t p=ma
   .rw[qa j] at c;rw[qa j,c];rfl
   .rw[oa j] at c;rw[oa j];obtain⟨i,k,l,rfl⟩:=c;rw[ls,kx,zV h (fO f) (fO g) k l]
def Qk(x:List Ent)(ks:List Cb)(s:Tg):Prop:=Ab x s.tree/\Fl ks s
theorem pz{a:List Cb}{s s':Tg}(h:Fl a s)(e:s'.kept=s.kept):Fl a s':=λk=>by
 have:Qn s' k=Qn s k:=by unfold Qn;rw[e]
 rw[this];exact h k
theorem QU(d:yf->Prop):vK d Qk where
 start:={eP,λk=> .inl {rfl,by unfold Qn;split<;>rfl}}
 small:=λx e s h=>⟨h.1.small,h.1.pV⟩
 step:=λx e s c r f g _ h i=>by
  obtain⟨j,l⟩:=h;have m:∀{c:yf},r=Fd (oI s c)->f=x->g=e->(Ke s c)=(s,oI s c)->r=Fd (Ke s c).2/\Qk f g (Ke s c).1:=λo u v w=>by
   rw[w,u,v];exact⟨o,j,l⟩
  cases c with
  |put p b=>
   obtain⟨⟨rfl,rfl⟩,rfl⟩:=i;obtain⟨z,A,B⟩:=b7 j p b;exact{z,A,pz l B}
  |remove p=>
   obtain⟨⟨rfl,rfl⟩,rfl⟩:=i;obtain⟨z,A,B⟩:=B0 j p;exact{z,A,pz l B}
  |move a b=>
   obtain⟨⟨rfl,rfl⟩,rfl⟩:=i;obtain⟨z,A,B⟩:=qW j a b;exact{z,A,pz l B}
  |get p=>exact m (V6 j i.1.1) i.1.2 i.2 rfl
  |list p=>exact m (Z0 j i.1.1) i.1.2 i.2 rfl
  |files=>exact m (L4 j i.1.1) i.1.2 i.2 rfl
  |packages=>exact m (Z4 j i.1.1) i.1.2 i.2 rfl
  |owner p=>exact m (E1 j i.1.1) i.1.2 i.2 rfl
  |label p t=>exact m i.1.1 i.1.2 i.2 rfl
  |resolve t=>exact m (i.1.1.trans (W6 j t)) i.1.2 i.2 rfl
  |glob p y n=>exact m (hX j i.1.1) i.1.2 i.2 rfl
  |matches_ q n=>exact m (i.1.1.trans (N1 q n)) i.1.2 i.2 rfl
  |archive=>exact m (F3 j i.1.1) i.1.2 i.2 rfl
  |read t=>
   obtain⟨⟨rfl,rfl⟩,rfl⟩:=i;obtain⟨z,A,B⟩:=M0 j t;exact{z,A,pz l B}
  |compare t=>exact m (wX j i.1.1) i.1.2 i.2 rfl
  |keep k=>exact(λ⟨a,b,c⟩=>⟨a,b,c⟩) (z1 j l i)
  |back k=>exact(λ⟨a,b,c⟩=>⟨a,b,c⟩) (QZ j l i)
  |changed k=>exact(λ⟨a,b,c⟩=>⟨a,b,c⟩) (NU j l i)
theorem Y1{r x s:List Int}(h:DT r=ba (x,s)):r=gd x++s:=by
 cases r with
 |nil=>cases h
 |cons n r=>
  simp only[DT] at h;split at h
  .rename_i c
   cases h;unfold gd;have:((r.take n.toNat).length:Int)=n:=by
    rw[rd,ml c.2];omega
   rw[this,List.cons_append,Ph]
  .cases h
theorem rows0{r t:List Int}{xs:List (List Int)}(h:Mu 0 r=ba (xs,t)):xs=[]/\r=t:=by
 unfold Mu at h;cases h;exact⟨rfl,rfl⟩
theorem Ct{r t:List Int}{xs:List (List Int)}(h:Mu (k+1) r=ba (xs,t)):∃x ys s,xs=x::ys/\r=gd x++s/\Mu k s=ba (ys,t):=by
 unfold Mu at h;cases e:DT r with
 |none=>rw[e] at h;cases h
 |some xs'=>
  obtain⟨x,s⟩:=xs';rw[e] at h;simp only at h;cases a:Mu k s with
  |none=>rw[a] at h;cases h
  |some yt=>
   obtain⟨ys,b⟩:=yt;rw[a] at h;cases h;exact{x,ys,s,rfl,Y1 e,a}
theorem Yy{a:List Int}(h:(a.all λz=>Gy z 8)=da):Hy a=ba (a.map λb=>b.toNat)/\Jb (a.map λb=>b.toNat)=a:=by
 have d:∀z∈a,0<=z/\z< 2^8:=λz e=>by
  have:=Df.mp h z e;unfold Gy at this;simpa using this
 constructor
 .unfold Hy;rw[qa];refine Df.mpr λz e=>?_;obtain⟨f,g⟩:=d z e;rw[Kc,decide_eq_true_eq,decide_eq_true_eq];omega
 .exact(Uz λc i=>(d c i).1).symm
theorem bM{c R:Prop} [Decidable c]{a b n:Nat}{x:Option (Nat×Nat)}(h:(if c then ba (a,b) else x)=ba (n,k))(q:x=ba (n,k)->R):(c/\n=a/\k=b)\/R:=by
 by_cases d:c
 .rw[qa d] at h;cases h;exact .inl ⟨d,rfl,rfl⟩
 .rw[oa d] at h;exact .inr (q h)
theorem W0{p:Int}{n:Nat}(h:Ar p=ba (n,k)):(p=0/\n=0/\k=2)\/(p=1/\n=0/\k=1)\/(p=2/\n=0/\k=2)\/(p=3/\n=0/\k=1)\/(p=4/\n=0/\k=1)\/(p=5/\n=0/\k=0)\/(p=6/\n=0/\k=0)\/(p=7/\n=0/\k=1)\/(p=8/\n=0/\k=2)\/(p=9/\n=0/\k=1)\/(p=10/\n=0/\k=3)\/(p=11/\n=0/\k=2)\/(p=12/\n=0/\k=0)\/(p=13/\n=0/\k=1)\/(p=14/\n=0/\k=1)\/(p=15/\n=1/\k=0)\/(p=16/\n=1/\k=0)\/(p=17/\n=1/\k=0):=by
 unfold Ar at h
 iterate 17 refine bM h λh=>?_
 exact(bM (R:=False) h λh=>nomatch h).elim id Og
theorem call_of{p:Int}{r t:List Int}{c:List (List Int)}(h:ET Ar (p::r)=ba (c,t))(g:Nu (Fg c)=da):∃C,Gm (Fg c)=ba C/\p::r=num C::args C++t:=by
 simp only[ET] at h;cases e:Ar p with
 |none=>rw[e] at h;cases h
 |some nk=>
  obtain⟨n,k⟩:=nk;rw[e] at h;simp only at h;split at h
  .cases h
  rename_i i
  cases j:Mu k (r.drop n) with
  |none=>rw[j] at h;cases h
  |some xt=>
   obtain⟨l,m⟩:=xt;rw[j] at h;simp only[QB,Prod.mk.injEq] at h;obtain⟨rfl,rfl⟩:=h;have o:∀{q:Int}{C:yf},n=0->k=0->Gm (Fg [[q]])=ba C->num C=q->args C=[]->p=q->∃C,Gm (Fg ((p::r.take n)::l))=ba C/\p::r=num C::args C++m:=λ{q C} w A B D E F=>by
    subst w;subst A;subst F;obtain⟨rfl,G⟩:=rows0 j;rw[Fn] at G;refine{C,B,?_};rw[D,E,G];rfl
   have H:n=0->k=1->∃a,l=[a]/\r=gd a++m:=λw A=>by
    subst w;subst A;obtain⟨x,I,s,rfl,G,J⟩:=Ct j;obtain⟨rfl,rfl⟩:=rows0 J;exact⟨x,rfl,G⟩
   have K:n=0->k=2->∃a b,l=[a,b]/\r=gd a++gd b++m:=λw A=>by
    subst w;subst A;obtain⟨x,I,s,rfl,G,J⟩:=Ct j;obtain⟨y,L,M,rfl,N,O⟩:=Ct J;obtain⟨rfl,rfl⟩:=rows0 O;refine{x,y,rfl,?_};rw[Fn] at G;rw[G,N,cf]
   have P:n=0->k=3->∃a b d,l=[a,b,d]/\r=gd a++(gd b++gd d)++m:=λw A=>by
    subst w;subst A;obtain⟨x,I,s,rfl,G,J⟩:=Ct j;obtain⟨y,L,M,rfl,N,O⟩:=Ct J;obtain⟨z,Q,R,rfl,e7,e8⟩:=Ct O;obtain⟨rfl,rfl⟩:=rows0 e8;refine{x,y,z,rfl,?_};rw[Fn] at G;rw[G,N,e7,cf,cf]
   have kn:n=1->k=0->∃z,l=[]/\r.take n=[z]/\r=z::m:=λw A=>by
    subst w;subst A;obtain⟨rfl,G⟩:=rows0 j;cases r with
    |nil=>exact absurd (by simp) i
    |cons z r=>exact{z,rfl,rfl,by rw[<-G];rfl}
   have S:∀{q:Int}{f:Text->yf},n=0->k=1->p=q->(∀a,Gm (Fg [[q],a])=(Hy a).map f)->(∀a,Nu (Fg [[q],a])=((a.all (λ(z:Int)=>Gy z 8))&&decide (a.length<=20000)))->(∀u,num (f u)=q/\args (f u)=gd (Jb u))->
     ∃C,Gm (Fg ((p::r.take n)::l))=ba C/\p::r=num C::args C++m:=λ{q f} w o B D E F=>by
    obtain⟨a,rfl,G⟩:=H w o;subst w;subst B;have g:Nu (Fg [[p],a])=da:=g;rw[E a,Kc] at g;obtain⟨T,U⟩:=Yy g.1;refine{f (a.map λb=>b.toNat),?_,?_}
    .show Gm (Fg [[p],a])=_;rw[D a,T];rfl
    .rw[(F _).1,(F _).2,U,G];rfl
   have V:∀{q:Int}{f:Text->Text->yf},n=0->k=2->p=q->(∀a b,Gm (Fg [[q],a,b])=(Hy a).bind λx=>(Hy b).map (f x))->(∀a b,Nu (Fg [[q],a,b])=(((a.all (λ(z:Int)=>Gy z 8))&&decide (a.length<=20000))&&(((b.all (λ(z:Int)=>Gy z 8))&&decide (b.length<=20000)))))->(∀u v,num (f u v)=q/\args (f u v)=gd (Jb u)++gd (Jb v))->
     ∃C,Gm (Fg ((p::r.take n)::l))=ba C/\p::r=num C::args C++m:=λ{q f} w o B D E F=>by
    obtain⟨a,b,rfl,G⟩:=K w o;subst w;subst B;have g:Nu (Fg [[p],a,b])=da:=g;rw[E a b,Kc,Kc,Kc] at g;obtain⟨T,U⟩:=Yy g.1.1;obtain⟨t3,t4⟩:=Yy g.2.1;refine{f (a.map λb=>b.toNat) (b.map λb=>b.toNat),?_,?_}
    .show Gm (Fg [[p],a,b])=_;rw[D a b,T,t3];rfl
    .rw[(F _ _).1,(F _ _).2,U,t4,G];rfl
   have W:∀{q:Int}{f:Int->yf},n=1->k=0->p=q->(∀z,Gm (Fg [[q,z]])=ba (f z))->(∀z,num (f z)=q/\args (f z)=[z])->
     ∃C,Gm (Fg ((p::r.take n)::l))=ba C/\p::r=num C::args C++m:=λ{q f} w o B D E=>by
    obtain⟨z,rfl,G,J⟩:=kn w o;subst B;refine{f z,?_,?_}
    .rw[G];exact D z
    .rw[(E z).1,(E z).2,J];rfl
   rcases W0 e with h|h|h|h|h|h|h|h|h|h|h|h|h|h|h|h|h|h<;>obtain⟨X,Y,Z⟩:=h
   .exact V (f:= .put) Y Z X (λ_ _=>rfl) (λ_ _=>rfl) λ_ _=>⟨rfl,rfl⟩
   .exact S (f:= .remove) Y Z X (λ_=>rfl) (λ_=>rfl) λ_=>⟨rfl,rfl⟩
   .exact V (f:= .move) Y Z X (λ_ _=>rfl) (λ_ _=>rfl) λ_ _=>⟨rfl,rfl⟩
   .exact S (f:= .get) Y Z X (λ_=>rfl) (λ_=>rfl) λ_=>⟨rfl,rfl⟩
   .exact S (f:= .list) Y Z X (λ_=>rfl) (λ_=>rfl) λ_=>⟨rfl,rfl⟩
   .exact o (C:= .files) Y Z rfl rfl rfl X
   .exact o (C:= .packages) Y Z rfl rfl rfl X
   .exact S (f:= .owner) Y Z X (λ_=>rfl) (λ_=>rfl) λ_=>⟨rfl,rfl⟩
   .exact V (f:= .label) Y Z X (λ_ _=>rfl) (λ_ _=>rfl) λ_ _=>⟨rfl,rfl⟩
   .exact S (f:= .resolve) Y Z X (λ_=>rfl) (λ_=>rfl) λ_=>⟨rfl,rfl⟩
   .obtain⟨a,b,d,rfl,G⟩:=P Y Z;subst Y;subst X;have g:Nu [[10],a,b,d]=da:=g;have g:(((a.all (λ(z:Int)=>Gy z 8))&&decide (a.length<=20000))&&(((b.all (λ(z:Int)=>abt z))&&decide (b.length<=1000))&&(((d.all (λ(z:Int)=>abt z))&&decide (d.length<=1000)))))=da:=g;rw[Kc,Kc] at g;obtain⟨T,U⟩:=Yy g.1.1;refine{.glob (a.map λb=>b.toNat) b d,?_,?_}
    .show(Hy a).map _=_;rw[T];rfl
    .show _=(10:Int)::(gd (Jb (a.map λb=>b.toNat))++(gd b++gd d))++m;rw[U,G];rfl
   .exact V (f:= .matches_) Y Z X (λ_ _=>rfl) (λ_ _=>rfl) λ_ _=>⟨rfl,rfl⟩
   .exact o (C:= .archive) Y Z rfl rfl rfl X
   .exact S (f:= .read) Y Z X (λ_=>rfl) (λ_=>rfl) λ_=>⟨rfl,rfl⟩
   .exact S (f:= .compare) Y Z X (λ_=>rfl) (λ_=>rfl) λ_=>⟨rfl,rfl⟩
   .exact W (f:= .keep) Y Z X (λ_=>rfl) λ_=>⟨rfl,rfl⟩
   .exact W (f:= .back) Y Z X (λ_=>rfl) λ_=>⟨rfl,rfl⟩
   .exact W (f:= .changed) Y Z X (λ_=>rfl) λ_=>⟨rfl,rfl⟩
theorem YJ:∀(k:Nat)(l:List Int)(a:List (List (List Int))),Iy Ar k l=ba a->(a.map Fg).all Nu=da->∃b,l=yk b/\∀s,FT (IT xI s (a.map Fg))=Fh s b
 |_,[],a,h,_=>by
  unfold Iy at h;cases h;exact{[],rfl,λs=>rfl}
 |0,_::_,a,h,_=>by
  unfold Iy at h;cases h
 |k+1,p::r,a,h,d=>by
  unfold Iy at h;cases e:ET Ar (p::r) with
  |none=>rw[e] at h;cases h
  |some ct=>
   obtain⟨c,t⟩:=ct;rw[e] at h;simp only at h;cases f:Iy Ar k t with
   |none=>rw[f] at h;cases h
   |some raw'=>
    rw[f] at h;cases h;rw[Nb,du,Kc] at d;obtain⟨C,g,i⟩:=call_of e d.1;obtain⟨b,j,m⟩:=YJ k t raw' f d.2;refine{C::b,by rw[i,j];rfl,λs=>?_};rw[Nb];have n:xI s (Fg c)=((Ke s C).1,Fd (Ke s C).2):=by
     unfold xI;rw[g]
    unfold IT;rw[n];show FT (Fd (Ke s C).2::IT xI (Ke s C).1 (raw'.map Fg))=Fh s (C::b);have:=m (Ke s C).1;unfold FT at this⊢;rw[Eu,this];rfl
theorem k9{l:List Int}(h:JT l=da):∃a,l=yk a/\MT l=Fh Kn a/\(Fh Kn a).length<=10000000:=by
 unfold JT at h;cases e:Iy Ar l.length l with
 |none=>rw[e] at h;cases h
 |some raw=>
  rw[e] at h;simp only[Kc] at h;obtain⟨⟨⟨⟨_,_⟩,_⟩,b⟩,c⟩:=h;unfold VabldcNeutral.asked at b;rw[Kc] at b;obtain⟨a,d,f⟩:=YJ _ l raw e b.1;have g:MT l=Fh Kn a:=by
   unfold MT PyVabldc.calls;rw[e];exact f VabldcNeutral.start
  refine{a,d,g,?_};rw[g] at c;unfold PyFlat.short at c;exact Qe c
end Tl.E
namespace Tl
structure Fa(K:xa)(mg:Str->Option Value)(C CH CR CA XC:Addr):Prop where
 cs:Cs mg
 vg:ig K mg C
 Mw:Zr K mg
 Nl:Uk K mg
 Qt:rq K mg
 D8:pK K mg
 E7:LK mg
 Jv:Vt K mg CH
 mn:Jl K mg
 Bw:js K CA
 Lj:Xi K CR
 Dq:mo mg
 P1:eO K mg
 xc:Lo K mg "NotAnArchive" XC
 tup:mg "tuple"=ia
 JL:GF K mg "may_stand_in_part" cD ["byte"]
 A0:GF K mg "is_part" XA ["text"]
 dJ:GF K mg "parts_of" vD ["text"]
 DX:GF K mg "is_path" SF ["text"]
 j5:GF K mg "is_empty_or_path" EN ["text"]
 sV:GF K mg "is_within" xN ["path","above"]
 F6:GF K mg "is_in_directory" yO ["path","directory"]
 g0:GF K mg "behind_directory" OL ["path","directory"]
 RU:GF K mg "absolute_label" KL ["package","name"]
 A4:GF K mg "is_absolute_label" WK ["text"]
 AX:GF K mg "told_label" ZI ["package","text"]
 P2:GF K mg "label_in" IJ ["package","text"]
 rX:GF K mg "paths_at" pC ["tree","path"]
 wU:GF K mg "either_within" RO ["one","other"]
 vX:GF K mg "would_be_full" ZD ["tree","path","data"]
 d8:GF K mg "put_file" eG ["tree","path","data"]
 aY:GF K mg "files_without" yN ["tree","paths"]
 Z2:GF K mg "remove_files" bN ["tree","path"]
 fV:GF K mg "clashes_with_any" EE ["path","others"]
 U5:GF K mg "move_files" Wy ["tree","a","b"]
 EW:GF K mg "in_lines" ZO ["texts"]
 f6:GF K mg "path_in_directory" DI ["directory","name"]
 X7:GF K mg "packages_of" YM ["tree"]
 HY:GF K mg "all_packages" lN ["tree"]
 dZ:GF K mg "package_around" iG ["packages","path"]
 O8:GF K mg "owner_of" MI ["tree","path"]
 iX:GF K mg "get_file" VM ["tree","path"]
 Y0:GF K mg "all_files" lJ ["tree"]
 u7:GF K mg "parts_in_directory" iJ ["inside"]
 oV:GF K mg "list_directory" Bz ["tree","directory"]
 J8:GF K mg "is_pattern_part" jA ["text"]
 BW:GF K mg "places_behind_star" gJ ["reached","end"]
 a8:GF K mg "part_matches" YD ["part","pattern_part"]
 UY:GF K mg "parts_match" uC ["parts","pattern_parts"]
 jW:GF K mg "is_pattern" oG ["text"]
 z5:GF K mg "match_name" uQ ["pattern","name"]
 UZ:GF K mg "names_in_package" bF ["tree","package"]
 XU:GF K mg "patterns_in" uM ["numbers"]
 mV:GF K mg "matches_one_of" rM ["name","patterns"]
 MZ:GF K mg "glob_package" gB ["tree","package","patterns_row","excludes_row"]
 i8:GF K mg "resolve_label" cP ["tree","label"]
 UT:GI K mg "Tree" C "Tree.__init__" WL ["self"]
 OU:GF K mg "copy_of" WM ["tree"]
 FW:GI K mg "Holder" CH "Holder.__init__" dM ["self"]
 GX:GF K mg "keep_tree" NI ["holder","k"]
 PY:GF K mg "back_to_kept" sL ["holder","k"]
 OW:GF K mg "changed_from_kept" TM ["holder","k"]
 C5:GF K mg "decimal" NF ["number"]
 wZ:GF K mg "with_length" yL ["text"]
 y6:GF K mg "archive_of" kN ["tree"]
 VV:GF K mg "is_decimal" uF ["signs"]
 u5:GF K mg "number_told" EJ ["digits"]
 gW:GI K mg "ArchiveReader" CA "ArchiveReader.__init__" PJ ["self","text"]
 o6:GM K CA "at_last" "ArchiveReader.at_last" eK ["self"]
 k6:GM K CA "read_length" "ArchiveReader.read_length" qD ["self"]
 T8:GM K CA "read_text" "ArchiveReader.read_text" nE ["self"]
 dY:GF K mg "tree_in_archive" JD ["text"]
 Z1:GF K mg "read_archive" MP ["tree","text"]
 WY:GF K mg "compare_with_archive" DK ["tree","text"]
 z7:GI K mg "Reader" CR "Reader.__init__" HN ["self","calls"]
 DZ:GM K CR "at_end" "Reader.at_end" kP ["self"]
 y4:GM K CR "read_number" "Reader.read_number" pN ["self"]
 GW:GM K CR "read_row" "Reader.read_row" sN ["self"]
 t6:GF K mg "answer_edit" VJ ["tree","number","reader"]
 D7:GF K mg "answer_view" hP ["tree","number","reader"]
 QY:GF K mg "answer_package" kM ["tree","number","reader"]
 EY:GF K mg "answer_label" SN ["tree","number","reader"]
 c0:GF K mg "answer_archive" oP ["tree","number","reader"]
 A8:GF K mg "answer_kept" oQ ["holder","number","reader"]
 VT:GF K mg "answer_call" GN ["holder","number","reader"]
 NX:GF K mg "differences" yP ["tree","other"]
 mU:GF K mg "answers" Qw ["calls"]
theorem IW{CH CR a XC:Addr}(F:Fa K mg C CH CR a XC){f:Addr}{fd:qb}(G:Gf K mg "answers" Qw ["calls"] f fd):Te P w K mg base Ci 10 f fd ["calls"] (Qr K λ_=>True):=by
 have may:Aa P w K mg base 1 "may_stand_in_part" hA:=IX F.JL F.cs;have b:=i6 F.A0 F.cs may;have c:Aa P w K mg base 1 "parts_of" Mo:=S3 F.dJ F.cs;have d:=LW F.DX F.cs b c;have e:=P5 F.j5 F.cs d;have wi:Aa P w K mg base 1 "is_within" (Sj Af):=oU F.sV F.cs;have g:=ZZ F.F6 F.cs wi;have h:Aa P w K mg base 1 "behind_directory" wx:=a9 F.g0 F.cs;have mkl:Aa P w K mg base 1 "absolute_label" (SA K):=VX F.RU F.Mw;have i:=p8 F.A4 F.Mw e d;have j:=JU F.AX F.Mw i d c mkl;have k:=a6 F.P2 F.Mw e j;have l:=J4 F.rX F.vg wi;have m:=U7 F.wU wi;have n:Aa P w K mg base 1 "would_be_full" (Rw C):=G6 F.vX F.vg F.cs.len;have o:=k8 F.d8 F.vg F.cs.len d m n;have without:Aa P w K mg base 1 "files_without" (aw C):=qX F.aY F.vg;have p:=Y8 F.Z2 F.vg F.cs.len d l without;have q:=f9 F.fV F.vg m;have r:=pY F.U5 F.vg F.cs d l without wi q;have lines:Aa P w K mg base 1 "in_lines" Vn:=C8 F.EW F.Nl;have s:Aa P w K mg base 1 "path_in_directory" (Hs K):=F0 F.f6 F.cs;have t:=DW W3 F.X7 F.vg F.cs F.Nl s;have u:=VY F.HY t lines;have v:=NY F.dZ F.Nl F.cs.len g;have owner:=dW F.O8 F.Nl d v t;have get:=EX F.iX F.vg F.Nl d;have x:=BV F.Y0 F.vg F.Nl lines;have y:=j9 F.u7 F.cs c;have z:=IU F.oV F.vg F.Nl e g h y lines;have Pf:Aa P w K mg base 1 "parts_of" cv:=zU F.dJ F.cs;have Lf:Aa P w K mg base 1 "may_stand_in_part" Oz:=S4 F.JL F.cs;have A:=M3 F.J8 F.cs F.Qt Lf;have B:Aa P w K mg base 1 "places_behind_star" ow:=T6 F.BW F.Qt;have Im:=YY F.a8 F.Qt F.cs.len B;have D:=PV F.UY F.Qt F.cs.len B Im;have H:=K4 F.jW F.cs F.Qt A Pf;have I:=JW F.z5 F.Qt H d D c;have J:=F5 v;have L:=EV F.UZ F.vg t J h;have M:=w6 F.XU F.cs.len H Pf;have mAny:=D6 F.mV c D;have glob:=rW F.MZ F.D8 F.Nl e M t L mAny lines;have res:=u0 F.i8 F.vg F.Mw F.E7 i t s d J;have N:Bh P w K mg base 1 "Tree" C ["self"] (jq C):=R0 F.UT F.vg;have O:=Y6 F.OU F.vg N;have Q:=aU F.FW F.Jv N;have keep:=F4 F.GX F.Jv O;have back:=A2 F.PY F.Jv F.vg F.cs.len O;have R:=bZ F.NX F.vg F.P1 F.Nl lines;have S:=C1 F.OW F.Jv R;have dec:Aa P w K mg base 1 "decimal" HA:=KZ F.C5 F.mn;have cnt:=t7 F.wZ F.mn F.cs.len dec;have arc:=mX F.y6 F.vg F.mn F.Nl cnt;have T:Aa P w K mg base 1 "is_decimal" (Hv Hf):=yU F.VV F.mn F.cs;have num_:Aa P w K mg base 1 "number_told" YA:=vY F.u5 F.mn;have ari:Bh P w K mg base 1 "ArchiveReader" a ["self","text"] (ox a):=lV F.gW F.Bw;have U:Ue P w K mg base 1 a "at_last" ["self"] (Qv a):=D0 F.o6 F.Bw F.mn;have rl:=GY F.k6 F.Bw F.mn F.cs.len F.xc T num_;have rt:=EZ F.T8 F.Bw F.cs.len F.xc rl;have V:=K6 F.dY F.Bw F.xc N ari U rt o;have W:=c3 F.Z1 F.vg F.mn F.cs.len F.xc V;have X:=E8 F.WY F.mn F.xc V R;have ri:Bh P w K mg base 1 "Reader" CR ["self","calls"] (Rv K CR):=eV F.z7 F.Lj;have Y:Ue P w K mg base 1 CR "at_end" ["self"] (Tw K CR):=eX F.DZ F.Lj F.cs.len;have rn:Ue P w K mg base 1 CR "read_number" ["self"] (Lp K CR):=P8 F.y4 F.Lj;have Z:=fX (G2 F.GW F.Lj F.tup rn);have edit:=lW F.t6 F.Dq F.Lj Z o p r;have view:=c9 F.D7 F.Dq F.Lj Z x get z;have pk2:=r0 F.QY F.Dq F.Lj Z u owner glob;have lb:=b3 F.EY F.Dq F.Lj Z k res;have ac:=b9 F.c0 F.Dq F.Lj Z arc W X;have ak:=O3 (by decide) F.A8 F.Dq F.Lj rn keep back S;have call:=K3 F.VT F.Dq F.Jv F.Lj edit view pk2 lb I ac ak Z;exact M2 (E.QU _) G F.Lj F.cs.len Q ri Y rn call
abbrev qA(x qual:Str)(st:za)(ps:List Str):Prop:=∀(kV doc pm:Value)(an:Option Addr)(cdv ct:Value)(us:List Value),us.length=ps.length->jR (An x qual (Zn st) (Uj st) (Qc st) .none kV doc pm an cdv ct) ⟨us,[]⟩=pd (ps.zip us)
theorem i4{x:Str}{st:za}{f:Addr}{b:Value}{d e:Option Addr}{g:Array (Option Value)}{kV i j m n:Value}(X:K.In h)(G:h.Ns qf mg)(o:qA x x st ps)
  (a:Ep K qf x=ba (ba (.ref f))) (l:K.lookup f=ba ⟨b,d,.func (An x x (Zn st) (Uj st) (Qc st) .none kV i j e m n),g⟩) (c:Qx K m x=da) (k:km K (.ref f)=da):GF K mg x st ps:=
 {f,_,lC X G a,jt l c k,(jt l c k).binds o}
theorem gU{x b:Str}{st:za}{f:Addr}{d:Value}{e g:Option Addr}{h:Array (Option Value)}{kV j m n o:Value}(p:qA x b st ps)
  (a:jl K (.ref C) x=ba (ba (.ref f))) (i:yB K (.ref f)=da) (l:K.lookup f=ba ⟨d,e,.func (An x b (Zn st) (Uj st) (Qc st) .none kV j m g n o),h⟩) (c:Qx K n b=da) (k:km K (.ref f)=da):GM K C x b st ps:=
 {f,_,jt l c k,(jt l c k).binds p,⟨a,i,k⟩}
theorem W8{b d:Str}{st:za}{f:Addr}{e:Value}{g j:Option Addr}{o:Array (Option Value)}{kV p q r s:Value}(X:K.In h)(G:h.Ns qf mg)(t:qA "__init__" d st ps)(n:Ep K qf b=ba (ba (.ref C)))
  (a:jl K (.ref C) "__init__"=ba (ba (.ref f))) (i:yB K (.ref f)=da) (l:K.lookup f=ba ⟨e,g,.func (An "__init__" d (Zn st) (Uj st) (Qc st) .none kV p q j r s),o⟩) (c:Qx K r d=da) (k:km K (.ref f)=da) (m:fR K C=da) (u:km K (.ref C)=da):GI K mg b C d st ps:=
 {f,_,jt l c k,(jt l c k).binds t,⟨m,a,i,u⟩,lC X G n}
theorem xY{x:Str}{i:Int}{tk:Nat}(X:K.In h)(G:h.Ns qf mg)(a:Ep K qf x=ba (ba (.int i tk))):bc mg x (.int i):={_,lC X G a,⟨tk,rfl⟩}
theorem YU{x:Str}{r:Addr}{o:Obj}{its:Array Value}{n:Nat}{xs:List V}(X:K.In h)(G:h.Ns qf mg)(a:Ep K qf x=ba (ba (.ref r)))(l:K.lookup r=ba o)(b:o.cls= .type "tuple")(hd:o.data= .seq its n)(hz:its.size<=10)(c:yb xs its.toList):∃r,bc mg x (.ref r)/\∀H:Hp,Ba K H r xs:=
 {r,{_,lC X G a,rfl},λH=> .inr {o,its,n,l,b,hd,Bc hz (by decide),c}}
theorem E2(a:xB K C L9=da)(b:HG K C=da)(c:dR K C=da)(d:jl K (.ref C) "__setattr__"=ba (ba (.builtin "object.__setattr__"))):dh K C:=⟨a,b,c,d⟩
theorem VW(K:xa)(H:Hp)(xs:List V)(a:Jy.denoteAll zj.args)(b:Jy.withinAll zj.args a=da)
  (c:NT zj.args zj.asked a=da) (d:Wi K H xs (Jy.encAll zj.args a)):
  Qr K (λ_=>True) xs H (λv H'=>Dw K H' v (zj.ret.enc (NT zj.args zj.f a))) λ_ _ _=>False:=by
 cases d with
 |cons f g=>
  cases g;cases f with
  |lst h i=>
   have e:=L2.eN a.1 _ i;subst e;have q:((Jy.inLen 0 16500 a.1&&a.1.all (Jy.inInt (-1000000000000000000) 1000000000000000000))&&da)=da:=b;rw[Kc,Kc] at q;have j:a.1.length<=16500:=(Jy.inNat_iff.mp q.1.1).2;have c:JT a.1=da:=c;obtain⟨k,f,g,m⟩:=E.k9 c;refine{_,a.1,k,rfl,h,f,by omega,λ_ _=>trivial,m,λH' l n=>?_};show Dw K H' (.ref l) _;have:zj.ret.enc (NT zj.args zj.f a)=zj.ret.enc (Fh Kn k):=wc _ g;rw[this];exact .lst (L2.Ia.of n) (L2.QP _)
theorem c1{a b CR c d:Addr}(X:K.In h)(G:h.Ns qf mg)(g:mg "answers"=ba (.ref a))
  (i:Ep K qf "Tree"=ba (ba (.ref C))) (j:Ep K qf "Holder"=ba (ba (.ref b))) (k:Ep K qf "Reader"=ba (ba (.ref CR))) (l:Ep K qf "ArchiveReader"=ba (ba (.ref c))) (m:Ep K qf "NotAnArchive"=ba (ba (.ref d)))
  (F:Fa K mg C b CR c d):∃fd:qb,(∀(s:ja)(us:List Value),us.length=(["calls"]:List Str).length->Kx s fd ⟨us,[]⟩ ((["calls"]:List Str).zip us))/\∀base:Heap,K.In base->base.Ns qf mg->Te P w K mg base Ci 10 a fd ["calls"] (Qr K λ_=>True):=by
 obtain⟨f,fd,n,o,p⟩:=F.mU;have e:=g.symm.trans n;cases e;obtain⟨q,r,kV,t,u,v,x,y,z,rfl,A,B⟩:=id o.ex;exact{_,λs us D=> .of_eq ((show qA "answers" "answers" Qw ["calls"] from λ_ _ _ _ _ _ us E=>match us,E with|[_],_=>rfl) kV t u v x y us D),λbase H I=>IW F ⟨n,o,p⟩}
end Tl
end
open PySem PySem.W PyProof.Rows
theorem Tl.lnA{u:List PySem.Value}(h:u.length=1):∃a,u=[a]:=by match u,h with|[a],_=>exact⟨a,rfl⟩
theorem Tl.lnB{u:List PySem.Value}(h:u.length=2):∃a b,u=[a,b]:=by match u,h with|[a,b],_=>exact⟨a,b,rfl⟩
theorem Tl.lnC{u:List PySem.Value}(h:u.length=3):∃a b c,u=[a,b,c]:=by match u,h with|[a,b,c],_=>exact⟨a,b,c,rfl⟩
theorem Tl.lnD{u:List PySem.Value}(h:u.length=4):∃a b c d,u=[a,b,c,d]:=by match u,h with|[a,b,c,d],_=>exact⟨a,b,c,d,rfl⟩
local macro_rules|`(tactic|k_extra "b")=>`(tactic|(intro _ _ _ _ _ _ us hl;first|(obtain⟨_,e⟩:=Tl.lnA hl;subst e;rfl)|(obtain⟨_,_,e⟩:=Tl.lnB hl;subst e;rfl)|(obtain⟨_,_,_,e⟩:=Tl.lnC hl;subst e;rfl)|(obtain⟨_,_,_,_,e⟩:=Tl.lnD hl;subst e;rfl)))
local macro_rules|`(tactic|k_extra "q")=>`(tactic|first|(refine' Tl.xY (by assumption) (by assumption) ?a;(case a=>k_is))|(refine' PySem.W.mg_none_of (by assumption) (by assumption) ?a;(case a=>k_is))|(refine' Tl.i4 (by assumption) (by assumption) ?b ?a ?l ?c ?k;(case a=>k_is);(case l=>k_is);(case c=>k_is);(case k=>k_is);(case b=>k_extra "b"))|(refine' Tl.gU ?b ?a ?i ?l ?c ?k;(case a=>k_is);(case i=>k_is);(case l=>k_is);(case c=>k_is);(case k=>k_is);(case b=>k_extra "b"))|(refine' Tl.W8 (by assumption) (by assumption) ?b ?n ?a ?i ?l ?c ?k ?m ?e;(case n=>k_is);(case a=>k_is);(case i=>k_is);(case l=>k_is);(case c=>k_is);(case k=>k_is);(case m=>k_is);(case e=>k_is);(case b=>k_extra "b"))|(refine' Tl.YU (by assumption) (by assumption) ?a ?l ?c ?d ?z ?v;(case a=>k_is);(case l=>k_is);(case c=>rfl);(case d=>rfl);(case z=>decide);(case v=>repeat(first|exact .nil|refine .cons ⟨_,rfl⟩ ?_)))|(refine' Tl.E2 ?a ?b ?c ?d<;>k_is)|(unfold L2.Gh;k_is))
local macro_rules|`(command|lay_quick $i)=>do
 let mut r:=#[]
 for n in ((Li 600).map λk=>s!"o_{k}")++[1,3,8,9,11,43,44,94,95,150,151,196,197,254,255,318,319,368,369,420,421,476,477,491,492,549,550,593,594].flatMap λk=>["tree","heap","sts","env","view"].map λs=>s!"{s}_{k}" do r:=r.push (<-`(command|theorem $(Lean.mkIdent<|.str `PySem.W.Fast s!"tw{(i.getId.str n).hash}"):ident:True:=trivial))
 for n in ["pw","nm","rw"] do r:=r.push (<-`(command|theorem $(Lean.mkIdent<|.str `PySem.W.Fast s!"tw{(`PySem.Challenge|>.str s!"{n}_treelabels_s01_answers").hash}"):ident:True:=trivial))
 return Lean.mkNullNode r
lay_quick PySem.Challenge.cw_treelabels_s01_answers_holds
theorem PySem.Challenge.cw_treelabels_s01_answers_holds : PySem.Challenge.rw_treelabels_s01_answers.Holds := by
 w_on;k_headS;(case hw=>exact⟨[.list [.int 5]],by decide+kernel,by decide+kernel⟩)
 k_fillS
 refine L2.VZ (r:=zj) (k:=10) (CX:=L2.Ci) (ps:=["calls"]) (sp:=λK=>Tl.Qr K λ_=>True) (by decide+kernel) rfl rfl ⟨rfl,by decide,by decide⟩ (λw h Y=>PySem.W.kIn_of Y) ?F ?S (λ_ _ _ _ z=>z)
 case F=>
  intro w mg fa h Y KX G hmg
  refine' Tl.c1 KX G hmg ?a ?b ?c ?d ?e ?F
  (case a=>k_is);(case b=>k_is);(case c=>k_is);(case d=>k_is);(case e=>k_is)
  constructor
  all_goals first|k_extra "q"|(constructor<;>k_extra "q")|(refine' ⟨lC KX G ?a,?b⟩;(case a=>k_is);(case b=>kernel_rfl!))
 case S=>exact λK H xs a _ hwi hask hx=>Tl.VW K H xs a hwi hask hx
