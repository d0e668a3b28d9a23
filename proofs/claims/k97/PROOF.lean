import PyProof.Rows.All
import Wide.All
import OpenK.AllK
import Wide.FinOn
import Lean
import PyProof.EqAt
import PyProof.EqKinds
import PyProof.TupleCall
import PySem.Challenge.RW_fewchecks_k97_whole_papers_of_rounds
set_option Elab.async false
set_option linter.all false
set_option maxHeartbeats 0
set_option maxRecDepth 100000
set_option compiler.extract_closed false
section
local macro_rules | `(tactic| omega) => `(tactic| first | lia | omega (config := {}))
local macro_rules|`(∅)=>`(by omega)
local macro_rules|`(⋯)=>`(by decide)
local macro_rules | `(tactic| rfl') => `(tactic| walk_at "dt")
open And renaming intro->rz
open Array renaming length_toList->dI,size_extract->gn,toList_append->gZ,getElem?_toList->jj,toList_push->kL,getElem?_eq_getElem->lH,size_append->nF,getElem?_eq_some_iff->qo,size_push->ur,mem_toList_iff->zN,size_reverse->vZ,getD_eq_getD_getElem?->BS,getElem?_push->Gq,getElem?_eq_none->BV,toList_reverse->DQ,mem_of_getElem?->E8,append_empty->ES,toList_modify->Bu,getElem?_append->Pf,getElem?_extract_of_lt->Qm,toList_setIfInBounds->Nq,getElem?_extract->O8,append_assoc->mu,toList_map->ph,size_map->tj,toList->vw
open Bool renaming false_ne_true->cO,and_eq_true->eY,false_eq_true->lN,eq_iff_iff->mS,or_false->p6,false_or->qK,eq_false_iff->rP,not_true->uC,true_or->sO,true_and->Fz,not_eq_true'->n4,not_eq_true->p1,not_false->sL,bne_false->tq,bne_true->vt
open Char renaming toNat->fA
open Classical renaming byContradiction->jS,choose_spec->Jh,choose->pS
open False renaming elim->eh
open ForInStep renaming yield->dc,done->i0
open Function renaming comp_def->n7
open Int renaming emod_nonneg->i8,emod_lt_of_pos->i6,mul_assoc->jI,mul_sub->mR,mul_ediv_add_emod->nk,mul_comm->nK,zero_mul->qh,emod_eq_of_lt->qP,mul_le_mul_of_nonneg_left->u0,mul_one->vm,ediv_nonneg->AW,sub_mul->vL,mul_add->wI,natAbs_dvd_natAbs->Ad,mul_nonneg->CB,natAbs_mul->BN,eq_ofNat_of_zero_le->B5,le_of_dvd->Fo,sub_zero->DO,ediv_le_self->D4,mul_le_mul->Dn,mul_zero->Fx,emod_eq_zero_of_dvd->ME,gcd_eq_zero_iff->Kc,gcd->la,gcd_dvd_right->oi,lt_trichotomy->oo,toNat_natCast->oy,gcd_dvd_left->pE,natCast_mul->q3,toNat->r3,le_of_lt->vW,one_mul->xv,mul_neg->xw
open List renaming length_map->ak,mem_cons->aK,getElem?_eq_getElem->bw,mem_singleton->br,lookup_cons->bJ,getElem?_set_ne->bO,map_cons->bN,getElem?_eq_some_iff->bT,not_mem_nil->cC,length_append->cK,map_append->cI,mem_cons_of_mem->cS,getElem?_set_self->cW,getElem?_map->cY,mem_cons_self->dj,mem_map->dG,size_toArray->dW,length_cons->eB,mem_of_getElem?->fQ,append_assoc->fS,append_nil->fY,getElem_mem->fZ,take_length->fW,getElem?_append_left->gQ,getElem?_replicate->g8,mem_append->iG,getElem?_append_right->iD,length_set->jd,length_singleton->jn,mem_append_right->jB,nodup_cons->kh,take_append_drop->jX,cons_append->kU,mem_filter->k6,length_take->ly,set_set->lQ,getElem?_cons_succ->lO,getD_eq_getElem?_getD->k9,map_nil->mP,perm_append_comm->mG,getElem?_of_mem->oF,length_eq_zero_iff->nA,filter_append->nP,find?_cons->nD,mem_range->pX,map_map->oY,any_cons->o5,range_succ->pC,filterMap_cons->sy,mem_append_left->qC,length_drop->rF,all_eq_true->qv,all_cons->rL,ext_getElem?->qU,take_of_length_le->rV,flatMap_cons->qt,flatten_cons->qO,getElem?_eq_none->tu,drop_eq_getElem_cons->uT,drop_zero->tG,filter_cons_of_pos->tH,filter_cons_of_neg->uY,length_pos_iff->vf,map_set->uy,nodup_append->zk,any_eq_true->wX,map_congr_left->wm,mem_flatMap->AJ,flatten_nil->xJ,mem_filterMap->GK,of_mem_zip->Cs,take_add_one->DH,pairwise_iff_getElem->C0,length_eraseIdx_of_lt->Dw,length_nil->BK,drop_of_length_le->C2,reverse_perm->B7,mem_of_mem_take->EJ,pairwise_map->D6,getElem?_take_of_lt->J3,filterMap_cons_some->LD,getElem?_toArray->L3,range_succ_eq_map->Iu,set_append_right->P8,eraseIdx_append_of_length_le->KG,getElem?_append->Lv,mem_or_eq_of_mem_set->L4,filter_eq_nil_iff->JR,flatMap_append->Ms,flatten_append->HC,replicate_succ'->NT,eq_nil_of_length_eq_zero->Qk,mem_iff_getElem->LP,range->bo,Nodup->bp,replicate->cf,map->cj,lookup->ed,take->hJ,filter->il,length->mf,set_cons_zero->m3,pairwise_cons->m8,reverse_cons->og,foldl_append->ou,getElem_map->pk,countP_cons->p0,sum_append->qs,foldl_cons->rr,take_succ->tf,take_take->ti,sum_cons->vk,drop->z1
open List.Nodup renaming length_le_of_subset->Ga
open List.Pairwise renaming nil->y4
open List.Perm renaming append_left->lR,refl->DL,append_right->C1,trans->rn,swap->AV,cons->A3
open List.cons renaming inj->uX
open Nat renaming le_refl->aH,ne_of_lt->dN,lt_of_lt_of_le->eK,le_trans->eS,zero_le->fj,lt_irrefl->jE,le_of_lt->kK,mul_mod->mL,le_of_eq->nU,lt_succ_of_lt->nM,lt_succ_self->oJ,ne_of_gt->qw,le_succ->qS,lt_or_eq_of_le->qN,mod_lt->rG,lt_trans->t6,add_zero->sY,div_add_mod->tD,mul_assoc->sH,mul_comm->tN,lt_of_le_of_lt->zJ,lt_trichotomy->xD,pow_add->ym,le_of_ble_eq_true->Ao,le_of_not_lt->EL,log2_lt->DU,pos_of_ne_zero->C7,lt_of_lt_of_eq->GW,min_eq_left->Ea,zero_add->Bv,mul_one->Dz,zero_mul->BJ,mod_mod->Gu,mod_mod_of_dvd->Gg,one_mul->G0,le_of_dvd->DR,toDigits_of_lt_base->Cr,lt_succ_iff->Du,mul_le_mul_right->Je,dvd_of_mod_eq_zero->JO,toDigits_append_toDigits->O2,toDigits->cv,Coprime->k8,add_sub_cancel->m4,mod_eq_of_lt->px,lt_of_not_le->pz,strongRecOn->rB,mul_le_mul->tm,add_assoc->vi,lt_or_ge->vy,sub_self->vT,mul_zero->v3,pow_succ->wa,pow_zero->wb,pow_mul->x6,pow_mod->x7,gcd->x8
open Nat.Coprime renaming pow_left->w7
open Nat.succ renaming inj->zb
open Ne renaming symm->cB
open Option renaming some_ne_none->ie,map_eq_some_iff->pF,isSome_iff_exists->CZ,isSome_map->Em,isNone_iff_eq_none->HR,getD_none->pb,map_some->qx,none->xp
open Option.some renaming inj->jt,injEq->y7
open Or renaming inl->ay,inr->ei
open PyProof.Rows renaming boot_list->iR,boot_isinstance->lG,boot_int->uH,callWith_type1->wZ,boot_sorted->CS,boot_str->D9,boot_all->PX,boot_tuple->Nv,boot_bool->P0,wpS_bind->a0,wpS_pure->a5,Keyed->ba,SortSt->bL,arrOf->cc,wpS_forRange->cV,IntsAre->en,wpS_mono->e0,wpS_modify->fx,firstMet->gg,failedOf->hR,oneType'->hU,wpS_get->ik,elem'->ix,assignInOrder_cons->iI,setPending->kk,pairsOf->kS,seqObj->lx,subscriptTail_builtinR->lD,AllBare->l1,wpS_lift->ma,pairsOf_toList->me,subscriptTail->mv,firstMet_succ->mB,listUpdate_at->m7,assignInOrder_nil->nr,envOfC->oL,callWith_builtin1->oP,mem_zip_self->o4,pairsOf_size->o8,entry_list_sort->rl,seqEpoch_at->rA,slot_list_sort->sT,args_list_sort->sX,sortedHeap_old->td,sortedHeap_at->vc,boot_abs->wx,boot_sum->wy,boot_min->wB,boot_set->wQ,minRun'->x5,bubble->y1,numOf->Ap
open PyProof.Rows.F renaming plain_set_update_loop->Fg,entry_set_update_loop->kO
open PyProof.Rows.SortSt renaming mk'->ui
open PySem renaming boot_len->fE,mem_of_lookup->pQ,intText_digits->Ko,wpAny_bind->ae,Value->ag,Shared->ar,wpAny_pure->aw,Addr->ax,model->be,Program->bg,mainGlobals->bj,starEach->cm,rawInt->cn,World->cq,Around->cx,wpAny_call_entry->c5,wpAny_newObj_type->c6,compareOp->da,wpAny_holding->du,wpAny_setState_of->ec,codeAny_builtin->ee,wpAny_passesOwn->ek,pickOrder->eo,Expr->et,Heap->eC,SetTable->eF,wpAny_callSpecial?_slot->eI,wpAny_askSetting->eL,wpAny_mono->eM,wpAny_rule->eP,Stmt->fb,unsupported->fg,sysModules->fo,FuncData->ft,NameKind->fv,wpAny_setField->fD,wpAny_Call_Name_kw->gb,scanBound->gd,plainId_quiet->gq,wpAny_truthy_bool->gL,assignEach->gN,foldedSetIterable->gO,sliceBounds->gT,fits_of_scanBound->gU,wpAny_pyIter_slot->g0,bootBuiltins->g5,codeAny_mono->hF,builtinLookup_eq_fast->hH,wpAny_attempt->hQ,wpAny_execs_nil->hV,letOwnedTupleGo->hX,Builtin->hZ,isSubtype_type->iY,wpAny_pyIter_list->j1,typeIs_str->j2,Scope->kl,wpAny_standAt->km,binaryOp->kn,sizeLine_eq->kv,attributeBase->ky,backTo->lj,wpAny_isInstance->lr,typeLookup_type->l3,wpAny_ite_split->l4,call_meets->l6,pyNext->mc,wpAny_runValue->md,wpAny_setEntries_of->mq,relayAll->my,setField->mI,wpAny_newList->mN,wpAny_assign_Name->nq,slot_list_getitem->nv,callerA->nz,wpAny_storeSet_of->nL,setNext->nT,setsByText->n3,wpAny_pyIter_enum->ot,valueAt->ox,wpAny_dictEntries->oC,setNextDrawn->o3,wpAny_execs_cons->pa,GenState->p3,tupleKind->qa,swapsWith->qb,getMethod->qc,BindsTo->qk,keywordEach->ql,seqIndex_of->qp,subscripted->qr,codeAny_of_tree->q4,drawOrder->rf,wpAny_specialOf->rh,wpAny_updateSeq->rk,strValues->rD,wpAny_bindName->r7,recursionLimit->sh,entryFor_alias->so,firstArgMember->sv,wpAny_seqItems->sI,builtinsNs->ts,wpAny_Name->tx,assign->tz,wpAny_load->tI,wpAny_call->tJ,intKind_is->tW,swapsWithSole->uu,swappedStores->uv,bindName->uM,intBits_le_64->u4,evalPart_none->u5,call_list_seq->u6,raiseNew->va,cellsFrom->vx,argsOk->vB,JoinOk->wt,bindL->xk,bindC->xl,getItem->xn,newList->xt,collect->xI,pyIter->yd,backToKw->yf,compEnvC->yB,compPost->yQ,entryFor->y0,cLine->y2,atKey->As
open PySem.Around renaming under_plainId->pI,under->oG
open PySem.Builtin.Dict renaming showsAll->dk,dictSlotArgs->fH,samePairs->lS,addrOf->mr
open PySem.Builtin.Frozenset renaming updateFrom->p4,newClass->r4,addrOf->t4,sizeOf->t5,slot0->vb
open PySem.Builtin.Int renaming intBits->hY
open PySem.Builtin.List renaming listExtendWith->fm,listTooLong->fX,listLengthHint->ij,listSameRef->t7
open PySem.Builtin.Range renaming rangeSize->u3
open PySem.Builtin.Str renaming occurrences->eD,partsBetween->uj,subAt->y8
open PySem.Calls renaming Name_function_global->HE,call_function_entry->NY,callWith_builtin->lL
open PySem.Code renaming isFrame->oI,frames->xi
open PySem.Data renaming fields->xg,cell->zt
open PySem.DictEntry renaming refKey->zi
open PySem.F renaming called_set->ow,plainAttrs_list->qy,plainAttrs_str->qj,slot_list_append->ux,type_list_append->ug,plain_list_iadd->xT,entry_str_split->Bq,args_str_split_2->Fp,entry_proto_collect->Lp,plain_proto_collect->IU,entry_list_iadd->OE,plain_extend_loop->ML,slot_dict_eq->Ji,slot_str_join->Nl,type_str_join->OD,slot_str_startswith->LX,type_str_startswith->O9,slot_str_split->Iv,type_str_split->II,plain_set_new->q5
open PySem.Flow renaming next->zr
open PySem.Heap renaming lt_size->bP,get?_push_of_some->bW,get?_push_size->fT,size_push->lE,get?_update_other->lW,get?_update_self->zp,SameBut->e6,get?_push_ne->oe,size_update->pq
open PySem.Heap.DictOf renaming new->AI
open PySem.Heap.IsSliceOf renaming new->yn
open PySem.Heap.SameBut renaming update->ml
open PySem.NameKind renaming free->c4,cell->mx
open PySem.NumText renaming AllDigits->lh
open PySem.Obj renaming mapSeq->el,mapFields->kQ,data_mapFields->mM,putSet->nC
open PySem.PassesOwn renaming never->gW
open PySem.PyData renaming int->a4,canLayAll0->cU,depthAll->df,canLay0->dy,eqv->dE,str->er,tuple->eA,eqvAll->eJ,list->fI,depth->hG,none->iq,bool->mi
open PySem.SeqAt renaming canLay_of_shaped->zG,shaped->de
open PySem.SeqAt.EqAt renaming int_str->x9,str_int->yb
open PySem.SetTable renaming grown->eR,insertAt->ke,Probe->sk
open PySem.SetTable.below renaming go->fw
open PySem.SetTable.probe renaming go->kf
open PySem.Str renaming ofString->dA,length->eQ,join->nf,empty->zB
open PySem.Txt renaming join->g4,split->hM,startswith->i7,slice->wi
open PySem.Value renaming isInt_shape->xV,ref->c3,type->ej,none->gw,int->js,str->lY,bool->l5,float->p7,isStrOf->uk,isInt->xc,bytes->xf
open PySem.W renaming mg_of->bD,mg_none_of->ja,kia_one->jT,kia_tup->pe,kitx_dict->v7,plainGet_of->FP,methodCall_KW->Eb,kitx_list->Ec,callWith_K->Bb,cellsFrom_some->Ju
open PySem.W.KIN renaming val_back->JE
open PySem.W.WData renaming int->zF
open PySem.W.WShape renaming has->y3
open PySem.Walks renaming list->y6
open PySem.WalksT renaming enumerate->pL
open PySem.pickOrder renaming go->oT
open Sum renaming inl->dq,inr->ng
open Sum.inl renaming inj->Hw
open True renaming intro->dC
open PySem PySem.Spec PyProof.Rows
namespace PySem.W.Fast
def tw8472862545716778550:=Nat
def tw11969277033720584389:=Nat
def tw5504370956120576912:=Nat
def tw5866476449456681417:=Nat
def tw9184878281840327027:=Nat
def tw4251093994652121799:=Nat
def tw10551076442527999055:=Nat
def tw13856760778417615416:=Nat
def tw10575012633772226490:=Nat
def tw760522312304713805:=Nat
def tw17310286299670961909:=Nat
def tw4044770378073348867:=Nat
def tw9419072065162422073:=Nat
def tw11516670461994667914:=Nat
def tw11931500379056600465:=Nat
def tw8052685112342620859:=Nat
def tw13673663921098620743:=Nat
def tw2026154029549441625:=Nat
def tw15019975637273707028:=Nat
def tw7645611067084782704:=Nat
def tw9047473976178887264:=Nat
def tw15547668850528404142:=Nat
def tw10910696566535494049:=Nat
def tw5969947759218656504:=Nat
def tw429839157477763165:=Nat
def tw5253511811362954074:=Nat
def tw13967137653674006348:=Nat
def tw16534253673146205324:=Nat
def tw1356474033196830414:=Nat
def tw3556423706404943333:=Nat
def tw7409850471057717329:=Nat
def tw6970834326592583280:=Nat
def tw703718161540269441:=Nat
def tw503132590090548969:=Nat
def tw9264377951460648957:=Nat
def tw12071301486567424832:=Nat
def tw9705978724549293146:=Nat
def tw9435027186684241025:=Nat
def tw6815199487149640096:=Nat
def tw17963405048979790266:=Nat
def tw5811306800807743185:=Nat
def tw14349584711921306971:=Nat
def tw5903585251039162304:=Nat
def tw8577140676325402519:=Nat
def tw9248249416850836425:=Nat
def tw1561384738534162857:=Nat
def tw4729078894874195850:=Nat
def tw4820033585818810157:=Nat
def tw2392401402653089487:=Nat
def tw7288658792359593086:=Nat
def tw274085863832764795:=Nat
def tw7041205116022487506:=Nat
def tw7051020549866846991:=Nat
def tw2335297311827360767:=Nat
def tw5555369619299238348:=Nat
def tw7685839879331302817:=Nat
def tw16267281067071516166:=Nat
def tw10265839517298799063:=Nat
def tw7370579956618034784:=Nat
def tw6810021544815540760:=Nat
def tw10353399490118621860:=Nat
def tw12590051663022612695:=Nat
def tw3252567907278784467:=Nat
def tw9674392111035476500:=Nat
def tw3975630331439578370:=Nat
def tw4311692587998115387:=Nat
def tw5274314207155460046:=Nat
def tw9894607794618469913:=Nat
def tw15232658457321569910:=Nat
def tw14844565502006385265:=Nat
def tw7941707131377935188:=Nat
def tw1907850030293682079:=Nat
def tw13174824895095347457:=Nat
def tw5832419878764442169:=Nat
def tw4822155582561320582:=Nat
def tw1898772934589565486:=Nat
def tw15718308782120598511:=Nat
def tw13018694499027733653:=Nat
def tw1034333424928071404:=Nat
def tw14004538018047856563:=Nat
def tw6802020599881040661:=Nat
def tw1422829613037635627:=Nat
def tw12730121628835169239:=Nat
def tw12969447453130529463:=Nat
def tw17808753236634757472:=Nat
def tw4950182485848156804:=Nat
def tw10334040607925782487:=Nat
def tw10155638632095291134:=Nat
def tw672287373711287153:=Nat
def tw15031619186446548013:=Nat
def tw15999593443037284208:=Nat
def tw3173725667753721678:=Nat
def tw13227802514604934882:=Nat
def tw4398958059094052158:=Nat
def tw16911830020677340650:=Nat
def tw9427063030821783449:=Nat
def tw16132104933271346815:=Nat
def tw417206193366136488:=Nat
def tw803657241767813121:=Nat
def tw17255834319932175648:=Nat
def tw15831338651703667443:=Nat
def tw15652232286862401943:=Nat
def tw8131392442189371731:=Nat
def tw4849151839970400880:=Nat
def tw12464407255692607570:=Nat
def tw15142335491106610063:=Nat
def tw3461976787773626496:=Nat
def tw7042788260579001993:=Nat
def tw2066242213310490996:=Nat
def tw10027723300104928014:=Nat
def tw8366036626162674710:=Nat
def tw14585008329272860023:=Nat
def tw7088168690154460716:=Nat
def tw3521085601286368096:=Nat
def tw11368641645144275751:=Nat
def tw2905804445358600758:=Nat
def tw5398280258866598210:=Nat
def tw675325568526178523:=Nat
def tw13109480739820594377:=Nat
def tw15327193997929039433:=Nat
def tw7456082893251827665:=Nat
def tw17010591495787982119:=Nat
def tw10464951880942048633:=Nat
def tw7369209885166351638:=Nat
def tw15871310415076387227:=Nat
def tw6046727473611150102:=Nat
def tw184055413735063854:=Nat
def tw15128239094323954986:=Nat
def tw13272348740459541663:=Nat
def tw3871324188858265829:=Nat
def tw9143464951169037109:=Nat
def tw11524442347532104881:=Nat
def tw974174696817373576:=Nat
def tw972387423557674019:=Nat
def tw15269504767084152084:=Nat
def tw14262970610215196130:=Nat
def tw7705789652460828186:=Nat
def tw10523389909351359948:=Nat
def tw5427368134994768718:=Nat
def tw8019345342373166841:=Nat
def tw17683722289403648916:=Nat
def tw8883967501450882792:=Nat
def tw6385683408530372290:=Nat
def tw9258600789284378835:=Nat
def tw8596135144415499803:=Nat
def tw14336086985367977294:=Nat
def tw13660217712371536213:=Nat
def tw5238102464544060083:=Nat
def tw1048214585761759877:=Nat
def tw16977659841566374170:=Nat
def tw9391758948393354462:=Nat
def tw16099540024521111788:=Nat
def tw5376451369916880321:=Nat
def tw2610109369519917698:=Nat
def tw4589451988394987027:=Nat
def tw8218526832665677710:=Nat
def tw6055720681330188232:=Nat
def tw3947701532473171022:=Nat
def tw5369158513134859017:=Nat
def tw11917404899171910368:=Nat
def tw9193933320194866846:=Nat
def tw6548841546251562159:=Nat
def tw3115981914634150658:=Nat
def tw5867583794895476794:=Nat
def tw8260212331286248996:=Nat
def tw1970947604871338381:=Nat
def tw7427007104215292672:=Nat
def tw3849190143258051819:=Nat
def tw11894897603873102475:=Nat
def tw2153899749694672764:=Nat
def tw10910903444686314715:=Nat
def tw3428117085396727522:=Nat
def tw14824247987044982321:=Nat
def tw11991680498863085329:=Nat
def tw5407312321420368188:=Nat
def tw12904319034442750612:=Nat
def tw9283798199875044095:=Nat
def tw4273598332145934356:=Nat
def tw3489176042869777104:=Nat
def tw16734780937449285445:=Nat
def tw10465111568040617007:=Nat
def tw5964296118478162968:=Nat
def tw13061665691858210875:=Nat
def tw15204020860903346515:=Nat
def tw2881985188572332916:=Nat
def tw2830259436427593213:=Nat
def tw543831505407209088:=Nat
def tw6285230424040131683:=Nat
def tw12787967987127129155:=Nat
def tw14679829068009810808:=Nat
def tw7692341075335235490:=Nat
def tw1697108473070709880:=Nat
def tw16952395585993079490:=Nat
def tw247928552454743708:=Nat
def tw6064188205696050900:=Nat
def tw6272590641967848578:=Nat
def tw11324381178167298944:=Nat
def tw7916587760864606041:=Nat
def tw12686654901765955444:=Nat
def tw15657337484747132978:=Nat
def tw9440216051401986430:=Nat
def tw6910059727061167968:=Nat
def tw13303166556428896773:=Nat
def tw3393811880402082247:=Nat
def tw11509380734444310675:=Nat
def tw1100097871205516668:=Nat
def tw284786004860579667:=Nat
def tw4635778246058559417:=Nat
def tw2960508928397367592:=Nat
def tw5216432287357508003:=Nat
def tw7367695152876656606:=Nat
def tw16364340507016476624:=Nat
def tw11531586149841673231:=Nat
def tw17805403601853120057:=Nat
def tw15596779456184671949:=Nat
def tw7139202265664720614:=Nat
def tw3764032215339682488:=Nat
def tw3928145366594716935:=Nat
def tw8557772570038109229:=Nat
def tw9813507223009240990:=Nat
end PySem.W.Fast
namespace L2
noncomputable abbrev Key:=Sum Int Str
noncomputable def rH:Key->ag->Bool
 | .inl k,v=>xc k v
 | .inr x,v=>uk x v
noncomputable def Ro(w:cq):Key->Int
 | .inl k=>hashInt k
 | .inr x=>hashStr w x
theorem mC:∀{k:Key} {v:ag},rH k v=true->(∃i t,k=dq i/\v=js i t)\/(∃x t,k=ng x/\v=lY x t)
  | .inl i, v, h => by
    obtain⟨t,e⟩:=xV (k:=i) (v:=v) h;exact .inl ⟨i,t,rfl,e⟩
  | .inr x, v, h => by
    obtain⟨t,e⟩:=Value.isStrOf_shape (x:=x) (v:=v) h;exact .inr ⟨x,t,rfl,e⟩
theorem WB(i:Int)(t:Tok):rH (.inl i) (.int i t)=true:=by simp[rH,xc]
theorem Yz(x:Str)(t:Tok):rH (.inr x) (.str x t)=true:=by simp[rH,uk]
theorem TR(a b:Int):decide ((dq a:Key)=dq b)=(a==b):=by
 by_cases e:a=b;·subst e;simp
 .have h:¬(dq a:Key)=dq b:=λq=>e (Hw q);rw[decide_eq_false h];exact(beq_eq_false_iff_ne.mpr e).symm
theorem S7(a b:Str):decide ((ng a:Key)=ng b)=decide (a=b):=by
 by_cases e:a=b;·subst e;simp
 .have h:¬(ng a:Key)=ng b:=λq=>e (Sum.inr.inj q);rw[decide_eq_false h,decide_eq_false e]
theorem Zf(a:Int)(b:Str):decide ((dq a:Key)=ng b)=false:=decide_eq_false (λq=>nomatch q)
theorem XF(a:Str)(b:Int):decide ((ng a:Key)=dq b)=false:=decide_eq_false (λq=>nomatch q)
noncomputable def iV(prog:bg)(w:cq):PySem.KeyKind prog w Key where
 is:=rH
 hash:=Ro w
 inj:=λv a b ha hb=>by
  rcases mC ha with ⟨i,t,rfl,rfl⟩|⟨x,t,rfl,rfl⟩
  .rcases mC hb with ⟨j,u,rfl,e⟩|⟨y,u,rfl,e⟩
   .injection e with e1 _;rw[e1]
   .exact nomatch e
  .rcases mC hb with ⟨j,u,rfl,e⟩|⟨y,u,rfl,e⟩
   .exact nomatch e
   .injection e with e1 _;rw[e1]
 byValue:=λk v h=>by
  rcases mC h with ⟨i,t,rfl,rfl⟩|⟨x,t,rfl,rfl⟩<;>rfl
 pyHash:=λhv h=>by
  rcases mC hv with ⟨i,t,rfl,rfl⟩|⟨x,t,rfl,rfl⟩
  .exact wpAny_pyHash_int h
  .exact wpAny_pyHash_str h
 eqBool:=λhu hv h=>by
  rcases mC hu with ⟨i,t,rfl,rfl⟩|⟨x,t,rfl,rfl⟩
  .rcases mC hv with ⟨j,u,rfl,rfl⟩|⟨y,u,rfl,rfl⟩
   .rw[TR] at h;exact wpAny_eqBool_int h
   .rw[Zf] at h;exact x9 i t y u _ _ _ _ h
  .rcases mC hv with ⟨j,u,rfl,rfl⟩|⟨y,u,rfl,rfl⟩
   .rw[XF] at h;exact yb x t j u _ _ _ _ h
   .rw[S7] at h;exact wpAny_eqBool_str h
 «strs» :=λk x t v h=>by
  rcases mC h with ⟨i,u,rfl,e⟩|⟨y,u,rfl,e⟩
  .exact nomatch e
  .injection e with e1 _
   subst e1
   cases v<;>rfl
theorem V4(prog:bg)(w:cq)(i:Int)(t:Tok):(iV prog w).is (.inl i) (.int i t)=true:=WB i t
theorem Dd(prog:bg)(w:cq)(x:Str)(t:Tok):(iV prog w).is (.inr x) (.str x t)=true:=Yz x t
inductive V where
 |aL|bl (b:Bool)|int (i:Int)|str (x:Str)|jv (b:Array UInt8)|lT (b:UInt64)|ref (a:ax)|ty (n:String)
 deriving DecidableEq
def RelV:V->ag->Prop
 | .aL,u=>u=gw
 | .bl b,u=>u=l5 b
 | .int i,u=>∃t,u=js i t
 | .str x,u=>∃t,u=lY x t
 | .jv b,u=>∃t,u=xf b t
 | .lT b,u=>∃t,u=p7 b t
 | .ref a,u=>u=c3 a
 | .ty n,u=>u=ej n
abbrev Vals:List V->List ag->Prop:=Paired RelV
theorem Vals.length{xs:List V}{us:List ag}(r:Vals xs us):xs.length=us.length:=Paired.length r
theorem Vals.get:∀{xs:List V} {us:List ag} {i:Nat} {x:V},Vals xs us->xs[i]?=some x->∃u,us[i]?=some u/\RelV x u
  |_,_,_,_, .nil,e=>by simp at e
  |_,_,0,_, .cons r _,e=>by simp at e;subst e;exact⟨_,rfl,r⟩
  | _, _, i + 1, x, .cons _ t, e => by
    obtain⟨u,h1,h2⟩:=Vals.get (i:=i) (x:=x) t (by simpa using e);exact⟨u,by simpa using h1,h2⟩
theorem Vals.set{x:V}{u:ag}(r:RelV x u):∀{xs:List V} {us:List ag} (i:Nat),Vals xs us->Vals (xs.set i x) (us.set i u)
 |_,_,_, .nil=> .nil
 |_,_,0, .cons _ t=> .cons r t
 |_,_,i+1, .cons q t=> .cons q (Vals.set r i t)
theorem Vals.append:∀{xs ys:List V} {us ws:List ag},Vals xs us->Vals ys ws->Vals (xs++ys) (us++ws)
 |_,_,_,_, .nil,s=>s
 |_,_,_,_, .cons r t,s=> .cons r (Vals.append t s)
theorem Vals.take:∀{xs:List V} {us:List ag} (n:Nat),Vals xs us->Vals (xs.take n) (us.take n)
 |_,_,0,_=> .nil
 |_,_,_+1, .nil=> .nil
 |_,_,n+1, .cons r t=> .cons r (Vals.take n t)
theorem Vals.drop:∀{xs:List V} {us:List ag} (n:Nat),Vals xs us->Vals (xs.drop n) (us.drop n)
 |_,_,0,r=>r
 |_,_,_+1, .nil=> .nil
 |_,_,n+1, .cons _ t=>Vals.drop n t
def iW:Option V->Option ag->Prop
 |some v,some u=>RelV v u
 |none,none=>True
 |_,_=>False
def KV{κ:Type}:List (κ×V)->List (κ×ag)->Prop:=Paired λ(p:κ×V) (q:κ×ag)=>p.1=q.1/\RelV p.2 q.2
noncomputable def kV:Key->V
 | .inl i=> .int i
 | .inr x=> .str x
inductive HO where
  |lst (xs:List V)
  |tup (xs:List V)
  |dK (kvs:List (Key×V))|dT (kvs:List (List Key×V))
  |set (S:Int->Bool) (n:Nat)
  |ins (C dx:ax) (fs:List (Str×V))
  |own (x:ax)
  |xd (fs:List (Str×V))
  |met (f x:ax)
  |ze (lo hi:Int)
  |iF (o:Obj) (u:HO)
  |pW (ps:Array ag)
  |ext (φ:eC->Prop)
noncomputable abbrev Hp:=ax->Option HO
noncomputable def upd(H:Hp)(a:ax)(o:HO):Hp:=λb=>if b=a then some o else H b
theorem bx{H:Hp}{a:ax}{o:HO}:upd H a o a=some o:=by unfold upd;rw[if_pos rfl]
theorem bq{H:Hp}{a b:ax}{o:HO}(h:b≠a):upd H a o b=H b:=by unfold upd;rw[if_neg h]
theorem Hj{H:Hp}{a:ax}{o u:HO}:upd (upd H a o) a u=upd H a u:=by
 funext b;unfold upd;split<;>rfl
theorem iP{H:Hp}{a b:ax}{o:HO}(h:H a=some o)(h':H b=none):a≠b:=by
 intro e;subst e;rw[h] at h';cases h'
section
variable(P:bg)(w:cq)
def c7(H:Hp)(h:eC)(a:ax):HO->Prop
 | .lst xs=>xs.length<=sizeLine/\∃(its:List ag) (n:Nat),Vals xs its/\h.get? a=some {cls:= .type "list",data:= .seq its.toArray n}
 | .tup xs=>xs.length<=sizeLine/\∃its:List ag,Vals xs its/\IsTup h a its.toArray
 | .dK kvs=>kvs.length<=sizeLine/\(a==fo)=false/\∃vs,KV kvs vs/\h.DictOf (iV P w) a vs
 | .dT kvs => kvs.length <= sizeLine /\ (a == sysModules) = false /\ ∃ xs : List (List Key × Addr × Value),
   Paired (λ(p:List Key×V) (q:List Key×ax×ag)=>p.1=q.1/\H q.2.1=some (.tup (p.1.map kV))/\RelV p.2 q.2.2) kvs xs/\
   ∃o es ep,h.get? a=some o/\o.ExactDict/\o.data= .dict es ep/\es.toList=xs.map (entryOfKey (qa (iV P w)))/\(xs.map (·.1)).Nodup
 | .set S n=>h.SetOf (intKind P w) a S n
 | .ins C dx fs => H dx = some (.own a) /\ fs.length <= 1000 /\ dx ≠ a /\ h.get? a = some (PySem.W.instObj C dx) /\
   ∃mA,h.Ns1 dx mA/\(∀f,iW (fs.lookup f) (mA f))/\PySem.Within mA (fs.map (·.1))
 | .own _=>∃o,h.get? a=some o
 | .xd fs=>∃mA,h.Ns1 a mA/\∀f,iW (fs.lookup f) (mA f)
 | .ze lo hi=>∃t u v,h.get? a=some {cls:= .type "range",data:= .fields #[.int lo t, .int hi u, .int 1 v]}
 | .iF o u=>h.get? a=some o/\c7 H h a u
 | .pW ps=>h.get? a=some {cls:= .none,data:= .fields ps}
 | .met f x=>h.get? a=some (PySem.W.methodObj (.ref f) (.ref x))
 | .ext φ=>φ h/\(∃o,h.get? a=some o)/\∀h1 h2:eC,φ h1->(∀o,h1.get? a=some o->h2.get? a=some o)->φ h2
def dR(H:Hp)(h:eC):Prop:=∀a o,H a=some o->c7 P w H h a o
end
section
variable{P:bg}{w:cq}{H H':Hp}{h h':eC}{a:ax}{o:HO}
theorem c7.lt(x:c7 P w H h a o):a<h.objs.size:=by
 cases o with
 |lst xs=>obtain⟨_,_,_,_,e⟩:=x;exact bP e
 |tup xs=>obtain⟨_,_,_,p⟩:=x;exact p.lt
 |dK kvs=>obtain⟨_,_,_,_,o,_,_,e,_⟩:=x;exact bP e
 |dT kvs=>obtain⟨_,_,_,_,o,_,_,e,_⟩:=x;exact bP e
 |set S n=>obtain⟨o,_,_,_,e,_⟩:=x;exact bP e
 |ins C dx fs=>obtain⟨_,_,_,e,_⟩:=x;exact bP e
 |own y=>obtain⟨_,e⟩:=x;exact bP e
 |xd fs=>obtain⟨_,⟨_,_,_,e,_⟩,_⟩:=x;exact bP e
 |ze lo hi=>obtain⟨_,_,_,e⟩:=x;exact bP e
 |iF ob u=>obtain⟨e,_⟩:=x;exact bP e
 |pW ps=>exact bP (show h.get? a=some _ from x)
 |met f y=>exact bP (show h.get? a=some _ from x)
 |ext φ=>obtain⟨_,⟨_,e⟩,_⟩:=x;exact bP e
theorem Paired.KR{α c:Type}{F G:α->c->Prop}:∀{d:List α} {l₂:List c},Paired F d l₂->(∀a b,F a b->G a b)->Paired G d l₂
 |_,_, .nil,_=> .nil
 |_,_, .cons r t,f=> .cons (f _ _ r) (Paired.KR t f)
theorem c7.stay(x:c7 P w H h a o)(k:∀b u,(b=a\/H b=some (.own a))->h.get? b=some u->h'.get? b=some u)
    (D:∀b,H b=some (.own a)->H' b=some (.own a)) (ht:∀b xs,H b=some (.tup xs)->H' b=some (.tup xs)):c7 P w H' h' a o:=by
  induction o with
  |lst xs=>obtain⟨z,its,n,r,e⟩:=x;exact⟨z,its,n,r,k _ _ (.inl rfl) e⟩
  |tup xs=>obtain⟨z,its,r,ob,e,c⟩:=x;exact⟨z,its,r,ob,k _ _ (.inl rfl) e,c⟩
  |dK kvs=>obtain⟨z,y,vs,r,ob,es,ep,e,c⟩:=x;exact⟨z,y,vs,r,ob,es,ep,k _ _ (.inl rfl) e,c⟩
  | dT kvs =>
    obtain⟨z,y,xs,r,ob,es,ep,e,c⟩:=x;exact⟨z,y,xs,Paired.KR r λp q z=>⟨z.1,ht _ _ z.2.1,z.2.2⟩,ob,es,ep,k _ _ (.inl rfl) e,c⟩
  |set S n=>obtain⟨ob,es,ep,t,e,c⟩:=x;exact⟨ob,es,ep,t,k _ _ (.inl rfl) e,c⟩
  | ins C dx fs =>
    obtain⟨d,z,ne,e,mA,⟨od,es,ep,e2,c⟩,r⟩:=x;exact⟨D _ d,z,ne,k _ _ (.inl rfl) e,mA,⟨od,es,ep,k _ _ (.inr d) e2,c⟩,r⟩
  |own y=>obtain⟨ob,e⟩:=x;exact⟨ob,k _ _ (.inl rfl) e⟩
  |xd fs=>obtain⟨mA,⟨od,es,ep,e,c⟩,r⟩:=x;exact⟨mA,⟨od,es,ep,k _ _ (.inl rfl) e,c⟩,r⟩
  |ze lo hi=>obtain⟨t,u,v,e⟩:=x;exact⟨t,u,v,k _ _ (.inl rfl) e⟩
  |iF ob u ih=>obtain⟨e,q⟩:=x;exact⟨k _ _ (.inl rfl) e,ih q⟩
  | pW ps =>
    have e:h.get? a=some {cls:= .none,data:= .fields ps}:=x;show h'.get? a=some {cls:= .none,data:= .fields ps};exact k a _ (.inl rfl) e
  | met f y =>
    have e:h.get? a=some (PySem.W.methodObj (.ref f) (.ref y)):=x;show h'.get? a=some (PySem.W.methodObj (.ref f) (.ref y));exact k a _ (.inl rfl) e
  |ext φ=>obtain⟨p,⟨o,e⟩,st⟩:=x;exact⟨st _ _ p λo q=>k _ _ (.inl rfl) q,⟨o,k _ _ (.inl rfl) e⟩,st⟩
theorem dR.lt(x:dR P w H h)(e:H a=some o):a<h.objs.size:=(x a o e).lt
theorem dR.fresh(x:dR P w H h)(e:h.objs.size<=a):H a=none:=by
 cases q:H a with
 |none=>rfl
 |some u=>exact absurd (eK (x.lt q) e) (jE _)
theorem dR.kept(x:dR P w H h)(k:∀b u,h.get? b=some u->h'.get? b=some u):dR P w H h':=λa o e=>
 (x a o e).stay (λb u _ q=>k b u q) (λ_ q=>q) λ_ _ q=>q
theorem dR.laid(x:dR P w H h)(k:∀b u,h.get? b=some u->h'.get? b=some u)(hp:h.objs.size<=a)(new:c7 P w (upd H a o) h' a o):dR P w (upd H a o) h':=λb u e=>by
 have hn:=x.fresh hp;by_cases hb:b=a;·subst hb;rw[bx] at e;cases e;exact new
 .rw[bq hb] at e;exact(x b u e).stay (λc v _ q=>k c v q) (λc q=>by rw[bq (iP q hn)];exact q) λc xs q=>by rw[bq (iP q hn)];exact q
end
def Rd(H:Hp)(a:ax)(u:HO):Prop:=H a=some u\/∃o,H a=some (.iF o u)
theorem Rd.ok{P:bg}{w:cq}{H:Hp}{h:eC}{a:ax}{u:HO}(r:Rd H a u)(x:dR P w H h):c7 P w H h a u:=by
 rcases r with r|⟨o,r⟩
 .exact x a u r
 .obtain⟨_,q⟩:=x a _ r;exact q
def uE:Option HO->Prop
 |some (.lst _)=>True
 |some (.dK _)=>True
 |some (.dT _)=>True
 |some (.set _ _)=>True
 |some (.ins _ _ _)=>True
 |some (.ext _)=>True
 |_=>False
section
variable{P:bg}{w:cq}{H:Hp}{h h':eC}{x e:ax}{o':HO}
theorem dR.write(ok:dR P w H h)(d:uE (H x))(he:e=x\/H e=some (.own x))(k:∀b u,b≠e->h.get? b=some u->h'.get? b=some u)(f:∃u,h'.get? e=some u)
  (new:c7 P w (upd H x o') h' x o'):dR P w (upd H x o') h':=λb u q=>by
 have i:∀c y,H c=some (.own y)->c≠x:=λc y r z=>by subst z;rw[r] at d;exact d
 have g:∀c xs,H c=some (.tup xs)->c≠x:=λc xs r z=>by subst z;rw[r] at d;exact d
 by_cases hb:b=x;·subst hb;rw[bx] at q;cases q;exact new
 .rw[bq hb] at q;by_cases a:b=e
  .have B:H b=some (.own x):=by
    rcases he with z|z
    .exact absurd (a.trans z) hb
    .rw[a];exact z
   rw[q] at B;cases B
   obtain⟨v,hv⟩:=f;exact⟨v,by rw[a];exact hv⟩
  .refine(ok b u q).stay (λc v hc r=>k c v ?_ r) (λc r=>by rw[bq (i c b r)];exact r) λc xs r=>by rw[bq (g c xs r)];exact r
   rcases hc with rfl|hc
   .exact a
   .rintro rfl;rcases he with z|z
    .exact i c b hc z
    .rw[hc] at z;cases z;exact hb rfl
end
structure Un(fs ex:List ax)(H H':Hp)(h h':eC):Prop where
 keep:∀b o,h.get? b=some o->H b=none->b∉fs->b∉ex->h'.get? b=some o
 slot:∀b o,h.get? b=some o->H b=none->b∈fs->b∉ex->∃sl,h'.get? b=some {o with slots:=sl}
 free:∀b o,h.get? b=some o->H b=none->b∉ex->H' b=none
 there:∀b o,h.get? b=some o->b∉ex->∃o',h'.get? b=some o'
 tups:∀b xs,H b=some (.tup xs)->H' b=some (.tup xs)
 l9:∀b o u,H b=some (.iF o u)->H' b=some (.iF o u)
 mY:∀b ps,H b=some (.pW ps)->∃more,H' b=some (.pW (ps++more))
section
variable{fs fs' ex ex':List ax}{H H1 H2:Hp}{h h1 h2 h':eC}{a x e:ax}{o:HO}
theorem Un.any(u:Un fs ex H H1 h h1){b:ax}{ob:Obj}(q:h.get? b=some ob)(n:H b=none)(hx:b∉ex):∃sl,h1.get? b=some {ob with slots:=sl}:=by
 by_cases hb:b∈fs;·exact u.slot b ob q n hb hx
 .exact⟨ob.slots,u.keep b ob q n hb hx⟩
theorem Un.kept(k:∀b u,h.get? b=some u->h'.get? b=some u):Un fs ex H H h h':=
 ⟨λb ob q _ _ _=>k b ob q,λb ob q _ _ _=>⟨ob.slots,k b ob q⟩,λ_ _ _ n _=>n,λb ob q _=>⟨ob,k b ob q⟩,λ_ _ q=>q,λ_ _ _ q=>q,λ_ ps q=>⟨#[],by rw[q];simp⟩⟩
theorem Un.refl:Un fs ex H H h h:=Un.kept λ_ _ q=>q
theorem Un.laid(k:∀b u,h.get? b=some u->h'.get? b=some u)(hp:h.objs.size<=a)(hn:H a=none):Un fs ex H (upd H a o) h h' where
 keep:=λb u q _ _ _=>k b u q
 slot:=λb u q _ _ _=>⟨u.slots,k b u q⟩
 free:=λb u q n _=>by rw[bq (dN (eK (bP q) hp))];exact n
 there:=λb u q _=>⟨u,k b u q⟩
 tups:=λb xs q=>by rw[bq (iP q hn)];exact q
 l9:=λb u xs q=>by rw[bq (iP q hn)];exact q
 mY:=λb ps q=>⟨#[],by rw[bq (iP q hn),q];simp⟩
theorem Un.write(d:uE (H x))(he:e=x\/H e=some (.own x))(k:∀b u,b≠e->h.get? b=some u->h'.get? b=some u)(f:∃u,h'.get? e=some u):Un fs ex H (upd H x o) h h':=by
 have hx:∀b,H b=none->b≠x:=λb n z=>by subst z;rw[n] at d;exact d
 have hb:∀b,H b=none->b≠e:=λb n z=>by
  subst z;rcases he with r|r
  .exact hx b n r
  .rw[n] at r;cases r
 have hm:∀b u,H b=some u->¬uE (some u)->b≠x:=λb u q nm z=>by subst z;rw[q] at d;exact nm d
 refine⟨λb u q n _ _=>k b u (hb b n) q,λb u q n _ _=>⟨u.slots,k b u (hb b n) q⟩,λb u q n _=>by rw[bq (hx b n)];exact n,λb u q _=>?_,
  λb xs q=>by rw[bq (hm b _ q λz=>z)];exact q,λb u xs q=>by rw[bq (hm b _ q λz=>z)];exact q,λb ps q=>⟨#[],by rw[bq (hm b _ q λz=>z),q];simp⟩⟩
 by_cases a:b=e;·subst a;exact f
 .exact⟨u,k b u a q⟩
end
noncomputable def wu(h:eC)(H:Hp):List ax:=(bo h.objs.size).filter λa=>(H a).isSome
noncomputable def mV(h:eC)(H:Hp):eC:=PySem.W.hideAll h (wu h H)
theorem FV(h:eC)(H:Hp):(mV h H).objs.size=h.objs.size:=PySem.W.hideAll_size _ _
theorem YC{h:eC}{H:Hp}{b:ax}{o:Obj}(e:h.get? b=some o)(n:H b=none):(mV h H).get? b=some o:=
 PySem.W.hideAll_get _ e λhm=>by
  have q:(H b).isSome=true:=(k6.mp hm).2;rw[n] at q;simp at q
theorem Gj{h:eC}{H:Hp}{b:ax}{o:Obj}(e:(mV h H).get? b=some o):h.get? b=some o/\H b=none:=by
  have e':h.get? b=some o:=PySem.W.of_hideAll (wu h H) e;refine⟨e',?_⟩;cases q:H b with
  |none=>rfl
  | some x =>
    have hm:b∈wu h H:=k6.mpr ⟨pX.mpr (bP e'),by simp[q]⟩;have z:(mV h H).get? b=none:=PySem.W.hideAll_none (wu h H) hm;rw[z] at e;cases e
noncomputable def ZF(g h:eC)(L:ax):List (ax×Obj):=(bo h.objs.size).filterMap λa=>if a=L\/(g.get? a).isSome=true then none else(h.get? a).map λo=>(a,o)
noncomputable def rest(g h:eC)(L d:ax):List (ax×Obj):=(ZF g h L).filter λp=>decide (p.1≠d)
structure Mod(K:PySem.W.Frag)(mg:Str->Option ag)(base:eC):Prop where
 tM:K.In base
 glob:base.Ns bj mg
 blt:∃mb,base.Ns ts mb/\∀x:Str,x≠"__name__" ->mb x=g5 x
 nolimit:base.NoLimit
structure Cx where
 prog:bg
 w:cq
 K:PySem.W.Frag
 mg:Str->Option ag
 base:eC
 A:cx
 N:List Str
 s₀:ar
 H₀:Hp
 env:Env
 outer:List Env
 stack:List Env
 ex:List ax
 fn:Str->Bool
 calm:Bool
 pn:List (ax×Obj)
 xe:ag->ar->Prop
noncomputable def frs(l:List Env):List ax:=l.filterMap (·.frame)
noncomputable abbrev Cx.fs(X:Cx):List ax:=frs X.outer
def Bc(sc:kl)(x:Str):Prop:=sc.names.lookup x=some .local\/sc.names.lookup x=some .cell\/sc.names.lookup x=some .free
def Loc(sc:kl)(x:Str):Prop:=sc.names.lookup x=some .local\/sc.names.lookup x=some .cell
def Look(env:Env)(h:eC)(m:Str->Option ag)(x:Str)(u:ag):Prop:=
 (env.kindOf x=some .local/\m x=some u)\/((env.kindOf x=some .cell\/env.kindOf x=some .free)/\∃c,env.cells.lookup x=some c/\h.IsCell c (some u))
structure Cx.Ok(X:Cx):Prop where
 mod:Mod X.K X.mg X.base
 kind:X.env.scope.kind= .function
 glob:X.env.globals=bj
 blt:X.env.builtins=ts
 above:X.s₀.heap.objs.size<=X.env.locals
 inj:∀x y c,X.env.cells.lookup x=some c->X.env.cells.lookup y=some c->x=y
 has:∀x,(X.env.kindOf x=some .cell\/X.env.kindOf x=some .free)->∃c,X.env.cells.lookup x=some c
 tR:∀x c,X.fn x=true->X.env.cells.lookup x=some c->X.s₀.heap.objs.size<=c
 hd:X.calm=true->X.A.handled=none
 frames:X.A.frames=some X.stack
 stk:X.stack=X.outer\/(X.stack=X.env::X.outer/\X.env.frame=some X.env.locals)
 Ag:∀b∈X.ex,b≠X.env.locals/\∀x c,X.env.cells.lookup x=some c->c≠b
 bs:∀b o,X.base.get? b=some o->X.s₀.heap.get? b=some o/\X.H₀ b=none
 nV:X.base.objs.size<=X.s₀.heap.objs.size
 uQ:∀b o,X.base.get? b=some o->b∉X.ex
 tL:∀b∈X.ex,b∉X.fs
 ki:X.s₀.heap.FunFrames X.base X.outer
 pU:∀b∈X.fs,X.H₀ b=none
structure Inv(X:Cx)(pins:List (ax×Obj))(σ:List (Option V))(H:Hp)(s:ar):Prop where
 ok:X.Ok
 os:s.os=X.s₀.os
 bare:l1 s.gens
 base:Un X.fs X.ex X.H₀ H X.s₀.heap s.heap
 loc:∃m,s.heap.Ns X.env.locals m/\∀(i:Nat) (x:Str) (v:V),X.N[i]?=some x->σ[i]?=some (some v)->Bc X.env.scope x->∃u,RelV v u/\Look X.env s.heap m x u
 cell:∀x c,X.env.cells.lookup x=some c->∃v,s.heap.IsCell c v
 free:H X.env.locals=none
 kG:∀x c,X.env.cells.lookup x=some c->H c=none
 pin:∀p∈X.pn++pins,s.heap.get? p.1=some p.2/\H p.1=none/\p.1≠X.env.locals/\p.1∉X.fs/\∀v,p.2.data≠ .cell v
 hok:dR X.prog X.w H s.heap
 len:σ.length=X.N.length
section
variable{X:Cx}{pins:List (ax×Obj)}{σ:List (Option V)}{H H':Hp}{s:ar}{h':eC}
theorem Cx.Ok.Xk(ok:X.Ok){b:ax}{o:Obj}(e:X.base.get? b=some o):b∉X.fs:=λhb=>by
 have:=(ok.ki.mem hb).1;rw[e] at this;cases this
theorem Inv.bs(I:Inv X pins σ H s):∀b o,X.base.get? b=some o->s.heap.get? b=some o/\H b=none:=λb o e=>
 ⟨I.base.keep b o (I.ok.bs b o e).1 (I.ok.bs b o e).2 (I.ok.Xk e) (I.ok.uQ b o e),I.base.free b o (I.ok.bs b o e).1 (I.ok.bs b o e).2 (I.ok.uQ b o e)⟩
theorem Inv.bk(I:Inv X pins σ H s):∀b o,X.base.get? b=some o->s.heap.get? b=some o:=λb o e=>(I.bs b o e).1
theorem Inv.mod(I:Inv X pins σ H s):Mod X.K X.mg X.base:=I.ok.mod
theorem Inv.c9(I:Inv X pins σ H s):X.K.In s.heap:=I.ok.mod.tM.keeps I.bk
theorem Inv.lt(I:Inv X pins σ H s):X.env.locals<s.heap.objs.size:=let ⟨_,hn,_⟩:=I.loc;hn.lt
theorem Inv.sz(I:Inv X pins σ H s):X.s₀.heap.objs.size<=s.heap.objs.size:=eS I.ok.above (kK I.lt)
theorem Inv.QF(I:Inv X pins σ H s){a:ax}(h:s.heap.objs.size<=a):a∉X.fs:=λhb=>by
 obtain⟨_,o,D,_⟩:=I.ok.ki.mem hb;exact absurd (eK (bP D) (eS I.sz h)) (jE _)
theorem Inv.oQ(I:Inv X pins σ H s):∀x c,X.env.cells.lookup x=some c->c≠X.env.locals:=λx c e z=>by
 obtain⟨v,o,D,hd⟩:=I.cell x c e;obtain⟨m,⟨o',es,ep,d,j,_⟩,_⟩:=I.loc;rw[z,d] at D;cases D;rw[j] at hd;cases hd
theorem Inv.ki(I:Inv X pins σ H s):s.heap.FunFrames X.base X.outer:=by
  have all:∀(l:List Env),(∀b∈frs l,b∈X.fs)->X.s₀.heap.FunFrames X.base l->s.heap.FunFrames X.base l:=by
    intro l;induction l with
    |nil=>intro _ _;trivial
    | cons env r ih =>
      intro hs hl;obtain⟨hk,⟨L,o,hf,hn,D,hd⟩,hr⟩:=hl;have y:L∈X.fs:=hs L (by unfold frs;rw[sy,hf];exact dj);obtain⟨sl,e⟩:=I.base.slot L o D (I.ok.pU L y) y λz=>I.ok.tL L z y;exact⟨hk,⟨L,_,hf,hn,e,hd⟩,ih (λb hb=>hs b (by unfold frs;rw[sy,hf];exact cS _ hb)) hr⟩
  exact all X.outer (λ_ hb=>hb) I.ok.ki
theorem Inv.stack(I:Inv X pins σ H s):s.heap.FunFrames X.base X.stack:=by
 rcases I.ok.stk with e|⟨e,hf⟩
 .rw[e];exact I.ki
 .rw[e];obtain⟨m,hn,_⟩:=I.loc;refine .cons (by rw[I.ok.kind];decide) hf hn ?_ I.ki;exact Heap.get?_none_of_le (eS I.ok.nV I.ok.above)
theorem Inv.Cm(I:Inv X pins σ H s):∀b∈frs X.stack,b∈X.env.locals::X.fs:=λb hb=>by
 rcases I.ok.stk with e|⟨e,hf⟩
 .rw[e] at hb;exact cS _ hb
 .rw[e] at hb;unfold frs at hb;rw[sy,hf] at hb;exact hb
theorem Inv.NZ(I:Inv X pins σ H s):∀b∈frs X.stack,H b=none:=λb hb=>by
 rcases aK.mp (I.Cm b hb) with e|hb
 .rw[e];exact I.free
 .obtain⟨_,o,D,_⟩:=I.ok.ki.mem hb;exact I.base.free b o D (I.ok.pU b hb) λz=>I.ok.tL b z hb
theorem Inv.step{g':Array p3}{t':Nat}{d':Drawn}{ch:List ax}(I:Inv X pins σ H s)
  (a:∀b∈ch,(b∈X.ex\/X.s₀.heap.objs.size<=b)/\b≠X.env.locals/\(∀x c,X.env.cells.lookup x=some c->c≠b)/\∀p∈X.pn++pins,p.1≠b)
  (keep:∀b o,b≠X.env.locals->b∉X.fs->b∉ch->s.heap.get? b=some o->H b=none->h'.get? b=some o)
  (slot:∀b o,b≠X.env.locals->b∈X.fs->b∉ch->s.heap.get? b=some o->H b=none->∃sl,h'.get? b=some {o with slots:=sl}) (free:∀b o,b∉ch->s.heap.get? b=some o->H b=none->H' b=none)
  (there:∀b o,b∉ch->s.heap.get? b=some o->∃o',h'.get? b=some o')
  (tups:∀b xs,H b=some (.tup xs)->H' b=some (.tup xs)) (l9:∀b o u,H b=some (.iF o u)->H' b=some (.iF o u)) (mY:∀b ps,H b=some (.pW ps)->∃more,H' b=some (.pW (ps++more)))
  (ns:∀m,s.heap.Ns X.env.locals m->h'.Ns X.env.locals m) (hok:dR X.prog X.w H' h') (hg:l1 g'):
  Inv X pins σ H' {s with heap:=h',gens:=g',drawn:=d',toks:=t'}:=by
 have t:∀b o,X.s₀.heap.get? b=some o->b≠X.env.locals:=λb o e=>dN (eK (bP e) I.ok.above);have h:∀b o,X.s₀.heap.get? b=some o->b∉X.ex->b∉ch:=λb o e hx hb=>by
  rcases(a b hb).1 with z|z
  .exact hx z
  .exact absurd (eK (bP e) z) (jE _)
 have f:∀x c,X.env.cells.lookup x=some c->∀v,s.heap.IsCell c v->h'.IsCell c v:=λx c e v ⟨o,D,hd⟩=>by
  have g:c∉ch:=λz=>(a c z).2.2.1 x c e rfl;by_cases hc:c∈X.fs
  .obtain⟨sl,q⟩:=slot c o (I.oQ x c e) hc g D (I.kG x c e);exact⟨_,q,hd⟩
  .exact⟨o,keep c o (I.oQ x c e) hc g D (I.kG x c e),hd⟩
 refine⟨I.ok,I.os,hg,⟨λb o e n hb hx=>?_,λb o e n hb hx=>?_,λb o e n hx=>?_,λb o e hx=>?_,λb xs e=>tups b xs (I.base.tups b xs e),λb o xs e=>l9 b o xs (I.base.l9 b o xs e),λb ps e=>?_⟩,?_,λx c e=>?_,?_,λx c e=>?_,λp hp=>?_,hok,I.len⟩;·exact keep b o (t b o e) hb (h b o e hx) (I.base.keep b o e n hb hx) (I.base.free b o e n hx)
 .obtain⟨sl,e1⟩:=I.base.slot b o e n hb hx;obtain⟨j,e2⟩:=slot b _ (t b o e) hb (h b o e hx) e1 (I.base.free b o e n hx);exact⟨j,e2⟩
 .obtain⟨o',e1⟩:=I.base.there b o e hx;exact free b o' (h b o e hx) e1 (I.base.free b o e n hx)
 .obtain⟨o',e1⟩:=I.base.there b o e hx;exact there b o' (h b o e hx) e1
 .obtain⟨m1,e1⟩:=I.base.mY b ps e;obtain⟨m2,e2⟩:=mY b _ e1;exact⟨m1++m2,by rw[e2,mu]⟩
 .obtain⟨m,hn,hl⟩:=I.loc;refine⟨m,ns m hn,λi x v e1 e2 e3=>?_⟩;obtain⟨u,r,l⟩:=hl i x v e1 e2 e3;refine⟨u,r,?_⟩;rcases l with l|⟨k,c,e,z⟩
  .exact .inl l
  .exact .inr ⟨k,c,e,f x c e _ z⟩
 .obtain⟨v,z⟩:=I.cell x c e;exact⟨v,f x c e v z⟩
 .obtain⟨m,⟨o,_,_,D,_⟩,_⟩:=I.loc;exact free _ o (λz=>(a _ z).2.1 rfl) D I.free
 .obtain⟨v,o,D,hd⟩:=I.cell x c e;exact free c o (λz=>(a c z).2.2.1 x c e rfl) D (I.kG x c e)
 .obtain⟨e,n,ne,F,d⟩:=I.pin p hp;have g:p.1∉ch:=λz=>(a p.1 z).2.2.2 p hp rfl;exact⟨keep p.1 p.2 ne F g e n,free p.1 p.2 g e n,ne,F,d⟩
theorem Inv.un{t':Nat}(I:Inv X pins σ H s)(u:Un X.fs [] H H' s.heap h')(hok:dR X.prog X.w H' h'):Inv X pins σ H' {s with heap:=h',toks:=t'}:=by
 obtain⟨m,⟨o,es,ep,D,r⟩,_⟩:=id I.loc;obtain⟨sl,y⟩:=u.any D I.free (by simp)
 exact I.step (g':=s.gens) (d':=s.drawn) (ch:=[]) (λ_ z=>nomatch z) (λb o _ hb _ e n=>u.keep b o e n hb (by simp)) (λb o _ hb _ e n=>u.slot b o e n hb (by simp)) (λb o _ e n=>u.free b o e n (by simp)) (λb o _ e=>u.there b o e (by simp)) u.tups u.l9 u.mY (λm' hm=>by
  obtain⟨o',es',f,d,r'⟩:=hm;rw[D] at d;cases d
  exact⟨_,es',f,y,r'⟩) hok I.bare
theorem Inv.call{g':Array p3}{t':Nat}{d':Drawn}{ch:List ax}(I:Inv X pins σ H s)(u:Un (frs X.stack) ch H H' s.heap h')(hok:dR X.prog X.w H' h')(hg:l1 g')
  (a:∀b∈ch,(b∈X.ex\/X.s₀.heap.objs.size<=b)/\b≠X.env.locals/\(∀x c,X.env.cells.lookup x=some c->c≠b)/\∀p∈X.pn++pins,p.1≠b):
  Inv X pins σ H' {s with heap:=h',gens:=g',drawn:=d',toks:=t'}:=by
 obtain⟨m,⟨o,es,ep,D,r⟩,_⟩:=id I.loc;obtain⟨sl,y⟩:=u.any D I.free λz=>(a _ z).2.1 rfl
 exact I.step (ch:=ch) a (λb o y hb hc e n=>u.keep b o e n (λz=>(aK.mp (I.Cm b z)).elim y hb) hc) (λb o _ _ hc e n=>u.any e n hc) (λb o hc e n=>u.free b o e n hc) (λb o hc e=>u.there b o e hc) u.tups u.l9 u.mY (λm' hm=>by
  obtain⟨o',es',f,d,r'⟩:=hm;rw[D] at d;cases d
  exact⟨_,es',f,y,r'⟩) hok hg
theorem Inv.turned{t':Nat}{it:ax}(I:Inv X pins σ H s)(k:∀b o,b≠it->s.heap.get? b=some o->h'.get? b=some o)(hn:H it=none)(y:it≠X.env.locals)
  (h1:it∈X.ex\/X.s₀.heap.objs.size<=it) (h2:∀x c,X.env.cells.lookup x=some c->c≠it) (h3:∀p∈X.pn++pins,p.1≠it):Inv X pins σ H {s with heap:=h',toks:=t'}:=by
 have a:∀b u,H b=some u->b≠it:=λb u e z=>by rw[z,hn] at e;cases e
 refine I.step (g':=s.gens) (d':=s.drawn) (ch:=[it]) (λb hb=>?_) (λb o _ _ hc e _=>k b o (λz=>hc (by simp[z])) e) (λb o _ _ hc e _=>⟨o.slots,k b o (λz=>hc (by simp[z])) e⟩) (λ_ _ _ _ n=>n)
  (λb o hc e=>⟨o,k b o (λz=>hc (by simp[z])) e⟩) (λ_ _ e=>e) (λ_ _ _ e=>e) (λb ps e=>⟨#[],by rw[e];simp⟩) (λm hm=>?_) (λb u e=>?_) I.bare
 .have e:b=it:=by simpa using hb
  subst e;exact⟨h1,y,h2,h3⟩
 .obtain⟨o,es,ep,D,r⟩:=hm;exact⟨o,es,ep,k _ o (cB y) D,r⟩
 .refine(I.hok b u e).stay (λc v hc q=>k c v ?_ q) (λ_ q=>q) λ_ _ q=>q;rcases hc with z|z
  .rw[z];exact a b u e
  .exact a c _ z
theorem Inv.tok(I:Inv X pins σ H s)(t:Nat):Inv X pins σ H {s with toks:=t}:=I.un (h':=s.heap) (t':=t) Un.refl I.hok
theorem Inv.kept{t':Nat}(I:Inv X pins σ H s)(k:∀b u,s.heap.get? b=some u->h'.get? b=some u):Inv X pins σ H {s with heap:=h',toks:=t'}:=I.un (Un.kept k) (I.hok.kept k)
theorem Inv.laid{a:ax}{o:HO}{t':Nat}(I:Inv X pins σ H s)(k:∀b u,s.heap.get? b=some u->h'.get? b=some u)(hp:s.heap.objs.size<=a)(new:c7 X.prog X.w (upd H a o) h' a o):
  Inv X pins σ (upd H a o) {s with heap:=h',toks:=t'}:=I.un (Un.laid k hp (I.hok.fresh hp)) (I.hok.laid k hp new)
theorem Inv.write{x e:ax}{o:HO}{t':Nat}(I:Inv X pins σ H s)(d:uE (H x))(he:e=x\/H e=some (.own x))(k:∀b u,b≠e->s.heap.get? b=some u->h'.get? b=some u)(f:∃u,h'.get? e=some u)
  (new:c7 X.prog X.w (upd H x o) h' x o):Inv X pins σ (upd H x o) {s with heap:=h',toks:=t'}:=I.un (Un.write d he k f) (I.hok.write d he k f new)
theorem Inv.OX{a:List (ax×Obj)}(I:Inv X pins σ H s)(h:∀p∈a,s.heap.get? p.1=some p.2/\H p.1=none/\p.1≠X.env.locals/\p.1∉X.fs/\∀v,p.2.data≠ .cell v):Inv X a σ H s:=
 ⟨I.ok,I.os,I.bare,I.base,I.loc,I.cell,I.free,I.kG,λp hp=>(iG.mp hp).elim (λz=>I.pin p (qC _ z)) (h p),I.hok,I.len⟩
theorem M0{N:List Str}(hN:N.Nodup){i j:Nat}{x:Str}(a:N[i]?=some x)(b:N[j]?=some x):i=j:=by
 obtain⟨h1,e1⟩:=bT.mp a;obtain⟨h2,e2⟩:=bT.mp b;exact(List.getElem_inj hN).mp (e1.trans e2.symm)
theorem JK{M:Model}{A:cx}{E:ag->ar->Prop}{i:Nat}{x:Str}{v:V}{u:ag}{Q:Unit->ar->Prop}(I:Inv X pins σ H s)(hN:X.N.Nodup)(hi:X.N[i]?=some x)(hx:Loc X.env.scope x)(r:RelV v u)
  (h:∀s',Inv X pins (σ.set i (some v)) H s'->(∃a,e6 a s.heap s'.heap/\(a=X.env.locals\/X.env.cells.lookup x=some a))->Q () s') (hf:X.fn x=true\/X.env.scope.names.lookup x=some .local:=by first|exact .inl rfl|exact .inr rfl|assumption):wpAny M A (storeName X.env x u) Q E s:=by
 obtain⟨m,hn,hl⟩:=id I.loc;have G:(X.env.scope.kind== .class||(X.env.scope.kind== .module && X.env.locals !=X.env.globals))=false:=by rw[I.ok.kind];rfl
 have P:i<σ.length:=by rw[I.len];exact(bT.mp hi).1
 have oQ:=I.oQ;have g:∀{a:ax} {h':eC},(∃o,s.heap.get? a=some o/\H a=none)->e6 a s.heap h'->dR X.prog X.w H h':=λ{a h'} ha hs b ob e=>by
  obtain⟨_,_,f⟩:=ha;refine(I.hok b ob e).stay (λc w' hc q=>(hs.2 c ?_).trans q) (λ_ q=>q) λ_ _ q=>q;rintro rfl;rcases hc with rfl|hc
  .rw[f] at e;cases e
  .rw[f] at hc;cases hc
 rcases hx with hk|hk
 .refine wpAny_storeName_local hk hn (λh' K hs=>?_) G;obtain⟨R,_,_,T,_⟩:=id hn;refine h _ ⟨I.ok,I.os,I.bare,⟨λb o e n hb hx=>?_,λb o e n hb hx=>?_,I.base.free,λb o e hx=>?_,I.base.tups,I.base.l9,I.base.mY⟩,⟨_,K,λj y D e1 e2 e3=>?_⟩,λy c e=>?_,I.free,I.kG,λp hp=>?_,g ⟨R,T,I.free⟩ hs,by simpa using I.len⟩ ⟨_,hs, .inl rfl⟩;·exact(hs.2 b (dN (eK (bP e) I.ok.above))).trans (I.base.keep b o e n hb hx)
  .obtain⟨sl,e1⟩:=I.base.slot b o e n hb hx;exact⟨sl,(hs.2 b (dN (eK (bP e) I.ok.above))).trans e1⟩
  .obtain⟨o',e1⟩:=I.base.there b o e hx;exact⟨o',(hs.2 b (dN (eK (bP e) I.ok.above))).trans e1⟩
  .by_cases hj:j=i
   .subst hj;rw[hi] at e1;cases e1
    rw[cW P] at e2;cases e2;exact⟨u,r, .inl ⟨hk,by simp⟩⟩
   .rw[bO (cB hj)] at e2;obtain⟨O,r',q⟩:=hl j y D e1 e2 e3;refine⟨O,r',?_⟩;rcases q with ⟨k,e⟩|⟨k,c,e,z⟩
    .refine .inl ⟨k,?_⟩;have:y≠x:=λe=>hj (M0 hN e1 (e▸hi));simp[this,e]
    .exact .inr ⟨k,c,e,z.sameBut hs (oQ y c e)⟩
  .obtain⟨w',z⟩:=I.cell y c e;exact⟨w',z.sameBut hs (oQ y c e)⟩
  .obtain⟨e,n,ne,F,d⟩:=I.pin p hp;exact⟨(hs.2 p.1 ne).trans e,n,ne,F,d⟩
 .have C:X.fn x=true:=by
   rcases hf with z|z
   .exact z
   .rw[z] at hk;cases hk
  obtain⟨c,hc⟩:=I.ok.has x (.inl hk);obtain⟨w',z⟩:=I.cell x c hc;refine wpAny_storeName_cell I.ok.kind hk hc z (λh' l hs=>?_);obtain⟨oc,t,S⟩:=id z;refine h {s with heap:=h'} ⟨I.ok,I.os,I.bare,⟨λb o e n hb hx=>?_,λb o e n hb hx=>?_,I.base.free,λb o e hx=>?_,I.base.tups,I.base.l9,I.base.mY⟩,⟨m,hn.sameBut hs (cB (oQ x c hc)),λj y D e1 e2 e3=>?_⟩,λy c' e=>?_,I.free,I.kG,λp hp=>?_,g ⟨oc,t,I.kG x c hc⟩ hs,by simpa using I.len⟩ ⟨c,hs, .inr hc⟩;·exact(hs.2 b (dN (eK (bP e) (I.ok.tR x c C hc)))).trans (I.base.keep b o e n hb hx)
  .obtain⟨sl,e1⟩:=I.base.slot b o e n hb hx;exact⟨sl,(hs.2 b (dN (eK (bP e) (I.ok.tR x c C hc)))).trans e1⟩
  .obtain⟨o',e1⟩:=I.base.there b o e hx;exact⟨o',(hs.2 b (dN (eK (bP e) (I.ok.tR x c C hc)))).trans e1⟩
  .by_cases hj:j=i
   .subst hj;rw[hi] at e1;cases e1
    rw[cW P] at e2;cases e2;exact⟨u,r, .inr ⟨.inl hk,c,hc,l⟩⟩
   .rw[bO (cB hj)] at e2;obtain⟨O,r',q⟩:=hl j y D e1 e2 e3;refine⟨O,r',?_⟩;rcases q with q|⟨k,c',e,z'⟩
    .exact .inl q
    .refine .inr ⟨k,c',e,z'.sameBut hs ?_⟩;rintro rfl;exact hj (M0 hN e1 (I.ok.inj _ _ _ e hc▸hi))
  .by_cases J:c'=c;·subst J;exact⟨_,l⟩
   .obtain⟨L,z2⟩:=I.cell y c' e;exact⟨L,z2.sameBut hs J⟩
  .obtain⟨e,n,ne,F,d⟩:=I.pin p hp;refine⟨(hs.2 p.1 ?_).trans e,n,ne,F,d⟩;intro q;rw[q,t] at e;have B:oc=p.2:=jt e;exact d w' (by rw[<-B];exact S)
theorem vA{M:Model}{A:cx}{E:ag->ar->Prop}{i:Nat}{x:Str}{v:V}{u:ag}{Q:Unit->ar->Prop}(I:Inv X pins σ H s)(hN:X.N.Nodup)(hi:X.N[i]?=some x)(hx:Loc X.env.scope x)(r:RelV v u)
  (h:∀s',Inv X pins (σ.set i (some v)) H s'->Q () s') (hf:X.fn x=true\/X.env.scope.names.lookup x=some .local:=by first|exact .inl rfl|exact .inr rfl|assumption):wpAny M A (storeName X.env x u) Q E s:=
 JK I hN hi hx r (λs' b _=>h s' b) hf
theorem Inv.Y9{s':ar}{ch:List ax}(I:Inv X pins σ H s)(D:s'.os=s.os)(u:Un (frs X.stack) ch H H' s.heap s'.heap)(hok:dR X.prog X.w H' s'.heap)(hg:l1 s'.gens)
  (a:∀b∈ch,(b∈X.ex\/X.s₀.heap.objs.size<=b)/\b≠X.env.locals/\(∀x c,X.env.cells.lookup x=some c->c≠b)/\∀p∈X.pn++pins,p.1≠b):Inv X pins σ H' s':=by
 obtain⟨h',g',d',t',o'⟩:=s';have e:o'=s.os:=D;subst e;exact I.call (g':=g') (t':=t') (d':=d') u hok hg a
end
abbrev XK:=ag->Option ax->Hp->Prop
noncomputable abbrev qg:=List (Option V)
abbrev VK:=V->Hp->Prop
abbrev TE:=qg->Hp->VK->Prop
abbrev TT:=qg->Hp->(Bool->Hp->Prop)->Prop
abbrev TA:=qg->Hp->(List V->Hp->Prop)->Prop
structure Ends where
 nx:qg->Hp->Prop
 rt:VK
 bk:qg->Hp->Prop:=λ_ _=>False
 ct:qg->Hp->Prop:=λ_ _=>False
abbrev TS:=Ends->qg->Hp->Prop
def EP(X:Cx)(pins:List (ax×Obj))(σ:qg)(Q:VK)(u:ag)(s':ar):Prop:=∃v H',Inv X pins σ H' s'/\RelV v u/\Q v H'
def TP(X:Cx)(pins:List (ax×Obj))(σ:qg)(Q:Bool->Hp->Prop)(b:Bool)(s':ar):Prop:=∃H',Inv X pins σ H' s'/\Q b H'
def AP(X:Cx)(pins:List (ax×Obj))(σ:qg)(Q:List V->Hp->Prop)(us:List ag)(s':ar):Prop:=∃vs H',Inv X pins σ H' s'/\Vals vs us/\Q vs H'
def SP(X:Cx)(pins:List (ax×Obj))(D:Ends)(f:Flow)(s':ar):Prop:=
 match f with
 | .next=>∃L H',Inv X pins L H' s'/\D.nx L H'
 | .brk=>∃L H',Inv X pins L H' s'/\D.bk L H'
 | .cont=>∃L H',Inv X pins L H' s'/\D.ct L H'
 | .ret u=>∃v L H',Inv X pins L H' s'/\RelV v u/\D.rt v H'
def PE(X:Cx)(e:et)(t:TE):Prop:=
 ∀(pins:List (ax×Obj)) (s:ar) (σ:qg) (H:Hp) (Q:VK),Inv X pins σ H s->t σ H Q->wpAny (be X.prog X.w) X.A (eval e X.env) (EP X pins σ Q) X.xe s
def PT(X:Cx)(e:et)(t:TT):Prop:=
 ∀(pins:List (ax×Obj)) (s:ar) (σ:qg) (H:Hp) (Q:Bool->Hp->Prop),Inv X pins σ H s->t σ H Q->wpAny (be X.prog X.w) X.A (isTrue e X.env (eval e X.env)) (TP X pins σ Q) X.xe s
def PW(X:Cx)(e:et)(t:TT):Prop:=
 ∀(whole:Sem ag) (pins:List (ax×Obj)) (s:ar) (σ:qg) (H:Hp) (Q:Bool->Hp->Prop),Inv X pins σ H s->t σ H Q->wpAny (be X.prog X.w) X.A (isTrue e X.env whole) (TP X pins σ Q) X.xe s
theorem PW.pt{X:Cx}{e:et}{t:TT}(h:PW X e t):PT X e t:=h _
def PA(X:Cx)(es:List et)(t:TA):Prop:=
 ∀(pos:Pos) (pins:List (ax×Obj)) (s:ar) (σ:qg) (H:Hp) (Q:List V->Hp->Prop),Inv X pins σ H s->t σ H Q->wpAny (be X.prog X.w) X.A (spliced (lj pos (cm es X.env))) (AP X pins σ Q) X.xe s
def PS(X:Cx)(st:fb)(t:TS):Prop:=
 ∀(pins:List (ax×Obj)) (s:ar) (σ:qg) (H:Hp) (D:Ends),Inv X pins σ H s->t D σ H->wpAny (be X.prog X.w) X.A (exec st X.env) (SP X pins D) X.xe s
def jN(X:Cx)(st:List fb)(t:TS):Prop:=
 ∀(pins:List (ax×Obj)) (s:ar) (σ:qg) (H:Hp) (D:Ends),Inv X pins σ H s->t D σ H->wpAny (be X.prog X.w) X.A (execs st X.env) (SP X pins D) X.xe s
theorem aP{α:Type}{t:Sem α}{Q d:α->ar->Prop}{M:Model}{A:cx}{E:ag->ar->Prop}{s:ar}(h:wpAny M A t Q E s)(G:∀a s,Q a s->d a s):wpAny M A t d E s:=eM h G λ_ _ x=>x
section
variable{X:Cx}
def cH(i:Nat):TE:=λσ H Q=>∃v,σ[i]?=some (some v)/\Q v H
def tC(v:V):TE:=λ_ H Q=>Q v H
theorem MI{i:Nat}{x:Str}{pos:Pos}(hN:X.N[i]?=some x)(hv:Bc X.env.scope x)(hd:(x==("__debug__":Str))=false:=by decide)(j:(x==("__classdict__":Str))=false:=by decide):PE X (.Name x pos) (cH i):=by
 intro pins s σ H Q I h;obtain⟨v,e,h⟩:=h;obtain⟨m,hn,hl⟩:=I.loc;obtain⟨u,r,l⟩:=hl i x v hN e hv;have fin:EP X pins σ Q u s:=⟨v,H,I,r,h⟩;rcases l with ⟨hk,hm⟩|⟨hk,c,hc,hcell⟩
 .exact tx (wpAny_loadName_local I.ok.kind hk hn hm fin) hd
 .rcases hk with hk|hk
  .exact tx (wpAny_loadName_cell I.ok.kind hk hc hcell fin) hd
  .exact tx (wpAny_loadName_free I.ok.kind hk hc hcell fin j) hd
theorem aj{i j pos}:PE X (.Constant (.int i) j pos) (tC (.int i)):=λ_ _ _ H _ I h=>wpAny_Constant_int ⟨.int i,H,I.tok _,⟨_,rfl⟩,h⟩
theorem mO{b j pos}:PE X (.Constant (.bool b) j pos) (tC (.bl b)):=λ_ _ _ H _ I h=>Constant_bool ⟨.bl b,H,I,rfl,h⟩
theorem fk{j pos}:PE X (.Constant .none j pos) (tC .aL):=λ_ _ _ H _ I h=>Constant_none ⟨.aL,H,I,rfl,h⟩
theorem gc{x j pos}:PE X (.Constant (.str x) j pos) (tC (.str x)):=λ_ _ _ H _ I h=>Calls.Constant_str ⟨.str x,H,I.tok _,⟨_,rfl⟩,h⟩
def Gl(X:Cx)(x:Str):Prop:=X.env.kindOf x=some .globalImplicit
theorem CJ{E:ag->ar->Prop}{pins:List (ax×Obj)}{s:ar}{σ:qg}{H:Hp}{x:Str}{u:ag}{pos:Pos}{Q:ag->ar->Prop}(I:Inv X pins σ H s)(hg:Gl X x)(hm:X.mg x=some u)(h:Q u s)
  (hd:(x==("__debug__":Str))=false:=by decide):wpAny (be X.prog X.w) X.A (eval (.Name x pos) X.env) Q E s:=
 HE I.ok.kind hg (Calls.loadGlobal_global (by rw[I.ok.glob];exact I.mod.glob.keeps I.bk) hm h) hd
theorem qV{E:ag->ar->Prop}{pins:List (ax×Obj)}{s:ar}{σ:qg}{H:Hp}{x:Str}{u:ag}{pos:Pos}{Q:ag->ar->Prop}(I:Inv X pins σ H s)(hg:Gl X x)(hm:X.mg x=none)(hv:g5 x=some u)(h:Q u s)
  (hn:x≠"__name__":=by decide) (hd:(x==("__debug__":Str))=false:=by decide):wpAny (be X.prog X.w) X.A (eval (.Name x pos) X.env) Q E s:=by
 obtain⟨mb,h1,h2⟩:=I.mod.blt;exact HE I.ok.kind hg (Calls.loadGlobal_builtin (by rw[I.ok.glob];exact I.mod.glob.keeps I.bk) hm (by rw[I.ok.blt];exact h1.keeps I.bk) ((h2 x hn).trans hv) h) hd
theorem Mr{x:Str}{v:V}{u:ag}{pos:Pos}(hg:Gl X x)(hm:X.mg x=some u)(r:RelV v u)(hd:(x==("__debug__":Str))=false:=by decide):PE X (.Name x pos) (tC v):=
 λ_ _ _ H _ I h=>CJ I hg hm ⟨v,H,I,r,h⟩ hd
theorem ko{x:Str}{v:V}{u:ag}{pos:Pos}(hg:Gl X x)(hm:X.mg x=none)(hv:g5 x=some u)(r:RelV v u)(hn:x≠"__name__":=by decide)(hd:(x==("__debug__":Str))=false:=by decide):PE X (.Name x pos) (tC v):=
 λ_ _ _ H _ I h=>qV I hg hm hv ⟨v,H,I,r,h⟩ hn hd
variable{a b:et}{ta tb:TE}{pos:Pos}
def PC(X:Cx)(op:CmpOp)(a b:et)(t:TE):Prop:=
 ∀(pins:List (ax×Obj)) (s:ar) (σ:qg) (H:Hp) (Q:VK),Inv X pins σ H s->t σ H Q->
  wpAny (be X.prog X.w) X.A (eval a X.env) (λv s₁=>wpAny (be X.prog X.w) X.A (eval b X.env) (λu d=>wpAny (be X.prog X.w) X.A (da op v u) (EP X pins σ Q) X.xe d) X.xe s₁) X.xe s
variable{tA yC:TT}{rest:List et}
def GJ(t u:TT):TT:=λσ H Q=>t σ H λc H1=>if c=true then u σ H1 Q else Q false H1
def Ig(t u:TT):TT:=λσ H Q=>t σ H λc H1=>if c=true then Q true H1 else u σ H1 Q
def Pz(t:TT):TT:=λσ H Q=>t σ H λc H1=>Q (!c) H1
theorem nG(ha:PT X a tA):PW X (.BoolOp .And [a] pos) tA:=by
 intro wh pins s σ H Q I h;refine isTrue_and (aP (ha pins s σ H Q I h) λc s1 e=>?_);cases c with
 |true=>exact isTrue_and_nil e
 |false=>exact e
theorem lC(ha:PT X a tA):PW X (.BoolOp .Or [a] pos) tA:=by
 intro wh pins s σ H Q I h;refine isTrue_or (aP (ha pins s σ H Q I h) λc s1 e=>?_);cases c with
 |false=>exact isTrue_or_nil e
 |true=>exact e
theorem oq(ha:PT X a tA)(hb:PW X (.BoolOp .And (b::rest) pos) yC):PW X (.BoolOp .And (a::b::rest) pos) (GJ tA yC):=by
 intro wh pins s σ H Q I h;refine isTrue_and (aP (ha pins s σ H _ I h) λc s1 ⟨H1,I1,J⟩=>?_);cases c with
 |true=>exact hb wh pins s1 σ H1 Q I1 J
 |false=>exact⟨H1,I1,J⟩
theorem kC(ha:PT X a tA)(hb:PW X (.BoolOp .Or (b::rest) pos) yC):PW X (.BoolOp .Or (a::b::rest) pos) (Ig tA yC):=by
 intro wh pins s σ H Q I h;refine isTrue_or (aP (ha pins s σ H _ I h) λc s1 ⟨H1,I1,J⟩=>?_);cases c with
 |true=>exact⟨H1,I1,J⟩
 |false=>exact hb wh pins s1 σ H1 Q I1 J
theorem nu(ha:PT X a tA):PT X (.UnaryOp .Not a pos) (Pz tA):=by
 intro pins s σ H Q I h;exact isTrue_not (ha pins s σ H (λc H1=>Q (!c) H1) I h)
def EI(ta tb:TE):TE:=λσ H Q=>ta σ H λx H1=>∃c,x= .bl c/\if c=true then tb σ H1 Q else Q (.bl false) H1
theorem LZ{op}{t:TE}(h:PE X a t):PE X (.BoolOp op [a] pos) t:=λpins s σ H Q I hw=>BoolOp_one (h pins s σ H Q I hw)
theorem MU(ha:PE X a ta)(hb:PE X (.BoolOp .And (b::rest) pos) tb):PE X (.BoolOp .And (a::b::rest) pos) (EI ta tb):=by
 intro pins s σ H Q I h;refine BoolOp_and (aP (ha pins s σ H _ I h) λv s1 ⟨x,H1,I1,C,J⟩=>?_);obtain⟨c,rfl,J⟩:=J;cases C;refine gL ?_;cases c with
 |true=>exact hb pins s1 σ H1 Q I1 J
 |false=>exact⟨.bl false,H1,I1,rfl,J⟩
def Hv(t:TT)(ta tb:TE):TE:=λσ H Q=>t σ H λc H1=>if c=true then ta σ H1 Q else tb σ H1 Q
theorem o9{c:et}(hc:PT X c tA)(ha:PE X a ta)(hb:PE X b tb):PE X (.IfExp c a b pos) (Hv tA ta tb):=by
 intro pins s σ H Q I h;refine wpAny_IfExp (aP (hc pins s σ H _ I h) λd s1 ⟨H1,I1,J⟩=>?_);cases d with
 |true=>exact ha pins s1 σ H1 Q I1 J
 |false=>exact hb pins s1 σ H1 Q I1 J
end
def aZ(K:PySem.W.Frag)(H:Hp)(a:ax)(xs:List V):Prop:=
 Rd H a (.lst xs)\/
  ∃(o:Obj) (its:Array ag) (n:Nat),K.lookup a=some o/\o.cls= .type "list" /\o.dict=none/\o.data= .seq its n/\its.size<=sizeLine/\Vals xs its.toList
def dX(K:PySem.W.Frag)(H:Hp)(a:ax)(xs:List V):Prop:=
 Rd H a (.tup xs)\/
  ∃(o:Obj) (its:Array ag) (n:Nat),K.lookup a=some o/\o.cls= .type "tuple" /\o.data= .seq its n/\its.size<=sizeLine/\Vals xs its.toList
noncomputable def Fk:ag->Option V
 | .none=>some .aL
 | .bool b=>some (.bl b)
 | .int i _=>some (.int i)
 | .str x _=>some (.str x)
 | .bytes b _=>some (.jv b)
 | .float b _=>some (.lT b)
 | .ref a=>some (.ref a)
 | .type n=>some (.ty n)
 |_=>none
theorem RelV.abs{x:V}{u:ag}(r:RelV x u):Fk u=some x:=by
 cases x with
 |aL=>cases r;rfl
 |bl _=>cases r;rfl
 |int _=>obtain⟨t,rfl⟩:=r;rfl
 |str _=>obtain⟨t,rfl⟩:=r;rfl
 |jv _=>obtain⟨t,rfl⟩:=r;rfl
 |lT _=>obtain⟨t,rfl⟩:=r;rfl
 |ref _=>cases r;rfl
 |ty _=>cases r;rfl
theorem RelV.inj{x y:V}{u:ag}(r:RelV x u)(q:RelV y u):x=y:=jt (r.abs.symm.trans q.abs)
theorem Vals.inj{xs ys:List V}{us:List ag}(h:Vals xs us)(k:Vals ys us):xs=ys:=by
 induction h generalizing ys with
 |nil=>cases k;rfl
 |cons r t ih=>cases k with|cons r' t'=>rw[r.inj r',ih t']
section
variable{X:Cx}{pins:List (ax×Obj)}{σ:qg}{H:Hp}{s:ar}{a:ax}{xs ys:List V}
theorem aZ.of{K:PySem.W.Frag}(h:H a=some (.lst xs)):aZ K H a xs:= .inl (.inl h)
theorem dX.of{K:PySem.W.Frag}(h:H a=some (.tup xs)):dX K H a xs:= .inl (.inl h)
theorem Inv.list(I:Inv X pins σ H s)(h:aZ X.K H a xs):∃its:List ag,Vals xs its/\PlainL s.heap a its.toArray/\xs.length<=sizeLine:=by
 rcases h with h|⟨o,its,n,hk,hc,hd,hs,hz,r⟩
 .obtain⟨z,its,n,r,e⟩:=h.ok I.hok;exact⟨its,r,⟨_,n,e,rfl,rfl,rfl⟩,z⟩
 .refine⟨its.toList,r,⟨o,n,I.c9 a o hk,hc,hd,by simpa using hs⟩,?_⟩;have e:=r.length;simp only[dI] at e;omega
theorem Inv.tuple(I:Inv X pins σ H s)(h:dX X.K H a xs):∃its:List ag,Vals xs its/\IsTup s.heap a its.toArray/\xs.length<=sizeLine:=by
 rcases h with h|⟨o,its,n,hk,hc,hs,hz,r⟩
 .obtain⟨z,its,r,p⟩:=h.ok I.hok;exact⟨its,r,p,z⟩
 .refine⟨its.toList,r,⟨o,I.c9 a o hk,hc,n,by simpa using hs⟩,?_⟩;have e:=r.length;simp only[dI] at e;omega
theorem Inv.MN(I:Inv X pins σ H s)(h:aZ X.K H a xs)(h':aZ X.K H a ys):xs=ys:=by
 obtain⟨its,r,⟨o,n,e,_,_,d⟩,_⟩:=I.list h;obtain⟨its',r',⟨o',c,e',_,_,d'⟩,_⟩:=I.list h';rw[e] at e';cases e'
 rw[d] at d';injection d' with d1 _
 have:its=its':=by simpa using congrArg vw d1
 subst this;exact r.inj r'
theorem Inv.Xe(I:Inv X pins σ H s)(h:dX X.K H a xs)(h':dX X.K H a ys):xs=ys:=by
 obtain⟨its,r,⟨o,e,_,n,d⟩,_⟩:=I.tuple h;obtain⟨its',r',⟨o',e',_,c,d'⟩,_⟩:=I.tuple h';rw[e] at e';cases e'
 rw[d] at d';injection d' with d1 _
 have:its=its':=by simpa using congrArg vw d1
 subst this;exact r.inj r'
end
noncomputable abbrev Cx.lq(X:Cx)(E:ag->ar->Prop):Cx:={X with xe:=E}
noncomputable abbrev Cx.z9(X:Cx):Cx:=X.lq λ_ _=>False
theorem Cx.Ok.lq{X:Cx}(ok:X.Ok)(E:ag->ar->Prop):(X.lq E).Ok:=
 ⟨ok.mod,ok.kind,ok.glob,ok.blt,ok.above,ok.inj,ok.has,ok.tR,ok.hd,ok.frames,ok.stk,ok.Ag,ok.bs,ok.nV,ok.uQ,ok.tL,ok.ki,ok.pU⟩
theorem Cx.Ok.ny{X:Cx}{E:ag->ar->Prop}(ok:(X.lq E).Ok):X.Ok:=
 ⟨ok.mod,ok.kind,ok.glob,ok.blt,ok.above,ok.inj,ok.has,ok.tR,ok.hd,ok.frames,ok.stk,ok.Ag,ok.bs,ok.nV,ok.uQ,ok.tL,ok.ki,ok.pU⟩
section
variable{X:Cx}{pins:List (ax×Obj)}{σ:qg}{H:Hp}{s:ar}{E:ag->ar->Prop}
theorem Inv.lq(I:Inv X pins σ H s)(E:ag->ar->Prop):Inv (X.lq E) pins σ H s:=⟨I.ok.lq E,I.os,I.bare,I.base,I.loc,I.cell,I.free,I.kG,I.pin,I.hok,I.len⟩
theorem Inv.ny(I:Inv (X.lq E) pins σ H s):Inv X pins σ H s:=⟨I.ok.ny,I.os,I.bare,I.base,I.loc,I.cell,I.free,I.kG,I.pin,I.hok,I.len⟩
theorem SP.ny{D:Ends}{f:Flow}{s':ar}(h:SP (X.lq E) pins D f s'):SP X pins D f s':=by
 cases f with
 |next=>obtain⟨L,H',I,q⟩:=h;exact⟨L,H',I.ny,q⟩
 |brk=>obtain⟨L,H',I,q⟩:=h;exact⟨L,H',I.ny,q⟩
 |cont=>obtain⟨L,H',I,q⟩:=h;exact⟨L,H',I.ny,q⟩
 |ret u=>obtain⟨v,L,H',I,r,q⟩:=h;exact⟨v,L,H',I.ny,r,q⟩
theorem jN.z9{st:List fb}{t:TS}(h:jN X.z9 st t):jN X st t:=λpins s σ H D I hw=>
 eM (h pins s σ H D (I.lq _) hw) (λ_ _ q=>q.ny) λ_ _ z=>eh z
end
section
variable{X:Cx}{st:fb}{rest:List fb}{t u:TS}{e:et}{te:TE}{pos:Pos}
def FW:TS:=λD σ H=>D.nx σ H
def pD(t u:TS):TS:=λD σ H=>t {D with nx:=u D} σ H
theorem cJ:jN X [] FW:=λ_ _ σ H _ I h=>hV ⟨σ,H,I,h⟩
theorem ao(h1:PS X st t)(h2:jN X rest u):jN X (st::rest) (pD t u):=by
  intro pins s σ H D I h;refine pa (aP (h1 pins s σ H {D with nx:=u D} I h) λf s1 q=>?_);cases f with
  | next =>
    obtain⟨L,H',b,q⟩:=q;exact h2 pins s1 L H' D b q
  |ret v=>exact q
  |brk=>exact q
  |cont=>exact q
theorem aC(h1:PS X st t):jN X [st] t:=by
 intro pins s σ H D I h;refine pa (aP (h1 pins s σ H D I h) λf s1 q=>?_);cases f with
 |next=>exact hV q
 |ret v=>exact q
 |brk=>exact q
 |cont=>exact q
def Jn:TS:=λD σ H=>D.bk σ H
def VJ:TS:=λD σ H=>D.ct σ H
theorem Inv.quiet{pins:List (ax×Obj)}{σ:qg}{H:Hp}{s:ar}(I:Inv X pins σ H s):interactive X.env=false:=by simp[interactive,I.ok.kind]
def q9(te:TE):TS:=λD σ H=>te σ H λ_ H1=>D.nx σ H1
theorem rC(he:PE X e te)(hs:qb e none pos.line X.env=pure false:=by rfl):PS X (.Expr e pos) (q9 te):=by
 intro pins s σ H D I h;exact wpAny_Expr_any (aP (he pins s σ H _ I h) λv s1 ⟨x,H1,I1,C,J⟩=>⟨σ,H1,I1,J⟩) I.quiet hs
def kY(te:TE):TS:=λD σ H=>te σ H D.rt
theorem aM(he:PE X e te):PS X (.Return (some e) pos) (kY te):=by
 intro pins s σ H D I h;exact wpAny_Return_some (aP (he pins s σ H _ I h) λv s1 ⟨x,H1,I1,C,J⟩=>⟨x,σ,H1,I1,C,J⟩)
def vE(c:TT)(t u:TS):TS:=λD σ H=>c σ H λb H1=>if b=true then t D σ H1 else u D σ H1
theorem cy{c:et}{a b:List fb}{tc:TT}(hc:PT X c tc)(ha:jN X a t)(hb:jN X b u):PS X (.If c a b pos) (vE tc t u):=by
 intro pins s σ H D I h;refine wpAny_If (aP (hc pins s σ H _ I h) λd s1 ⟨H1,I1,J⟩=>?_);cases d with
 |true=>exact ha pins s1 σ H1 D I1 J
 |false=>exact hb pins s1 σ H1 D I1 J
end
abbrev TG:=V->qg->Hp->(qg->Hp->Prop)->Prop
abbrev jb:=List V->qg->Hp->(qg->Hp->Prop)->Prop
def PG(X:Cx)(a:et)(t:TG):Prop:=
 ∀(pins:List (ax×Obj)) (s:ar) (σ:qg) (H:Hp) (v:V) (u:ag) (Q:qg->Hp->Prop),Inv X pins σ H s->RelV v u->t v σ H Q->
  wpAny (be X.prog X.w) X.A (tz a X.env u) (λ_ s'=>∃L H',Inv X pins L H' s'/\Q L H') X.xe s
def sE(X:Cx)(b:List et)(t:jb):Prop:=
 ∀(pins:List (ax×Obj)) (s:ar) (σ:qg) (H:Hp) (vs:List V) (us:List ag) (Q:qg->Hp->Prop),Inv X pins σ H s->Vals vs us->t vs σ H Q->
  wpAny (be X.prog X.w) X.A (assignInOrder ((gN b X.env).map (·.2)) us) (λ_ s'=>∃L H',Inv X pins L H' s'/\Q L H') X.xe s
abbrev A6:=V->V->V->Hp->(Hp->Prop)->Prop
def Ht(X:Cx)(t:A6):Prop:=
 ∀(pins:List (ax×Obj)) (s:ar) (σ:qg) (H:Hp) (o i v:V) (b a u:ag) (Q:Hp->Prop),Inv X pins σ H s->RelV o b->RelV i a->RelV v u->t o i v H Q->
  wpAny (be X.prog X.w) X.A (setItem b a u) (λ_ s'=>∃H',Inv X pins σ H' s'/\Q H') X.xe s
section
variable{X:Cx}{pos:Pos}
def ic(i:Nat):TG:=λv σ H Q=>Q (σ.set i (some v)) H
theorem aO{i:Nat}{x:Str}(hN:X.N.Nodup)(hi:X.N[i]?=some x)(hx:Loc X.env.scope x)(hf:X.fn x=true\/X.env.scope.names.lookup x=some .local:=by first|exact .inl rfl|exact .inr rfl|assumption):PG X (.Name x pos) (ic i):=by
 intro pins s σ H v u Q I r h;exact nq (vA I hN hi hx r (λs' b=>⟨_,H,b,h⟩) hf)
def Dj:jb:=λvs σ H Q=>vs=[]/\Q σ H
def B3(t:TG)(u:jb):jb:=λvs σ H Q=>∃v r,vs=v::r/\t v σ H λL H'=>u r L H' Q
theorem iN:sE X [] Dj:=by
 intro pins s σ H vs us Q I r h;obtain⟨e,h⟩:=h;subst e;cases r;exact nr ⟨σ,H,I,h⟩
theorem cF{e:et}{es:List et}{t:TG}{u:jb}(h1:PG X e t)(h2:sE X es u)
    (hs:(gN (e::es) X.env).map (·.2)=tz e X.env::(gN es X.env).map (·.2):=by rfl):sE X (e::es) (B3 t u):=by
  intro pins s σ H vs us Q I r h;obtain⟨v,vr,e1,h⟩:=h;subst e1;cases r with
  | cons r f =>
    rw[hs];refine iI (aP (h1 pins s σ H _ _ _ I r h) λ_ s1 ⟨a,H1,I1,J⟩=>?_);exact h2 pins s1 a H1 _ _ Q I1 f J
def AB(K:PySem.W.Frag)(n:Nat)(t:jb):TG:=λv σ H Q=>∃a xs,v= .ref a/\dX K H a xs/\xs.length=n/\t xs σ H Q
theorem MS{es:List et}{k:Nat}{t:jb}{n:Nat}(hc:X.calm=true)(h:sE X es t)
  (hn:(gN es X.env).length=n:=by rfl) (d:(gN es X.env).findIdx? (·.1)=none:=by rfl):PG X (.Tuple es k pos) (AB X.K n t):=by
 intro pins s σ H v u Q I r hw;obtain⟨a,xs,e1,hq,hl,hw⟩:=hw;subst e1;cases r;obtain⟨its,rv,ht,hz⟩:=I.tuple hq;refine assign_Tuple_tuple (I.ok.hd hc) ht (by simp[hn,<-hl,rv.length]) d λh' hx=>?_;have I1:Inv X pins σ H {s with heap:=h'}:=I.kept (t':=s.toks) λb o e=>hx b o (dN (bP e)) e;exact h pins _ σ H xs _ Q I1 (by simpa using rv) hw
def pO(to c:TE)(t:A6):TG:=λv σ H Q=>to σ H λo H1=>c σ H1 λi H2=>t o i v H2 λH3=>Q σ H3
theorem jx{o i:et}{to c:TE}{t:A6}(D:PE X o to)(hi:PE X i c)(hs:Ht X t)
  (ha : ∀ v, assign (.Subscript o i pos) X.env v = (do
   let b<-holding [v] (eval o X.env)
   let a<-holding [v,b] (eval i X.env)
   standAt pos
   holding [v,b,a] (setItem b a v)
   release [v,b,a] []):=by intro _;rfl):PG X (.Subscript o i pos) (pO to c t):=by
 intro pins s σ H v u Q I r h;rw[ha];refine ae (du (aP (D pins s σ H _ I h) λb s1 ⟨x,H1,I1,C,J⟩=>?_));refine ae (du (aP (hi pins s1 σ H1 _ I1 J) λa s2 ⟨y,H2,I2,U,O⟩=>?_));refine ae (km (ae (du (aP (hs pins s2 σ H2 x y v b a u _ I2 C U r O) λ_ s3 ⟨H3,I3,Y⟩=>?_))));exact wpAny_release ⟨σ,H3,I3,Y⟩
def gE(te:TE)(g:TG):TS:=λD σ H=>te σ H λx H1=>g x σ H1 D.nx
theorem gD{tg e:et}{te:TE}{g:TG}(he:PE X e te)(hg:PG X tg g)(hs:uu [tg] e pos.line X.env=pure false:=by rfl)(hw:uv [tg] e X.env=pure none:=by rfl)
  (h1:(gN [tg] X.env).map (·.2)=[tz tg X.env]:=by rfl):PS X (.Assign [tg] e pos) (gE te g):=by
 intro pins s σ H D I h;refine wpAny_Assign_stores (aP (he pins s σ H _ I h) λv s1 ⟨x,H1,I1,C,J⟩=>?_) hs hw;rw[h1];exact aP (hg pins s1 σ H1 x v _ I1 C J) λ_ s2 q=>q
theorem aJ{i:Nat}{x:Str}{e:et}{te:TE}{pos':Pos}(hN:X.N.Nodup)(hi:X.N[i]?=some x)(hx:Loc X.env.scope x)(he:PE X e te)(hs:qb e (some (.Name x pos')) pos.line X.env=pure false:=by rfl)(hf:X.fn x=true\/X.env.scope.names.lookup x=some .local:=by first|exact .inl rfl|exact .inr rfl|assumption):
  PS X (.Assign [.Name x pos'] e pos) (gE te (ic i)):=by
 intro pins s σ H D I h;refine wpAny_Assign_Name (aP (he pins s σ H _ I h) λv s1 ⟨y,H1,I1,C,J⟩=>?_) hs;exact vA I1 hN hi hx C (λs2 I2=>⟨_,H1,I2,J⟩) hf
def Kv(i j:Nat)(ta:TA):TS:=λD σ H=>ta σ H λvs H1=>∃v w,vs=[v,w]/\D.nx ((σ.set i (some v)).set j (some w)) H1
theorem Yo{i j:Nat}{x y:Str}{a b:et}{ta:TA}{f d pt:Pos}{kt k2 pt2}(hc:X.calm=true)(hN:X.N.Nodup)(hi:X.N[i]?=some x)(hj:X.N[j]?=some y)(hij:i≠j)
    (hx:X.env.scope.names.lookup x=some .local) (hy:X.env.scope.names.lookup y=some .local) (ha:PA X [a,b] ta)
    (hw:uv [.Tuple [.Name x f, .Name y d] kt pt] (.Tuple [a,b] k2 pt2) X.env=pure (some [x,y]))
    (hs:uu [.Tuple [.Name x f, .Name y d] kt pt] (.Tuple [a,b] k2 pt2) pos.line X.env=pure false:=by rfl):
    PS X (.Assign [.Tuple [.Name x f, .Name y d] kt pt] (.Tuple [a,b] k2 pt2) pos) (Kv i j ta):=by
  intro pins s σ H D I h;rw[exec_Assign_arm];refine ae (km ?_);rw[hs];refine ae (aw ?_);rw[if_neg ⋯];refine ae (Tuple_ (aP (ha _ pins s σ H _ I h) λus s1 ⟨vs,H1,I1,C,J⟩=>?_));obtain⟨v,w,e1,J⟩:=J;subst e1;obtain⟨u1,u2,rfl,rv,c⟩:∃u1 u2,us=[u1,u2]/\RelV v u1/\RelV w u2:=by
    cases C with
    | cons p q =>
      cases q with
      | cons r B =>
        cases B;exact⟨_,_,rfl,p,r⟩
  refine c6 ?_ (by show 2<=sizeLine;decide);have I2:Inv X pins σ H1 {s1 with heap:=s1.heap.push {cls:= .type "tuple",data:= .seq [u1,u2].toArray}}:=I1.kept (t':=s1.toks) λb o e=>bW _ e;rw[hw];refine ae (aw ?_);show wpAny (be X.prog X.w) X.A (do rule "assign.swapped-stores";let items<-unpackItems (.ref s1.heap.objs.size) 2 none;assignInOrder [λv=>uM X.env y v,λv=>uM X.env x v] items.reverse;pure zr) _ _ _;refine ae (eP (ae (unpackItems_tuple (items:= #[u1,u2]) (I.ok.hd hc) (IsTup.new s1.heap _) λh' M=>?_)));have I3:=I2.kept (h':=h') (t':=s1.toks) λb o e=>M b o (dN (bP e)) e;show wpAny _ _ (assignInOrder [λv=>uM X.env y v,λv=>uM X.env x v] [u2,u1]>>=λ_=>pure zr) _ _ _;refine ae (iI (r7 (vA I3 hN hj (.inl hy) c (λs2 I4=>?_) (.inr hy))));refine iI (r7 (vA I4 hN hi (.inl hx) rv (λs3 U=>nr (aw ?_)) (.inr hx)));rw[List.set_comm _ _ (cB hij)] at U;exact⟨_,H1,U,J⟩
end
section
variable{X:Cx}{pos:Pos}
def Fv(c:TT)(tb:TS):TS:=λD σ H=>∃W:Nat->qg->Hp->Prop,(∃m,W m σ H)/\∀m σ H,W m σ H->
 c σ H λb H1=>if b=true then∃N:qg->Hp->Prop,(∀L H',N L H'->∃m',m'<m/\W m' L H')/\tb {D with nx:=N,ct:=N,bk:=D.nx} σ H1 else D.nx σ H1
theorem DV{c:et}{a:List fb}{tc:TT}{tb:TS}(hp:PassesOwn (be X.prog X.w) X.A X.env X.xe)(hc:PT X c tc)(hb:jN X a tb):PS X (.While c a [] pos) (Fv tc tb):=by
  intro pins s σ H D I h;obtain⟨W,⟨R,w0⟩,L⟩:=h;refine wpAny_While (codeAny_whileLoop (λn s'=>∃σ' H',Inv X pins σ' H' s'/\W n σ' H') ?_ R ⟨σ,H,I,w0⟩);rintro n s1 ⟨σ1,H1,I1,w1⟩;refine ek hp (aP (hc pins s1 σ1 H1 _ I1 (L n σ1 H1 w1)) λb s2 ⟨H2,I2,O⟩=>?_);cases b with
  | true =>
    obtain⟨N,hN,O⟩:=O;rw[if_pos rfl];refine ek hp (aP (hb pins s2 σ1 H2 _ I2 O) λf s3 Y=>?_);cases f with
    | next =>
      obtain⟨d,H3,I3,j⟩:=Y;obtain⟨m',hm,e⟩:=hN d H3 j;exact⟨m',hm,d,H3,I3,e⟩
    | cont =>
      obtain⟨d,H3,I3,j⟩:=Y;obtain⟨m',hm,e⟩:=hN d H3 j;exact⟨m',hm,d,H3,I3,e⟩
    |brk=>exact Y
    |ret v=>exact Y
  | false =>
    rw[if_neg cO];exact hV ⟨σ1,H2,I2,O⟩
end
structure It where
 go:Nat->Hp->Prop
 pJ:Nat->Hp->V->Hp->Prop
 stop:Nat->Hp->Prop
def jg(X:Cx)(pins:List (ax×Obj))(H:Hp)(b:ax):Prop:=
 H b=none/\b≠X.env.locals/\b∉X.fs/\(b∈X.ex\/X.s₀.heap.objs.size<=b)/\(∀x c,X.env.cells.lookup x=some c->c≠b)/\∀p∈X.pn++pins,p.1≠b
theorem Inv.nX{X:Cx}{pins:List (ax×Obj)}{σ:qg}{H H':Hp}{s:ar}{b:ax}(I:Inv X pins σ H s)(hb:s.heap.objs.size<=b)(hn:H' b=none):jg X pins H' b:=by
 refine⟨hn,qw (eK I.lt hb),I.QF hb, .inr (eS I.sz hb),λx c e z=>?_,λp hp z=>?_⟩
 .obtain⟨v,q⟩:=I.cell x c e;exact absurd (eK q.lt (by rw[z];exact hb)) (jE _)
 .exact absurd (eK (bP (I.pin p hp).1) (by rw[z];exact hb)) (jE _)
structure Turn(P:bg)(w:cq)(K:PySem.W.Frag)(tg:et)(J:It)(fp:List ax)(it:ax)(tn:Nat->eC->Prop):Prop where
 mem:it∈fp
 obj:∀i h,tn i h->∀b∈fp,∃o,h.get? b=some o/\∀v,o.data≠ .cell v
 keep:∀i h h',tn i h->(∀b∈fp,∀o,h.get? b=some o->h'.get? b=some o)->tn i h'
 item:∀(X:Cx),X.prog=P->X.w=w->X.K=K->X.calm=true->∀(i:Nat) (pins:List (ax×Obj)) (s:ar) (σ:qg) (H:Hp) (E:ag->ar->Prop),Inv X pins σ H s->(∀b∈fp,jg X pins H b)->tn i s.heap->J.go i H->
  wpAny (be P w) X.A (mc (.ref it)) (λr s1=>∃u,r=some u/\
   wpAny (be P w) X.A (hX tg (.ref it) u) (λ_ s2=>∃x H',Inv X pins σ H' s2/\RelV x u/\J.pJ i H x H'/\tn (i+1) s2.heap/\∀b∈fp,H' b=none) E s1) E s
 done:∀(X:Cx),X.prog=P->X.w=w->X.K=K->X.calm=true->∀(i:Nat) (pins:List (ax×Obj)) (s:ar) (σ:qg) (H:Hp) (E:ag->ar->Prop),Inv X pins σ H s->(∀b∈fp,jg X pins H b)->tn i s.heap->J.stop i H->
  wpAny (be P w) X.A (mc (.ref it)) (λr s1=>r=none/\Inv X pins σ H s1) E s
 self:∀(A:cx) (i:Nat) (s:ar) (Q:ag->ar->Prop) (E:ag->ar->Prop),tn i s.heap->Q (.ref it) s->wpAny (be P w) A (yd (.ref it)) Q E s
abbrev TI:=qg->Hp->(It->Hp->Prop)->Prop
def M6(X:Cx)(pins:List (ax×Obj))(σ:qg)(tg:et)(R:It->Hp->Prop)(itv:ag)(s2:ar):Prop:=
 ∃(it:ax) (fp:List ax) (tn:Nat->eC->Prop) (J:It) (H':Hp),itv= .ref it/\Inv X pins σ H' s2/\Turn X.prog X.w X.K tg J fp it tn/\tn 0 s2.heap/\(∀b∈fp,jg X pins H' b)/\R J H'
def PI(X:Cx)(tg l:et)(P:TI):Prop:=
 ∀(pins:List (ax×Obj)) (s:ar) (σ:qg) (H:Hp) (R:It->Hp->Prop),Inv X pins σ H s->P σ H R->
  wpAny (be X.prog X.w) X.A (eval l X.env) (λv s1=>wpAny (be X.prog X.w) X.A (yd v) (M6 X pins σ tg R) X.xe s1) X.xe s
theorem sN{M:Model}{A:cx}{E:ag->ar->Prop}{s:ar}{tg:et}{it:ax}{u:ag}{o:Obj}{n:String}{vs:Array ag}{Q:Unit->ar->Prop}(D:s.heap.get? it=some o)(hc:o.cls= .type n)(hd:o.data= .fields vs)
    (hn:["enumerate","zip","dict_itemiterator","dict_reverseitemiterator","odict_iterator","itertools.zip_longest","itertools.pairwise"].contains n=false) (G:Q () s):wpAny M A (hX tg (.ref it) u) Q E s:=by
  unfold hX
  cases tg<;>first
    |exact aw G
    |(cases u<;>first
        |exact aw G
        | (refine wpAny_bind (wpAny_load D ?_)
           rw[hc,hd];show wpAny M A (if(["enumerate","zip","dict_itemiterator","dict_reverseitemiterator","odict_iterator","itertools.zip_longest","itertools.pairwise"].contains n && vs[0]?==some (cn _))=true then _ else _) Q E s;rw[if_neg (by intro h;rw[hn,Bool.false_and] at h;cases h)];exact aw G))
noncomputable def oU(K:PySem.W.Frag)(a:ax):It:=
 ⟨λi H=>∃xs x,aZ K H a xs/\xs[i]?=some x,λi H x H'=>H'=H/\∀xs,aZ K H a xs->xs[i]?=some x,λi H=>∃xs,aZ K H a xs/\xs.length<=i⟩
noncomputable def Dh(K:PySem.W.Frag)(a:ax):It:=
 ⟨λi H=>∃xs x,dX K H a xs/\xs[i]?=some x,λi H x H'=>H'=H/\∀xs,dX K H a xs->xs[i]?=some x,λi H=>∃xs,dX K H a xs/\xs.length<=i⟩
noncomputable def ji(lo:Int)(n:Nat):It:=⟨λi _=>i<n,λi H x H'=>H'=H/\x= .int (lo+i),λi _=>n<=i⟩
theorem WT{P:bg}{w:cq}{K:PySem.W.Frag}{tg:et}(a it:ax):Turn P w K tg (oU K a) [it] it (λi h=>h.IsListIter it a i) where
 mem:=by simp
 obj:=λi h st b hb=>by
  have e:b=it:=by simpa using hb
  subst e;obtain⟨o,e,c,d⟩:=st;exact⟨o,e,λv z=>by rw[d] at z;cases z⟩
 keep:=λi h h' st k=>st.at λo e=>k it (by simp) o e
 item:=by
  intro X hP hw hK hc i pins s σ H E I hf st hg;subst hP hw hK;obtain⟨xs,x,hq,hx⟩:=hg;obtain⟨its,rv,p,hz⟩:=I.list hq;obtain⟨u,hu,ru⟩:=rv.get hx;obtain⟨C,Y,G,T,V,J⟩:=hf it (by simp);refine wpAny_pyNext_list_item st p.isList (x:=u) (by simpa using hu) λh' st' sb=>?_;have I1:Inv X pins σ H {s with heap:=h'}:=I.turned (t':=s.toks) (λb o hb e=>(sb.2 b hb).trans e) C Y T V J;obtain⟨o,e,c,d⟩:=id st';exact⟨u,rfl,sN (s:={s with heap:=h'}) e c d ⋯ ⟨x,H,I1,ru,⟨rfl,λys hy=>by rw[I.MN hy hq];exact hx⟩,st',λb hb=>(hf b hb).1⟩⟩
 done:=by
  intro X hP hw hK hc i pins s σ H E I hf st hg;subst hP hw hK;obtain⟨xs,hq,hx⟩:=hg;obtain⟨its,rv,p,hz⟩:=I.list hq;obtain⟨C,Y,G,T,V,J⟩:=hf it (by simp);have hl:=rv.length;exact wpAny_pyNext_list_end (I.ok.hd hc) st p.isList (by simp;omega) λh' eb=>⟨rfl,I.turned (t':=s.toks) (λb o hb e=>eb b o hb e) C Y T V J⟩
 self:=λ_ _ _ _ _ st h=>wpAny_pyIter_listiter st h
theorem QX{P:bg}{w:cq}{K:PySem.W.Frag}{tg:et}(a it:ax):Turn P w K tg (Dh K a) [it] it (λi h=>h.IsTupleIter it a i) where
 mem:=by simp
 obj:=λi h st b hb=>by
  have e:b=it:=by simpa using hb
  subst e;obtain⟨o,e,c,d⟩:=st;exact⟨o,e,λv z=>by rw[d] at z;cases z⟩
 keep:=λi h h' st k=>st.at λo e=>k it (by simp) o e
 item:=by
  intro X hP hw hK hc i pins s σ H E I hf st hg;subst hP hw hK;obtain⟨xs,x,hq,hx⟩:=hg;obtain⟨its,rv,p,hz⟩:=I.tuple hq;obtain⟨u,hu,ru⟩:=rv.get hx;obtain⟨C,Y,G,T,V,J⟩:=hf it (by simp);refine wpAny_pyNext_tuple_item st (show s.heap.IsTuple a its.toArray from p) (x:=u) (by simpa using hu) λh' st' sb=>?_;have I1:Inv X pins σ H {s with heap:=h'}:=I.turned (t':=s.toks) (λb o hb e=>(sb.2 b hb).trans e) C Y T V J;obtain⟨o,e,c,d⟩:=id st';exact⟨u,rfl,sN (s:={s with heap:=h'}) e c d ⋯ ⟨x,H,I1,ru,⟨rfl,λys hy=>by rw[I.Xe hy hq];exact hx⟩,st',λb hb=>(hf b hb).1⟩⟩
 done:=by
  intro X hP hw hK hc i pins s σ H E I hf st hg;subst hP hw hK;obtain⟨xs,hq,hx⟩:=hg;obtain⟨its,rv,p,hz⟩:=I.tuple hq;obtain⟨C,Y,G,T,V,J⟩:=hf it (by simp);have hl:=rv.length;exact wpAny_pyNext_tuple_end (I.ok.hd hc) st (show s.heap.IsTuple a its.toArray from p) (by simp;omega) λh' eb=>⟨rfl,I.turned (t':=s.toks) (λb o hb e=>eb b o hb e) C Y T V J⟩
 self:=λ_ _ _ _ _ st h=>wpAny_pyIter_tupleiter st h
theorem Vb{P:bg}{w:cq}{K:PySem.W.Frag}{tg:et}(it:ax)(lo:Int)(n:Nat):Turn P w K tg (ji lo n) [it] it (λi h=>IsRangeIter h it (lo+(i:Nat)*1) ((n:Int)-(i:Nat)) 1) where
 mem:=by simp
 obj:=λi h st b hb=>by
  have e:b=it:=by simpa using hb
  subst e
  exact⟨_,st,λv z=>by
   have z':xg _=zt v:=z;cases z'⟩
 keep:=λi h h' st k=>k it (by simp) _ st
 item:=by
  intro X hP hw hK hc i pins s σ H E I hf st hg;subst hP hw hK;obtain⟨C,Y,G,T,V,J⟩:=hf it (by simp);have W:=Walks.range (prog:=X.prog) (w:=X.w) (I.ok.hd hc) it lo 1 n;refine W.item i s _ _ hg st λv h' tk hv st' L=>?_;obtain⟨t,rfl⟩:=hv;have I1:Inv X pins σ H {s with heap:=h',toks:=tk}:=I.turned (λb o hb e=>L b o (by simpa using hb) e) C Y T V J;refine⟨_,rfl,sN (s:={s with heap:=h',toks:=tk}) (n:="range_iterator") st' rfl rfl ⋯ ⟨.int (lo+i),H,I1,⟨t,?_⟩,⟨rfl,rfl⟩,st',λb hb=>(hf b hb).1⟩⟩;rw[vm]
 done:=by
  intro X hP hw hK hc i pins s σ H E I hf st hg;subst hP hw hK;obtain⟨C,Y,G,T,V,J⟩:=hf it (by simp);exact wpAny_pyNext_range_end (I.ok.hd hc) st (by have:n<=i:=hg;omega) λh' eb=>⟨rfl,I.turned (t':=s.toks) (λb o hb e=>eb b o hb e) C Y T V J⟩
 self:=λ_ _ _ _ _ st h=>wpAny_pyIter_rangeiter st h
section
variable{X:Cx}{tg:et}
def oH(K:PySem.W.Frag)(tl:TE):TI:=λσ H R=>tl σ H λx H1=>∃a,x= .ref a/\(∃xs,aZ K H1 a xs)/\R (oU K a) H1
def yG(K:PySem.W.Frag)(tl:TE):TI:=λσ H R=>tl σ H λx H1=>∃a,x= .ref a/\(∃xs,dX K H1 a xs)/\R (Dh K a) H1
theorem M8{l:et}{tl:TE}(hl:PE X l tl):PI X tg l (oH X.K tl):=by
 intro pins s σ H R I h;refine aP (hl pins s σ H _ I h) λv s1 ⟨x,H1,I1,C,J⟩=>?_;obtain⟨a,e,⟨xs,hq⟩,q⟩:=J;subst e;cases C;obtain⟨its,rv,p,hz⟩:=I1.list hq;refine j1 p.isList ?_;refine⟨s1.heap.objs.size,[s1.heap.objs.size],_,_,H1,rfl,I1.kept (t':=s1.toks) λb o e=>bW _ e,WT a _,⟨_,fT _ rfl,rfl,rfl⟩,λb hb=>?_,q⟩;have e:b=s1.heap.objs.size:=by simpa using hb
 subst e;exact I1.nX (aH _) (I1.hok.fresh (aH _))
theorem XC{l:et}{tl:TE}(hl:PE X l tl):PI X tg l (yG X.K tl):=by
 intro pins s σ H R I h;refine aP (hl pins s σ H _ I h) λv s1 ⟨x,H1,I1,C,J⟩=>?_;obtain⟨a,e,⟨xs,hq⟩,q⟩:=J;subst e;cases C;obtain⟨its,rv,p,hz⟩:=I1.tuple hq;refine wpAny_pyIter_tuple (show s1.heap.IsTuple a its.toArray from p) ?_;refine⟨s1.heap.objs.size,[s1.heap.objs.size],_,_,H1,rfl,I1.kept (t':=s1.toks) λb o e=>bW _ e,QX a _,⟨_,fT _ rfl,rfl,rfl⟩,λb hb=>?_,q⟩;have e:b=s1.heap.objs.size:=by simpa using hb
 subst e;exact I1.nX (aH _) (I1.hok.fresh (aH _))
theorem J2{pins:List (ax×Obj)}{σ:qg}{H:Hp}{s:ar}{R:It->Hp->Prop}{E:ag->ar->Prop}{lo hi:Int}{t u v:Tok}{tk:Nat}(I:Inv X pins σ H s)(h1: -(2^62)<=lo)(h2:lo<2^62)(h3: -(2^62)<=hi)(h4:hi<2^62)
  (q:R (ji lo (hi-lo).toNat) H):wpAny (be X.prog X.w) X.A (yd (.ref s.heap.objs.size)) (M6 X pins σ tg R) E {s with heap:=s.heap.push {cls:= .type "range",data:= .fields #[.int lo t, .int hi u, .int 1 v]},toks:=tk}:=by
 refine wpAny_pyIter_range (IsRange.new ..) (small_one h1 h2 h3 h4) ?_;have I1:Inv X pins σ H {s with heap:=s.heap.push {cls:= .type "range",data:= .fields #[.int lo t, .int hi u, .int 1 v]},toks:=tk}:=I.kept λb o e=>bW _ e
 refine⟨(s.heap.push {cls:= .type "range",data:= .fields #[.int lo t, .int hi u, .int 1 v]}).objs.size,[(s.heap.push {cls:= .type "range",data:= .fields #[.int lo t, .int hi u, .int 1 v]}).objs.size],_,_,H,rfl,
  I1.kept (t':=tk) λb o e=>bW _ e,Vb _ lo (hi-lo).toNat,?_,λb hb=>?_,q⟩
 .have e1:lo+((0:Nat):Int)*1=lo:=by simp
  have e2:(((hi-lo).toNat:Nat):Int)-((0:Nat):Int)=u3 lo hi 1:=by rw[rangeSize_one];split<;>omega
  show IsRangeIter _ _ (lo+((0:Nat):Int)*1) ((((hi-lo).toNat:Nat):Int)-((0:Nat):Int)) 1;rw[e1,e2];exact fT _ rfl
 .have e:b=(s.heap.push {cls:= .type "range",data:= .fields #[.int lo t, .int hi u, .int 1 v]}).objs.size:=by simpa using hb
  subst e;exact I1.nX (aH _) (I1.hok.fresh (aH _))
def wc(ta:TA):TI:=λσ H R=>ta σ H λvs H1=>∃j:Int,vs=[.int j]/\ -(2^62)<=j/\j<2^62/\R (ji 0 j.toNat) H1
def IL(ta:TA):TI:=λσ H R=>ta σ H λvs H1=>∃i j:Int,vs=[.int i, .int j]/\(-(2^62)<=i/\i<2^62/\ -(2^62)<=j/\j<2^62)/\R (ji i (j-i).toNat) H1
theorem iH{a:et}{ta:TA}{p pos:Pos}(hg:Gl X "range")(hm:X.mg "range"=none)(ha:PA X [a] ta)(hs:cm [a] X.env=[(false,eval a X.env)]:=by rfl):PI X tg (.Call (.Name "range" p) [a] [] pos) (wc ta):=by
  intro pins s σ H R I h;refine Call_ (qV I hg hm boot_range (wZ (aP (ha pos pins s σ H _ I h) λus s1 ⟨vs,H1,I1,C,J⟩=>?_) hs rfl));obtain⟨j,e,J,O,q⟩:=J;subst e;cases C with
  | cons r f =>
    cases f;obtain⟨t,rfl⟩:=r;exact call_range_1 (J2 I1 ∅ ∅ J O (by simpa using q))
theorem Mf{a b:et}{ta:TA}{p pos:Pos}(hg:Gl X "range")(hm:X.mg "range"=none)(ha:PA X [a,b] ta)(hs:cm [a,b] X.env=[(false,eval a X.env),(false,eval b X.env)]:=by rfl)(d:cm [b] X.env=[(false,eval b X.env)]:=by rfl):
    PI X tg (.Call (.Name "range" p) [a,b] [] pos) (IL ta):=by
  intro pins s σ H R I h;refine Call_ (qV I hg hm boot_range (wZ (aP (ha pos pins s σ H _ I h) λus s1 ⟨vs,H1,I1,C,J⟩=>?_) (by rw[hs,d]) (by rw[d];rfl)));obtain⟨i,j,e,⟨J,O,Y,u⟩,q⟩:=J;subst e;cases C with
  | cons r f =>
    cases f with
    | cons r' f =>
      cases f;obtain⟨t,rfl⟩:=r;obtain⟨t',rfl⟩:=r';exact call_range_2 (J2 I1 J O Y u q)
def qD(P:TI)(g:TG)(tb:TS):TS:=λD σ H=>P σ H λJ H1=>∃W:Nat->Nat->qg->Hp->Prop,(∃m,W 0 m σ H1)/\∀i m σ H,W i m σ H->
 (J.stop i H/\D.nx σ H)\/(J.go i H/\∃N:qg->Hp->Prop,(∀L H',N L H'->∃m',m'<m/\W (i+1) m' L H')/\∀x H',J.pJ i H x H'->g x σ H' λk H2=>tb {D with nx:=N,ct:=N,bk:=D.nx} k H2)
noncomputable def ua(fp:List ax)(h:eC):List (ax×Obj):=fp.filterMap λb=>(h.get? b).map λo=>(b,o)
theorem Ab{fp:List ax}{h:eC}{b:ax}{o:Obj}(hb:b∈fp)(e:h.get? b=some o):(b,o)∈ua fp h:=GK.mpr ⟨b,hb,by rw[e];rfl⟩
theorem FX{fp:List ax}{h:eC}{p:ax×Obj}(hp:p∈ua fp h):p.1∈fp/\h.get? p.1=some p.2:=by
  obtain⟨b,hb,e⟩:=GK.mp hp;cases q:h.get? b with
  |none=>rw[q] at e;cases e
  | some o =>
    rw[q] at e;have e':(b,o)=p:=jt e;subst e';exact⟨hb,q⟩
theorem Inv.pinned{pins:List (ax×Obj)}{σ:qg}{H:Hp}{s:ar}{fp:List ax}(I:Inv X pins σ H s)(hf:∀b∈fp,jg X pins H b)(D:∀b∈fp,∃o,s.heap.get? b=some o/\∀v,o.data≠ .cell v):Inv X (pins++ua fp s.heap) σ H s:=
 I.OX λp hp=>(iG.mp hp).elim (λz=>I.pin p (jB _ z)) λz=>by
  obtain⟨hb,e⟩:=FX z;obtain⟨C,Y,G,_⟩:=hf p.1 hb;obtain⟨o,e',d⟩:=D p.1 hb;rw[e] at e';cases e'
  exact⟨e,C,Y,G,d⟩
theorem Inv.Ar{pins pl:List (ax×Obj)}{σ:qg}{H:Hp}{s:ar}(I:Inv X (pins++pl) σ H s):Inv X pins σ H s:=I.OX λp hp=>I.pin p (jB _ (qC _ hp))
theorem iT{l:et}{a:List fb}{P:TI}{g:TG}{tb:TS}{pos:Pos}(hp:PassesOwn (be X.prog X.w) X.A X.env X.xe)(hc:X.calm=true)(hi:PI X tg l P)(hg:PG X tg g)(hb:jN X a tb)
  (hs:∀x,gO l X.env x=pure x:=by intro _;rfl):PS X (.For tg l a [] pos) (qD P g tb):=by
 intro pins s σ H D I h;refine wpAny_For (aP (hi pins s σ H _ I h) λv s1 h1=>aP h1 λitv s2 h2=>?_) hs;obtain⟨it,fp,tn,J,H2,e,I2,T,st2,G,W,⟨R,w0⟩,L⟩:=h2;subst e;have oh:∀{H':Hp},(∀b∈fp,H' b=none)->∀b∈fp,jg X pins H' b:=λhn b hb=>⟨hn b hb,(G b hb).2⟩;refine codeAny_forLoop_any (λn s'=>∃i σ' H',Inv X pins σ' H' s'/\tn i s'.heap/\(∀b∈fp,H' b=none)/\W i n σ' H') ?_ R ⟨0,σ,H2,I2,st2,λb hb=>(G b hb).1,w0⟩;rintro n s3 ⟨i,σ3,H3,I3,st3,fr3,w3⟩;rcases L i n σ3 H3 w3 with ⟨stop,qn⟩|⟨go,N,hN,step⟩
 .refine ek hp (aP (T.done X rfl rfl rfl hc i pins s3 σ3 H3 X.xe I3 (oh fr3) st3 stop) λr s4 ⟨hr,I4⟩=>?_);subst hr;exact hV ⟨σ3,H3,I4,qn⟩
 .refine ek hp (aP (T.item X rfl rfl rfl hc i pins s3 σ3 H3 X.xe I3 (oh fr3) st3 go) λr s4 ⟨u,hr,h4⟩=>?_);subst hr;refine ek hp (aP h4 λ_ s5 ⟨x,H5,U,r5,y5,p5,Bw⟩=>?_);have Ho:=U.pinned (oh Bw) (T.obj _ _ p5);refine ek hp (aP (hg _ s5 σ3 H5 x u _ Ho r5 (step x H5 y5)) λ_ s6 ⟨uB,H6,I6,q6⟩=>?_);refine ek hp (aP (hb _ s6 uB H6 _ I6 q6) λf s7 q7=>?_);have again:∀{c:qg} {H7:Hp},Inv X (pins++ua fp s5.heap) c H7 s7->N c H7->∃m,m<n/\∃i σ' H',Inv X pins σ' H' s7/\tn i s7.heap/\(∀b∈fp,H' b=none)/\W i m σ' H':=λ{c H7} S j=>by
   obtain⟨m',hm,p⟩:=hN c H7 j;refine⟨m',hm,i+1,c,H7,S.Ar,T.keep _ _ _ p5 λb hb o e=>(S.pin (b,o) (jB _ (jB _ (Ab hb e)))).1,λb hb=>?_,p⟩;obtain⟨o,e,d⟩:=T.obj _ _ p5 b hb;exact(S.pin (b,o) (jB _ (jB _ (Ab hb e)))).2.1
  cases f with
  |next=>obtain⟨c,H7,S,j⟩:=q7;exact again S j
  |cont=>obtain⟨c,H7,S,j⟩:=q7;exact again S j
  |brk=>obtain⟨c,H7,S,q7⟩:=q7;exact⟨c,H7,S.Ar,q7⟩
  |ret v=>obtain⟨Z,c,H7,S,k,q7⟩:=q7;exact⟨Z,c,H7,S.Ar,k,q7⟩
end
theorem HJ{K:PySem.W.Frag}{a:ax}{xs:List V}{g:TG}{tb:TS}{D:Ends}{σ:qg}{H:Hp}(Pv:Nat->qg->Hp->Prop)(h0:Pv 0 σ H)(hl:∀i σ H,i<=xs.length->Pv i σ H->aZ K H a xs)
  (hs:∀i x σ H,xs[i]?=some x->Pv i σ H->g x σ H λk H2=>tb {D with nx:=Pv (i+1),ct:=Pv (i+1),bk:=D.nx} k H2) (hd:∀σ H,Pv xs.length σ H->D.nx σ H):
  ∃W:Nat->Nat->qg->Hp->Prop,(∃m,W 0 m σ H)/\∀i m σ H,W i m σ H->
   ((oU K a).stop i H/\D.nx σ H)\/((oU K a).go i H/\∃N:qg->Hp->Prop,(∀L H',N L H'->∃m',m'<m/\W (i+1) m' L H')/\∀x H',(oU K a).pJ i H x H'->g x σ H' λk H2=>tb {D with nx:=N,ct:=N,bk:=D.nx} k H2):=by
 refine⟨λi m σ H=>m=xs.length-i/\i<=xs.length/\Pv i σ H,⟨xs.length,by simp,fj _,h0⟩,?_⟩;rintro i m σ H ⟨rfl,hi,p⟩;have q:=hl i σ H hi p;by_cases hlt:i<xs.length
 .refine .inr ⟨⟨xs,xs[i],q,by simp[hlt]⟩,Pv (i+1),λL H' r=>⟨xs.length-(i+1),∅,rfl,hlt,r⟩,λx H' y=>?_⟩;obtain⟨e,y⟩:=y;subst e;exact hs i x σ _ (y xs q) p
 .have e:i=xs.length:=∅
  subst e;exact .inl ⟨⟨xs,q,aH _⟩,hd σ H p⟩
theorem Gp{lo:Int}{n:Nat}{g:TG}{tb:TS}{D:Ends}{σ:qg}{H:Hp}(Pv:Nat->qg->Hp->Prop)(h0:Pv 0 σ H)
  (hs:∀i σ H,i<n->Pv i σ H->g (.int (lo+i)) σ H λk H2=>tb {D with nx:=Pv (i+1),ct:=Pv (i+1),bk:=D.nx} k H2) (hd:∀σ H,Pv n σ H->D.nx σ H):
  ∃W:Nat->Nat->qg->Hp->Prop,(∃m,W 0 m σ H)/\∀i m σ H,W i m σ H->
   ((ji lo n).stop i H/\D.nx σ H)\/((ji lo n).go i H/\∃N:qg->Hp->Prop,(∀L H',N L H'->∃m',m'<m/\W (i+1) m' L H')/\∀x H',(ji lo n).pJ i H x H'->g x σ H' λk H2=>tb {D with nx:=N,ct:=N,bk:=D.nx} k H2):=by
 refine⟨λi m σ H=>m=n-i/\i<=n/\Pv i σ H,⟨n,by simp,fj _,h0⟩,?_⟩;rintro i m σ H ⟨rfl,hi,p⟩;by_cases hlt:i<n
 .refine .inr ⟨hlt,Pv (i+1),λL H' r=>⟨n-(i+1),∅,rfl,hlt,r⟩,λx H' y=>?_⟩;obtain⟨e,y⟩:=y;subst e y;exact hs i σ _ hlt p
 .have e:i=n:=∅
  subst e;exact .inl ⟨aH _,hd σ H p⟩
theorem O1{c:TT}{tb:TS}{D:Ends}{σ:qg}{H:Hp}(Pv:qg->Hp->Prop)(a:qg->Hp->Nat)(h0:Pv σ H)
  (hs:∀σ H,Pv σ H->c σ H λb H1=>if b=true then tb {D with nx:=λL H'=>Pv L H'/\a L H'<a σ H,ct:=λL H'=>Pv L H'/\a L H'<a σ H,bk:=D.nx} σ H1 else D.nx σ H1)
  (mono:∀σ H Q d,(∀b H1,Q b H1->d b H1)->c σ H Q->c σ H d):Fv c tb D σ H:=by
 refine⟨λm σ H=>m=a σ H/\Pv σ H,⟨_,rfl,h0⟩,?_⟩;rintro m σ H ⟨rfl,p⟩;refine mono σ H _ _ (λb H1 q=>?_) (hs σ H p);cases b with
 |true=>exact⟨_,λL H' ⟨r,l⟩=>⟨_,l,rfl,r⟩,q⟩
 |false=>exact q
abbrev R2:=V->V->Hp->VK->Prop
def dQ(X:Cx)(f:ag->ag->Sem ag)(r:R2):Prop:=
 ∀(pins:List (ax×Obj)) (s:ar) (σ:qg) (H:Hp) (x y:V) (v u:ag) (Q:VK),Inv X pins σ H s->RelV x v->RelV y u->r x y H Q->
  wpAny (be X.prog X.w) X.A (f v u) (EP X pins σ Q) X.xe s
def Fb(X:Cx)(f:ag->Sem ag)(r:V->Hp->VK->Prop):Prop:=
 ∀(pins:List (ax×Obj)) (s:ar) (σ:qg) (H:Hp) (x:V) (v:ag) (Q:VK),Inv X pins σ H s->RelV x v->r x H Q->
  wpAny (be X.prog X.w) X.A (f v) (EP X pins σ Q) X.xe s
def fK(X:Cx)(f:ag)(r:List V->Hp->VK->Prop):Prop:=
 ∀(pins:List (ax×Obj)) (s:ar) (σ:qg) (H:Hp) (xs:List V) (us:List ag) (Q:VK),Inv X pins σ H s->Vals xs us->r xs H Q->
  wpAny (be X.prog X.w) X.A (call f us) (EP X pins σ Q) X.xe s
def Z9(X:Cx)(r:V->Hp->(Bool->Hp->Prop)->Prop):Prop:=
 ∀(pins:List (ax×Obj)) (s:ar) (σ:qg) (H:Hp) (x:V) (v:ag) (Q:Bool->Hp->Prop),Inv X pins σ H s->RelV x v->r x H Q->
  wpAny (be X.prog X.w) X.A (truthy v) (TP X pins σ Q) X.xe s
def dM(r:R2)(ta tb:TE):TE:=λσ H Q=>ta σ H λx H1=>tb σ H1 λy H2=>r x y H2 Q
def DZ(r:V->Hp->VK->Prop)(ta:TE):TE:=λσ H Q=>ta σ H λx H1=>r x H1 Q
def rI(C:Int->Int->Prop)(g:Int->Int->V):R2:=λx y H Q=>∃i j,x= .int i/\y= .int j/\C i j/\Q (g i j) H
def je(g:Int->Int->V):R2:=λx y H Q=>∃i j,x= .int i/\y= .int j/\Q (g i j) H
def rU(g:Int->V):V->Hp->VK->Prop:=λx H Q=>∃i,x= .int i/\Q (g i) H
section
variable{X:Cx}{a b c:et}{ta tb tc:TE}{pos:Pos}
theorem Dt(ha:PE X a ta)(hb:PE X b tb){pins:List (ax×Obj)}{s:ar}{σ:qg}{H:Hp}{R:V->V->Hp->Prop}(I:Inv X pins σ H s)
  (h:ta σ H λx H1=>tb σ H1 λy H2=>R x y H2) {Q:ag->ar->Prop} {f:ag->ag->Sem ag}
  (hf:∀v u s2 x y H2,Inv X pins σ H2 s2->RelV x v->RelV y u->R x y H2->wpAny (be X.prog X.w) X.A (f v u) Q X.xe s2):
  wpAny (be X.prog X.w) X.A (eval a X.env) (λv s₁=>wpAny (be X.prog X.w) X.A (eval b X.env) (λu d=>wpAny (be X.prog X.w) X.A (f v u) Q X.xe d) X.xe s₁) X.xe s:=by
 refine aP (ha pins s σ H _ I h) λv s1 ⟨x,H1,I1,C,J⟩=>?_;refine aP (hb pins s1 σ H1 _ I1 J) λu s2 ⟨y,H2,I2,U,O⟩=>?_;exact hf v u s2 x y H2 I2 C U O
theorem aG{op:Operator}{r:R2}(D:dQ X (kn op) r)(ha:PE X a ta)(hb:PE X b tb):PE X (.BinOp a op b pos) (dM r ta tb):=by
 intro pins s σ H Q I h;exact wpAny_BinOp (Dt ha hb I h λv u s2 x y H2 I2 g d q=>D pins s2 σ H2 x y v u Q I2 g d q)
theorem mX{op:UnaryOp}{r:V->Hp->VK->Prop}(D:Fb X (unaryOp op) r)(ha:PE X a ta):PE X (.UnaryOp op a pos) (DZ r ta):=by
 intro pins s σ H Q I h;exact UnaryOp_ (aP (ha pins s σ H _ I h) λv s1 ⟨x,H1,I1,C,J⟩=>D pins s1 σ H1 x v Q I1 C J)
theorem Au{f:ag->ag->Sem ag}{C:Int->Int->Prop}{g:Int->Int->Int}
  (rule:∀(i j:Int) (t u:Tok) (s:ar) (Q:ag->ar->Prop) (E:ag->ar->Prop),C i j->Q (.int (g i j) s.toks) {s with toks:=s.toks+1}->wpAny (be X.prog X.w) X.A (f (.int i t) (.int j u)) Q E s):
  dQ X f (rI C λi j=> .int (g i j)):=by
 intro pins s σ H x y v u Q I rx ry h;obtain⟨i,j,rfl,rfl,hc,q⟩:=h;obtain⟨t,rfl⟩:=rx;obtain⟨t',rfl⟩:=ry;exact rule i j t t' s _ _ hc ⟨.int (g i j),H,I.tok _,⟨_,rfl⟩,q⟩
theorem Qd{f:ag->ag->Sem ag}{g:Int->Int->Int}
  (rule:∀(i j:Int) (t u:Tok) (s:ar) (Q:ag->ar->Prop) (E:ag->ar->Prop),Q (.int (g i j) s.toks) {s with toks:=s.toks+1}->wpAny (be X.prog X.w) X.A (f (.int i t) (.int j u)) Q E s):
  dQ X f (je λi j=> .int (g i j)):=by
 intro pins s σ H x y v u Q I rx ry h;obtain⟨i,j,rfl,rfl,q⟩:=h;obtain⟨t,rfl⟩:=rx;obtain⟨t',rfl⟩:=ry;exact rule i j t t' s _ _ ⟨.int (g i j),H,I.tok _,⟨_,rfl⟩,q⟩
theorem zR{f:ag->ag->Sem ag}{g:Int->Int->Bool}
  (rule:∀(i j:Int) (t u:Tok) (s:ar) (Q:ag->ar->Prop) (E:ag->ar->Prop),Q (.bool (g i j)) s->wpAny (be X.prog X.w) X.A (f (.int i t) (.int j u)) Q E s):
  dQ X f (je λi j=> .bl (g i j)):=by
 intro pins s σ H x y v u Q I rx ry h;obtain⟨i,j,rfl,rfl,q⟩:=h;obtain⟨t,rfl⟩:=rx;obtain⟨t',rfl⟩:=ry;exact rule i j t t' s _ _ ⟨.bl (g i j),H,I,rfl,q⟩
def G5(i j:Int):Prop:=0<=j/\j<=1000000/\i.natAbs<2^64
def Al(i j:Int):Prop:=(-(2^64)<i/\i<2^64)\/(-(2^64)<j/\j<2^64)
theorem Al.ok{i j:Int}(h:Al i j):IntMulOk i j:=by
 rcases h with ⟨h1,h2⟩|⟨h1,h2⟩
 .exact .of_left (u4 h1 h2)
 .exact .of_right (u4 h1 h2)
theorem eU:dQ X (kn .Add) (je λi j=> .int (i+j)):=Qd λ_ _ _ _ _ _ _ q=>add_int q
theorem jm:dQ X (kn .Sub) (je λi j=> .int (i-j)):=Qd λ_ _ _ _ _ _ _ q=>sub_int q
theorem jk:dQ X (kn .Mod) (rI (λ_ j=>0<j) λi j=> .int (i%j)):=Au λi j _ _ _ _ _ hc q=>by
 have h1:(0:Int)<j:=hc;exact mod_int' ∅ (by rw[Int.fmod_eq_emod_of_nonneg i ∅];exact q)
theorem xC:dQ X (kn .Pow) (rI G5 λi j=> .int (i^j.toNat)):=Au λ_ _ _ _ _ _ _ hc q=>pow_int_small hc.1 hc.2.1 hc.2.2 q
theorem Vy{f:ag->Sem ag}{g:Int->Int}
  (rule:∀(i:Int) (t:Tok) (s:ar) (Q:ag->ar->Prop) (E:ag->ar->Prop),Q (.int (g i) s.toks) {s with toks:=s.toks+1}->wpAny (be X.prog X.w) X.A (f (.int i t)) Q E s):
  Fb X f (rU λi=> .int (g i)):=by
 intro pins s σ H x v Q I rx h;obtain⟨i,rfl,q⟩:=h;obtain⟨t,rfl⟩:=rx;exact rule i t s _ _ ⟨.int (g i),H,I.tok _,⟨_,rfl⟩,q⟩
theorem nY:Fb X (unaryOp .USub) (rU λi=> .int (-i)):=Vy λ_ _ _ _ _ q=>neg_int q
end
noncomputable def El:V->V->Bool
 | .aL, .aL=>true| .aL, .int _=>true| .int _, .aL=>true| .aL, .bl _=>true| .bl _, .aL=>true| .aL, .str _=>true| .str _, .aL=>true
 | .int _, .int _=>true| .bl _, .bl _=>true| .str _, .str _=>true| .jv _, .jv _=>true
 | .int _, .str _=>true| .str _, .int _=>true| .bl _, .str _=>true| .str _, .bl _=>true
 |_,_=>false
def BP:R2:=λx y H Q=>El x y=true/\Q (.bl (decide (x=y))) H
def wj:R2:=λx y H Q=>El x y=true/\Q (.bl (!decide (x=y))) H
theorem O7{i j:Int}:decide (V.int i=V.int j)=(i==j):=by
 rw[mS];simp
theorem Jq{i j:Bool}:decide (V.bl i=V.bl j)=(i==j):=by
 rw[mS];simp
theorem MO{i j:Str}:decide (V.str i=V.str j)=(i==j):=by
 rw[mS];simp
theorem LU{i j:Array UInt8}:decide (V.jv i=V.jv j)=(i.toList==j.toList):=by
 rw[mS];cases i;cases j;simp
section
variable{X:Cx}{a b c:et}{ta tb tc:TE}{pos:Pos}
theorem dh{pins:List (ax×Obj)}{σ:qg}{H:Hp}{s:ar}{Q:VK}{k k':Bool}(I:Inv X pins σ H s)(q:Q (.bl k) H)(e:k=k'):EP X pins σ Q (.bool k') s:=by
 subst e;exact⟨.bl k,H,I,rfl,q⟩
theorem iA:dQ X (da .Eq) BP:=by
  intro pins s σ H x y v u Q I rx d h;obtain⟨hs,q⟩:=h;cases x with
  | aL =>
    cases rx;cases y with
    |aL=>cases d;exact PySem.EqNone.eq_none_none (dh I q (by simp))
    |bl j=>cases d;exact PySem.EqNone.eq_none_bool (dh I q (by simp))
    |int j=>obtain⟨t',rfl⟩:=d;exact PySem.EqNone.eq_none_int (dh I q (by simp))
    |str j=>obtain⟨t',rfl⟩:=d;exact PySem.EqNone.eq_none_str (dh I q (by simp))
    |_=>exact absurd (show false=true from hs) cO
  | bl i =>
    cases rx;cases y with
    |aL=>cases d;exact PySem.EqNone.eq_bool_none (dh I q (by simp))
    |bl j=>cases d;exact eq_bool (dh I q Jq)
    |str j=>obtain⟨t',rfl⟩:=d;exact PySem.EqMixed.eq_bool_str (dh I q (by simp))
    |_=>exact absurd (show false=true from hs) cO
  | int i =>
    obtain⟨t,rfl⟩:=rx;cases y with
    |aL=>cases d;exact PySem.EqNone.eq_int_none (dh I q (by simp))
    |int j=>obtain⟨t',rfl⟩:=d;exact eq_int (dh I q O7)
    |str j=>obtain⟨t',rfl⟩:=d;exact PySem.EqMixed.eq_int_str (dh I q (by simp))
    |_=>exact absurd (show false=true from hs) cO
  | str i =>
    obtain⟨t,rfl⟩:=rx;cases y with
    |aL=>cases d;exact PySem.EqNone.eq_str_none (dh I q (by simp))
    |bl j=>cases d;exact PySem.EqMixed.eq_str_bool (dh I q (by simp))
    |int j=>obtain⟨t',rfl⟩:=d;exact PySem.EqMixed.eq_str_int (dh I q (by simp))
    |str j=>obtain⟨t',rfl⟩:=d;exact eq_str (dh I q MO)
    |_=>exact absurd (show false=true from hs) cO
  | jv i =>
    obtain⟨t,rfl⟩:=rx;cases y with
    |jv j=>obtain⟨t',rfl⟩:=d;exact PySem.W.eq_bytes (dh I q LU)
    |_=>exact absurd (show false=true from hs) cO
  |_=>cases y<;>exact absurd (show false=true from hs) cO
theorem iw:dQ X (da .NotEq) wj:=by
  intro pins s σ H x y v u Q I rx d h;obtain⟨hs,q⟩:=h;cases x with
  | aL =>
    cases rx;cases y with
    |aL=>cases d;exact PySem.EqNone.ne_none_none (dh I q (by simp))
    |bl j=>cases d;exact PySem.EqNone.ne_none_bool (dh I q (by simp))
    |int j=>obtain⟨t',rfl⟩:=d;exact PySem.EqNone.ne_none_int (dh I q (by simp))
    |str j=>obtain⟨t',rfl⟩:=d;exact PySem.EqNone.ne_none_str (dh I q (by simp))
    |_=>exact absurd (show false=true from hs) cO
  | bl i =>
    cases rx;cases y with
    |aL=>cases d;exact PySem.EqNone.ne_bool_none (dh I q (by simp))
    |bl j=>cases d;exact ne_bool (dh I q (congrArg not Jq))
    |str j=>obtain⟨t',rfl⟩:=d;exact PySem.EqMixed.ne_bool_str (dh I q (by simp))
    |_=>exact absurd (show false=true from hs) cO
  | int i =>
    obtain⟨t,rfl⟩:=rx;cases y with
    |aL=>cases d;exact PySem.EqNone.ne_int_none (dh I q (by simp))
    |int j=>obtain⟨t',rfl⟩:=d;exact ne_int (dh I q (congrArg not O7))
    |str j=>obtain⟨t',rfl⟩:=d;exact PySem.EqMixed.ne_int_str (dh I q (by simp))
    |_=>exact absurd (show false=true from hs) cO
  | str i =>
    obtain⟨t,rfl⟩:=rx;cases y with
    |aL=>cases d;exact PySem.EqNone.ne_str_none (dh I q (by simp))
    |bl j=>cases d;exact PySem.EqMixed.ne_str_bool (dh I q (by simp))
    |int j=>obtain⟨t',rfl⟩:=d;exact PySem.EqMixed.ne_str_int (dh I q (by simp))
    |str j=>obtain⟨t',rfl⟩:=d;exact ne_str (dh I q (congrArg not MO))
    |_=>exact absurd (show false=true from hs) cO
  | jv i =>
    obtain⟨t,rfl⟩:=rx;cases y with
    |jv j=>obtain⟨t',rfl⟩:=d;exact PySem.W.ne_bytes (dh I q (congrArg not LU))
    |_=>exact absurd (show false=true from hs) cO
  |_=>cases y<;>exact absurd (show false=true from hs) cO
theorem rm:dQ X (da .Lt) (je λi j=> .bl (decide (i<j))):=zR λ_ _ _ _ _ _ _ q=>lt_int q
theorem Vg:dQ X (da .LtE) (je λi j=> .bl (decide (i<=j))):=zR λ_ _ _ _ _ _ _ q=>le_int q
theorem DP:dQ X (da .Gt) (je λi j=> .bl (decide (j<i))):=zR λ_ _ _ _ _ _ _ q=>gt_int q
theorem GC:dQ X (da .GtE) (je λi j=> .bl (decide (j<=i))):=zR λ_ _ _ _ _ _ _ q=>ge_int q
theorem Vs:dQ X (da .In) (λx y H Q=>∃i j,x= .str i/\y= .str j/\Q (.bl (!(eD j i 0 j.length 1).isEmpty)) H):=by
 intro pins s σ H x y v u Q I rx ry h;obtain⟨i,j,rfl,rfl,q⟩:=h;obtain⟨t,rfl⟩:=rx;obtain⟨t',rfl⟩:=ry;exact in_str (dh I q rfl)
theorem VZ:dQ X (da .Is) (λx y H Q=>y= .aL/\Q (.bl (decide (x= .aL))) H):=by
 intro pins s σ H x y v u Q I g ry h;obtain⟨rfl,q⟩:=h;cases ry;refine is_none_gen (dh I q ?_)
 cases x<;>first
  |(cases g;rfl)
  |(obtain⟨t,rfl⟩:=g;rfl)
theorem Hn:dQ X (da .IsNot) (λx y H Q=>y= .aL/\Q (.bl (!decide (x= .aL))) H):=by
 intro pins s σ H x y v u Q I g ry h;obtain⟨rfl,q⟩:=h;cases ry;refine isnot_none_gen (dh I q ?_)
 cases x<;>first
  |(cases g;rfl)
  |(obtain⟨t,rfl⟩:=g;rfl)
theorem aQ(b:et){op:CmpOp}(h:op≠ .In:=by decide)(h2:op≠ .NotIn:=by decide):behindInMarks op b=false:=by
 have e1:(op==CmpOp.In)=false:=by cases op<;>first|rfl|exact absurd rfl h
 have e2:(op==CmpOp.NotIn)=false:=by cases op<;>first|rfl|exact absurd rfl h2
 cases b<;>simp[behindInMarks,e1,e2]
theorem oM{op:CmpOp}{r:R2}(D:dQ X (da op) r)(ha:PE X a ta)(hb:PE X b tb)(hm:behindInMarks op b=false):PE X (.Compare a [op] [b] pos) (dM r ta tb):=by
 intro pins s σ H Q I h;exact wpAny_Compare1 (Dt ha hb I h λv u s2 x y H2 I2 g d q=>D pins s2 σ H2 x y v u Q I2 g d q) hm
def sV(t:TE):TT:=λσ H Q=>t σ H λx H'=>∃k,x= .bl k/\Q k H'
theorem aS{op:CmpOp}{r:R2}(D:dQ X (da op) r)(ha:PE X a ta)(hb:PE X b tb)(hm:behindInMarks op b=false):PT X (.Compare a [op] [b] pos) (sV (dM r ta tb)):=by
 intro pins s σ H Q I h
 refine wpAny_isTrue_Compare1 (aP (ha pins s σ H _ I h) λv s1 ⟨x,H1,I1,C,J⟩=>aP (hb pins s1 σ H1 _ I1 J) λu s2 ⟨y,H2,I2,U,O⟩=>
  aP (D pins s2 σ H2 x y v u _ I2 C U O) λc s3 ⟨z,H3,I3,g,k,e,Y⟩=>?_) hm
 subst e;cases g;exact gL ⟨H3,I3,Y⟩
def EY(K:PySem.W.Frag)(x:V)(H:Hp)(k:Bool):Prop:=
 match x with
 | .aL=>k=false
 | .bl b=>k=b
 | .int i=>k=(i !=0)
 | .str y=>y.length<=sizeLine/\k=((y.length:Int) !=0)
 | .jv y=>y.size<=sizeLine/\k=((y.size:Int) !=0)
 | .ref p=>(∃xs,aZ K H p xs/\k=!xs.isEmpty)\/(∃xs,dX K H p xs/\k=!xs.isEmpty)\/∃kvs,H p=some (.dK kvs)/\k=!kvs.isEmpty
 |_=>False
theorem W9{κ:Type}{kvs:List (κ×V)}{vs:List (κ×ag)}(r:KV kvs vs):(!vs.isEmpty)=!kvs.isEmpty:=by
 cases r<;>rfl
theorem Ii{xs:List V}{its:List ag}(r:Vals xs its):(!its.toArray.isEmpty)=!xs.isEmpty:=by
 cases r<;>simp
theorem pR:(sizeLine:Nat)<2^63:=by rw[kv];decide
theorem RV:Z9 X (λx H Q=>∃k,EY X.K x H k/\Q k H):=by
  intro pins s σ H x v Q I rx h;obtain⟨k,e,q⟩:=h;have hl:=pR;have hs:sizeLine=16777216:=kv;cases x with
  | aL =>
    cases rx;have e':k=false:=e;subst e';exact truthy_none ⟨H,I,q⟩
  | bl b =>
    cases rx;have e':k=b:=e;subst e';exact gL ⟨H,I,q⟩
  | int i =>
    obtain⟨t,rfl⟩:=rx;have e':k=(i !=0):=e;subst e';exact PySem.P.truthy_int ⟨H,I,q⟩
  | str y =>
    obtain⟨t,rfl⟩:=rx;obtain⟨hy,e'⟩:y.length<=sizeLine/\k=((y.length:Int) !=0):=e;subst e';exact PySem.P.truthy_str ∅ ⟨H,I.tok _,q⟩
  | jv y =>
    obtain⟨t,rfl⟩:=rx;obtain⟨hy,e'⟩:y.size<=sizeLine/\k=((y.size:Int) !=0):=e;subst e';exact PySem.W.truthy_bytes ∅ ⟨H,I.tok _,q⟩
  | ref p =>
    cases rx;have e':(∃xs,aZ X.K H p xs/\k=!xs.isEmpty)\/(∃xs,dX X.K H p xs/\k=!xs.isEmpty)\/∃kvs,H p=some (.dK kvs)/\k=!kvs.isEmpty:=e;rcases e' with ⟨xs,hx,e'⟩|⟨xs,hx,e'⟩|⟨kvs,hx,e'⟩
    · subst e'
      obtain⟨its,r,pl,hz⟩:=I.list hx;have hlen:=r.length;exact wpAny_truthy_list pl.isList (by simp only[dW];omega) ⟨H,I.tok _,by rw[Ii r];exact q⟩
    · subst e'
      obtain⟨its,r,pl,hz⟩:=I.tuple hx;have hlen:=r.length;exact truthy_tuple pl (by simp only[dW];omega) ⟨H,I.tok _,by rw[Ii r];exact q⟩
    · subst e'
      obtain⟨hz,U,vs,r,m⟩:kvs.length<=sizeLine/\(p==fo)=false/\∃vs,KV kvs vs/\s.heap.DictOf (iV X.prog X.w) p vs:=I.hok p _ hx;have hlen:kvs.length=vs.length:=Paired.length r;exact wpAny_truthy_dict U m ∅ ⟨H,I.tok _,by rw[W9 r];exact q⟩
  |_=>exact(show False from e).elim
theorem X6(ha:PE X a ta)(he:∀whole,isTrue a X.env whole=(do let v<-whole;standAt a.pos;holding [v] (truthy v))):
  PT X a (λσ H Q=>ta σ H λx H'=>∃k,EY X.K x H' k/\Q k H'):=by
 intro pins s σ H Q I h;exact isTrue_plain (aP (ha pins s σ H _ I h) λv s1 ⟨x,H1,I1,C,J⟩=>RV pins s1 σ H1 x v Q I1 C J) (he _)
theorem vals1{x:V}{us:List ag}(r:Vals [x] us):∃u,us=[u]/\RelV x u:=by
 cases r with
 |cons C U=>cases U;exact⟨_,rfl,C⟩
theorem vals2{x y:V}{us:List ag}(r:Vals [x,y] us):∃u w',us=[u,w']/\RelV x u/\RelV y w':=by
  cases r with
  | cons C U =>
    cases U with
    |cons g a=>cases a;exact⟨_,_,rfl,C,g⟩
theorem Xr:fK X (.builtin "abs") (λxs H Q=>∃i,xs=[.int i]/\Q (.int (if i<0 then-i else i)) H):=by
 intro pins s σ H xs us Q I r h;obtain⟨i,rfl,q⟩:=h;obtain⟨u,rfl,t,rfl⟩:=vals1 r;exact call_abs_int λu tk=>⟨.int (if i<0 then-i else i),H,I.tok _,⟨_,rfl⟩,q⟩
theorem QK(hc:X.calm=true):fK X (.builtin "min") (λxs H Q=>∃i j,xs=[.int i, .int j]/\Q (.int (if j<i then j else i)) H):=by
 intro pins s σ H xs us Q I r h;obtain⟨i,j,rfl,q⟩:=h;obtain⟨u,w',rfl,⟨t,rfl⟩,⟨t',rfl⟩⟩:=vals2 r;refine min_two_ints (I.ok.hd hc) λh' tk k=>⟨_,H,I.kept k,?_,q⟩;by_cases hj:j<i;·rw[if_pos hj,if_pos hj];exact⟨_,rfl⟩
 .rw[if_neg hj,if_neg hj];exact⟨_,rfl⟩
theorem VI:fK X (.type "int") (λxs H Q=>(∃i,xs=[.int i]/\Q (.int i) H)\/∃k,xs=[.bl k]/\Q (.int (if k then 1 else 0)) H):=by
 intro pins s σ H xs us Q I r h;rcases h with ⟨i,rfl,q⟩|⟨k,rfl,q⟩
 .obtain⟨u,rfl,t,rfl⟩:=vals1 r;exact call_int_int ⟨.int i,H,I,⟨_,rfl⟩,q⟩
 .obtain⟨u,rfl,C⟩:=vals1 r;cases C;exact call_int_bool ⟨.int (if k then 1 else 0),H,I.tok _,⟨_,rfl⟩,q⟩
theorem Ws:fK X (.type "str") (λxs H Q=>∃i,xs=[.int i]/\i.natAbs.log2<1920/\Q (.str (toString i)) H):=by
 intro pins s σ H xs us Q I r h;obtain⟨i,rfl,hz,q⟩:=h;obtain⟨u,rfl,t,rfl⟩:=vals1 r;exact PySem.P.str_of_int hz ⟨.str _,H,I.tok _,⟨_,rfl⟩,q⟩
end
structure oK(h:eC)(x dx C:ax)(mA:Str->Option ag):Prop where
 obj:h.get? x=some (PySem.W.instObj C dx)
 ns:h.Ns1 dx mA
 ne:dx≠x
theorem VU{h:eC}{dx:ax}{mA:Str->Option ag}(n:h.Ns1 dx mA):∃od,h.get? dx=some od/\∀name,PySem.W.lookIn name od=some (mA name):=by
 obtain⟨o,es,ep,D,hd,hk,_,hm⟩:=n;refine⟨o,D,λname=>?_⟩;have e:=hm name;unfold nsFind findBy at e;rw[<-Array.find?_toList] at e;unfold PySem.W.lookIn;rw[hd];dsimp only;split
 .rename_i y q
  rw[q] at e;exact congrArg some e
 .rename_i q
  rw[q] at e;have a:es.toList.any (·.refKey)=false:=by
   rw[List.any_eq_false];intro y hy;obtain⟨z,t,b⟩:=hk y (zN.mp hy);simp[zi,b]
  have N:¬es.toList.any (·.refKey)=true:=by rw[a];exact cO
  rw[if_neg N];exact congrArg some e
theorem oK.look{h:eC}{x dx C:ax}{mA:Str->Option ag}(I:oK h x dx C mA):∃od,PySem.W.InstAt h x (PySem.W.instObj C dx) C (some od)/\∀name,PySem.W.lookIn name od=some (mA name):=
 let ⟨od,D,hl⟩:=VU I.ns
 ⟨od,⟨I.obj,rfl,rfl,D⟩,hl⟩
section
variable{prog:bg}{w:cq}{A:cx}{E:ag->ar->Prop}{s:ar}{K:PySem.W.Frag}{x dx C f:ax}{mA:Str->Option ag}{name:Str}{v:ag}
theorem get_map{a:Bool}{Q:ag->ar->Prop}(X:K.In s.heap)(I:oK s.heap x dx C mA)(hg:PySem.W.plainGet K C name=true)(L:PySem.W.hasDictIn K C=true)
  (ha:PySem.W.findIn K (.ref C) name=some none) (hv:mA name=some v) (b:PySem.W.handedIn v=true) (h:Q v {s with toks:=s.toks+1}):
  wpAny (be prog w) A (getAttr (.ref x) name a) Q E s:=by
 obtain⟨od,J,hl⟩:=I.look;exact PySem.W.get_value X J (FP hg).1 (PySem.W.findObj_own L ha rfl (by rw[hl,hv])) b h
theorem GN{pl:Sem Bool}{Q:ag×List ag->ar->Prop}(X:K.In s.heap)(I:oK s.heap x dx C mA)(hg:PySem.W.plainGet K C name=true)
  (hf:PySem.W.findIn K (.ref C) name=some (some (.ref f))) (ht:PySem.W.isFn K (.ref f)=true) (hv:mA name=none) (h:Q (.ref f,[.ref x]) s):
  wpAny (be prog w) A (qc (.ref x) name pl) Q E s:=by
 obtain⟨od,J,hl⟩:=I.look;exact PySem.W.method_fn X J (FP hg).1 (FP hg).2 hf (beq_iff_eq.mp ht) (by show(PySem.W.lookIn name od).map (·.isSome)=some false;rw[hl,hv];rfl) h
theorem F5{ns:List Str}{Q:Unit->ar->Prop}(X:K.In s.heap)(I:oK s.heap x dx C mA)
  (hs:PySem.W.findIn K (.ref C) "__setattr__"=some (some (.builtin "object.__setattr__"))) (hp:PySem.W.plainOver K C=true) (ht:PySem.W.takerIn K C name=some none) (L:PySem.W.hasDictIn K C=true)
  (hw:PySem.Within mA ns) (hsz:ns.length<=sizeLine)
  (h:∀h',oK h' x dx C (λy=>if y=name then some v else mA y)->e6 dx s.heap h'->Q () {s with heap:=h',toks:=s.toks+2}):
  wpAny (be prog w) A (setAttr (.ref x) name v) Q E s:=by
 obtain⟨od,J,hl⟩:=I.look;refine PySem.W.set_plain X J hs (PySem.W.osa_open (s:={s with toks:=s.toks+1}) (r:=none) X J hp ht λb=>?_);obtain⟨t,hc,j⟩:=PySem.W.any_some L;have hx:s.heap.get? x=some ⟨.ref C,some dx, .plain,#[]⟩:=I.obj;refine ae (aw (ae (ae (wpAny_loadPart hx (ae (PySem.W.Looks.here (s:={s with toks:=s.toks+1}) (PySem.W.looks_clsIn X hc) ?_))))));rw[j];refine aw (a:=some dx) (ae (aw (ae ?_)));refine wpAny_nsSet1 (s:={s with toks:=s.toks+1}) I.ns λh' m d=>?_;obtain⟨oD,f,e,c,g,i⟩:=m.count (PySem.Within.cons name v hw);refine ae (wpAny_lookBehind c (by rw[g];exact pastItsLine_dict (eS i (by rw[eB];omega))) ?_);exact aw (h _ ⟨(d.2 _ (cB I.ne)).trans I.obj,m,I.ne⟩ d)
theorem U7{R:Result->ar->Prop}{vs:List ag}{a:List (Str×ag)}(X:K.In s.heap)(hm:PySem.W.makesIn K C=true)
  (hi:PySem.W.findIn K (.ref C) "__init__"=some (some (.ref f))) (hf:PySem.W.typeIn K (.ref f)=some (.type "function"))
  (h : codeAny (model prog w) (A.under (.builtin "type.__call__" ⟨.ref C :: vs, a⟩)) (.call (.ref f) ⟨.ref (s.heap.objs.size + 1) :: vs, a⟩) (PySem.W.InitBack (s.heap.objs.size + 1) R)
   {s with heap:=(s.heap.push PySem.W.emptyDict).push (PySem.W.instObj C s.heap.objs.size)}):
  codeAny (be prog w) A (.call (.ref C) ⟨vs,a⟩) R s:=by
 obtain⟨L,g,d,t,os⟩:=s;exact PySem.W.make_core (PySem.W.makes_of X hm) (PySem.W.looks_findIn X hi) (λself=>PySem.W.bind_fn X self hf) (.inl rfl) h
end
noncomputable def gf(f:Str)(v:V):List (Str×V)->List (Str×V)
 |[]=>[(f,v)]
 |(g,x)::r=>if g=f then(g,v)::r else(g,x)::gf f v r
theorem K6(f g:Str)(v:V):∀fs:List (Str×V),(gf f v fs).lookup g=if g=f then some v else fs.lookup g
  | [] => by
    show ed g [(f,v)]=_;by_cases h:g=f
    · have hb:(g==f)=true:=beq_iff_eq.mpr h
      simp only[ed,hb,if_pos h]
    · have hb:(g==f)=false:=beq_eq_false_iff_ne.mpr h
      simp only[ed,hb,if_neg h]
  | (k, x) :: r => by
    have ih:=K6 f g v r;rw[show gf f v ((k,x)::r)=(if k=f then(k,v)::r else(k,x)::gf f v r) from rfl];by_cases hk:k=f
    · rw[if_pos hk]
      by_cases h:g=k
      · have hb:(g==k)=true:=beq_iff_eq.mpr h
        simp only[ed,hb,if_pos (h.trans hk)]
      · have hb:(g==k)=false:=beq_eq_false_iff_ne.mpr h
        simp only[ed,hb,if_neg (λe:g=f=>h (e.trans hk.symm))]
    · rw[if_neg hk]
      by_cases h:g=k
      · have hb:(g==k)=true:=beq_iff_eq.mpr h
        simp only[ed,hb,if_neg (λe:g=f=>hk (h.symm.trans e))]
      · have hb:(g==k)=false:=beq_eq_false_iff_ne.mpr h
        simp only[ed,hb];exact ih
theorem EX(f:Str)(v:V):∀fs:List (Str×V),f∈(gf f v fs).map (·.1)/\∀g,g∈fs.map (·.1)->g∈(gf f v fs).map (·.1)
  |[]=>⟨by simp[gf],λg h=>by simp at h⟩
  | (k, x) :: r => by
    obtain⟨G,C⟩:=EX f v r;rw[show gf f v ((k,x)::r)=(if k=f then(k,v)::r else(k,x)::gf f v r) from rfl];by_cases hk:k=f
    · rw[if_pos hk]
      subst hk;exact⟨by simp,λg h=>by simpa using h⟩
    · rw[if_neg hk]
      refine⟨?_,λg h=>?_⟩
      · rw[bN]
        exact cS _ G
      · rw[bN] at h⊢
        rcases aK.mp h with e|e
        · exact aK.mpr (.inl e)
        · exact cS _ (C g e)
theorem Lz(f:Str)(v:V):∀fs:List (Str×V),(gf f v fs).length<=fs.length+1
  |[]=>by simp[gf]
  | (k, x) :: r => by
    have ih:=Lz f v r;rw[show gf f v ((k,x)::r)=(if k=f then(k,v)::r else(k,x)::gf f v r) from rfl];by_cases hk:k=f;· rw[if_pos hk,eB,eB];omega
    · rw[if_neg hk,eB,eB];omega
theorem iW.some_of{v:V}{o:Option ag}(r:iW (some v) o):∃u,o=some u/\RelV v u:=by
 cases o with
 |none=>exact(show False from r).elim
 |some u=>exact⟨u,rfl,r⟩
theorem iW.none_of{o:Option ag}(r:iW none o):o=none:=by
 cases o with
 |none=>rfl
 |some u=>exact(show False from r).elim
theorem ZA{v:V}{u:ag}(r:RelV v u):PySem.W.handedIn u=true:=by
 cases v with
 |aL=>cases (show u=gw from r);rfl
 |bl b=>cases (show u=l5 b from r);rfl
 |int i=>obtain⟨t,e⟩:=(show∃t,u=js i t from r);cases e;rfl
 |str x=>obtain⟨t,e⟩:=(show∃t,u=lY x t from r);cases e;rfl
 |jv b=>obtain⟨t,e⟩:=(show∃t,u=xf b t from r);cases e;rfl
 |lT b=>obtain⟨t,e⟩:=(show∃t,u=p7 b t from r);cases e;rfl
 |ref a=>cases (show u=c3 a from r);rfl
 |ty n=>cases (show u=ej n from r);rfl
section
variable{P:bg}{w:cq}{H H':Hp}{h h':eC}{a C dx:ax}{fs fs':List (Str×V)}
theorem AG(hok:dR P w H h)(e:H a=some (.ins C dx fs)):∃mA,oK h a dx C mA/\(∀f,iW (fs.lookup f) (mA f))/\PySem.Within mA (fs.map (·.1))/\fs.length<=1000/\H dx=some (.own a):=by
 obtain⟨d,z,ne,ob,mA,n,r,q⟩:=(show c7 P w H h a (.ins C dx fs) from hok a _ e);exact⟨mA,⟨ob,n,ne⟩,r,q,z,d⟩
end
structure fR(K:PySem.W.Frag)(C:ax):Prop where
 pg:PySem.W.plainGet K C zB=true
 hd:PySem.W.hasDictIn K C=true
 po:PySem.W.plainOver K C=true
 sa:PySem.W.findIn K (.ref C) "__setattr__"=some (some (.builtin "object.__setattr__"))
theorem fR.get{K:PySem.W.Frag}{C:ax}(c:fR K C)(f:Str):PySem.W.plainGet K C f=true:=c.pg
def gY(K:PySem.W.Frag)(C:ax)(f:Str):Prop:=PySem.W.findIn K (.ref C) f=some none
theorem gY.F0{K:PySem.W.Frag}{C:ax}{f:Str}(n:gY K C f):PySem.W.takerIn K C f=some none:=by
 unfold PySem.W.takerIn;rw[show PySem.W.findIn K (.ref C) f=some none from n]
 rfl
structure Meth(K:PySem.W.Frag)(C:ax)(m:Str)(f:ax):Prop where
 at_:PySem.W.findIn K (.ref C) m=some (some (.ref f))
 fn:PySem.W.isFn K (.ref f)=true
 kp:PySem.W.keepIn K (.ref f)=true
section
variable{X:Cx}{pins:List (ax×Obj)}{σ:qg}{H:Hp}{s:ar}{a C dx:ax}{fs:List (Str×V)}{f:Str}{v:V}{A:cx}{E:ag->ar->Prop}
theorem TX{b:Bool}{Q:ag->ar->Prop}(I:Inv X pins σ H s)(e:H a=some (.ins C dx fs))(c:fR X.K C)(n:gY X.K C f)(l:fs.lookup f=some v)
  (h:∀u s',Inv X pins σ H s'->RelV v u->Q u s'):wpAny (be X.prog X.w) A (getAttr (.ref a) f b) Q E s:=by
 obtain⟨mA,O,r,_,_,_⟩:=AG I.hok e;obtain⟨u,hu,ru⟩:=iW.some_of (v:=v) (o:=mA f) (by rw[<-l];exact r f);exact get_map I.c9 O (c.get f) c.hd n hu (ZA ru) (h u _ (I.tok _) ru)
theorem Ez{m:Str}{g:ax}{pl:Sem Bool}{Q:ag×List ag->ar->Prop}(I:Inv X pins σ H s)(e:H a=some (.ins C dx fs))(c:fR X.K C)(k:Meth X.K C m g)(l:fs.lookup m=none)
  (h:Q (.ref g,[.ref a]) s):wpAny (be X.prog X.w) A (qc (.ref a) m pl) Q E s:=by
 obtain⟨mA,O,r,_,_,_⟩:=AG I.hok e;have hn:mA m=none:=iW.none_of (by rw[<-l];exact r m);exact GN I.c9 O (c.get m) k.at_ k.fn hn h
theorem SY{y:V}{u:ag}{Q:Unit->ar->Prop}(I:Inv X pins σ H s)(e:H a=some (.ins C dx fs))(c:fR X.K C)(n:gY X.K C f)(hl:fs.length<1000)(d:RelV y u)
  (h:∀s',Inv X pins σ (upd H a (.ins C dx (gf f y fs))) s'->Q () s'):wpAny (be X.prog X.w) A (setAttr (.ref a) f u) Q E s:=by
 obtain⟨mA,O,r,P,_,D⟩:=AG I.hok e;have hz:(fs.map (·.1)).length<=sizeLine:=by rw[ak,kv];omega
 refine F5 I.c9 O c.sa c.po n.F0 c.hd P hz λh' i sb=>h _ ?_;have hd:∃o,h'.get? dx=some o:=let ⟨o,_,_,e',_⟩:=i.ns;⟨o,e'⟩;refine I.write (x:=a) (e:=dx) (by rw[e];exact dC) (.inr D) (λb q hb z=>(sb.2 b hb).trans z) hd ?_;refine⟨by rw[bq O.ne];exact D,?_,O.ne,i.obj,_,i.ns,λg=>?_,λg hg=>?_⟩;·have:=Lz f y fs;omega
 .show iW ((gf f y fs).lookup g) (if g=f then some u else mA g);rw[K6];by_cases q:g=f;·rw[if_pos q,if_pos q];exact d
  .rw[if_neg q,if_neg q];exact r g
 .by_cases q:g=f;·rw[q];exact(EX f y fs).1
  .refine(EX f y fs).2 g (P g λz=>hg ?_);show(if g=f then some u else mA g)=none;rw[if_neg q];exact z
theorem Inv.made(I:Inv X pins σ H s):Inv X pins σ (upd (upd H s.heap.objs.size (.own (s.heap.objs.size+1))) (s.heap.objs.size+1) (.ins C s.heap.objs.size []))
  {s with heap:=(s.heap.push PySem.W.emptyDict).push (PySem.W.instObj C s.heap.objs.size)}:=by
 have e1:(s.heap.push PySem.W.emptyDict).get? s.heap.objs.size=some PySem.W.emptyDict:=fT s.heap rfl;have e2:((s.heap.push PySem.W.emptyDict).push (PySem.W.instObj C s.heap.objs.size)).get? (s.heap.objs.size+1)=some (PySem.W.instObj C s.heap.objs.size):=by
  have:=fT (s.heap.push PySem.W.emptyDict) (o:=PySem.W.instObj C s.heap.objs.size) rfl;rwa[lE] at this
 have e3:(s.heap.push PySem.W.emptyDict).Ns s.heap.objs.size (λ_=>none):=⟨PySem.W.emptyDict,#[],_,e1,rfl,(λe he=>absurd he (by simp)),λ_=>rfl⟩;have I1:=I.laid (a:=s.heap.objs.size) (o:= .own (s.heap.objs.size+1)) (h':=s.heap.push PySem.W.emptyDict) (t':=s.toks) (λb u q=>bW _ q) (aH _) ⟨_,e1⟩;refine I1.laid (a:=s.heap.objs.size+1) (o:= .ins C s.heap.objs.size []) (t':=s.toks) (λb u q=>bW _ q) (nU (lE _ _)) ?_;have ne:s.heap.objs.size≠s.heap.objs.size+1:=dN (oJ _);refine⟨by rw[bq ne,bx],fj _,ne,e2,λ_=>none,(Heap.Ns1.of_empty e3).at λo q=>bW _ q,λ_=>dC,λy hy=>absurd rfl hy⟩
theorem Uk{prog:bg}{w:cq}{env:Env}{e:et}{f:Str}{pos:Pos}{s:ar}{Q:ag->ar->Prop}(hb:ky e f env (eval e env)=eval e env)
  (h:wpAny (be prog w) A (eval e env) (λo s₁=>wpAny (be prog w) A (getAttr o f true) Q E s₁) E s):wpAny (be prog w) A (eval (.Attribute e f pos) env) Q E s:=
 Attribute_any_ h (by rw[arm_eval_Attribute,hb])
end
def nW(K:PySem.W.Frag)(ta:TE)(f:Str):TE:=λσ H Q=>ta σ H λx H1=>∃a C dx fs v,x= .ref a/\H1 a=some (.ins C dx fs)/\fR K C/\gY K C f/\fs.lookup f=some v/\Q v H1
def GP(K:PySem.W.Frag)(ta tv:TE)(f:Str):TS:=λD σ H=>tv σ H λy H1=>ta σ H1 λx H2=>∃a C dx fs,x= .ref a/\H2 a=some (.ins C dx fs)/\fR K C/\gY K C f/\fs.length<1000/\
 D.nx σ (upd H2 a (.ins C dx (gf f y fs)))
section
variable{X:Cx}{o e value:et}{f:Str}{pos pos' tpos:Pos}{ta tv:TE}
theorem xh(he:PE X e ta)(hb:ky e f X.env (eval e X.env)=eval e X.env):PE X (.Attribute e f pos) (nW X.K ta f):=by
 intro pins s σ H Q I h;refine Uk hb (aP (he pins s σ H _ I h) λu s1 ⟨x,H1,I1,g,a,C,dx,fs,v,ex,ea,c,n,l,q⟩=>?_);subst ex;obtain rfl:u=c3 a:=g;exact TX I1 ea c n l λO s2 I2 ru=>⟨v,H1,I2,ru,q⟩
theorem MP(ha:PE X o ta)(hv:PE X value tv)(hs:qb value (some (.Attribute o f pos')) pos.line X.env=pure false):PS X (.Assign [.Attribute o f pos'] value pos) (GP X.K ta tv f):=by
 intro pins s σ H D I h;refine plainObj_wpAny_Assign_Attribute (aP (hv pins s σ H _ I h) λu s1 ⟨y,H1,I1,d,q⟩=>aP (ha pins s1 σ H1 _ I1 q) λb s2 ⟨x,H2,I2,g,a,C,dx,fs,ex,ea,c,n,l,O⟩=>?_) hs;subst ex;obtain rfl:b=c3 a:=g;exact SY I2 ea c n l d λs3 I3=>⟨σ,_,I3,O⟩
end
section
variable{X:Cx}{pins:List (ax×Obj)}{σ:qg}{H:Hp}{s:ar}{A:cx}{E:ag->ar->Prop}{Q:ag->ar->Prop}{c:ag}{b:Bool}
inductive jf(K:PySem.W.Frag)(H:Hp):V->ag->Prop where
 |aL:jf K H .aL (.type "NoneType")
 |bl (x:Bool):jf K H (.bl x) (.type "bool")
 |int (i:Int):jf K H (.int i) (.type "int")
 |str (x:Str):jf K H (.str x) (.type "str")
 |lT (x:UInt64):jf K H (.lT x) (.type "float")
 |lst {a:ax} {xs:List V} (e:H a=some (.lst xs)):jf K H (.ref a) (.type "list")
 |iF {a:ax} {o:Obj} {xs:List V} (e:H a=some (.iF o (.lst xs))):jf K H (.ref a) (.type "list")
 |tup {a:ax} {xs:List V} (e:H a=some (.tup xs)):jf K H (.ref a) (.type "tuple")
 |dK {a:ax} {kvs:List (Key×V)} (e:H a=some (.dK kvs)):jf K H (.ref a) (.type "dict")
 |dT {a:ax} {kvs:List (List Key×V)} (e:H a=some (.dT kvs)):jf K H (.ref a) (.type "dict")
 |O5 {a:ax} {o:Obj} {kvs:List (Key×V)} (e:H a=some (.iF o (.dK kvs))):jf K H (.ref a) (.type "dict")
 | ins {a C dx : Addr} {fs : List (Str × V)} (e : H a = some (.ins C dx fs)) (cl : fR K C) (ha : PySem.W.findIn K (.ref C) "__class__" = some (some (.builtin "object.__class__")))
   (hn:PySem.W.specialIn K (.builtin "object.__class__") "__get__"=some (some (.builtin "getset_descriptor.__get__"))) (htk:PySem.W.takesIn K (.builtin "object.__class__")=some true)
   (hm:PySem.W.mroIn K C (.type "object")=some true):jf K H (.ref a) (.ref C)
theorem VC{x:V}{u t:ag}(I:Inv X pins σ H s)(g:RelV x u)(ty:jf X.K H x t)(e:PySem.W.kitOne X.K t c=some b)(h:∀tk,Q (.bool b) {s with toks:=tk}):
    wpAny (be X.prog X.w) A (call (.builtin "isinstance") [u,c]) Q E s:=by
  cases ty with
  |aL=>cases (show u=gw from g);exact jT PySem.W.kitx_none I.c9 dC e (λz=>nomatch z) h
  |bl y=>cases (show u=l5 y from g);exact jT PySem.W.kitx_bool I.c9 dC e (λz=>nomatch z) h
  |int i=>obtain⟨t,q⟩:=(show∃t,u=js i t from g);cases q;exact jT PySem.W.kitx_int I.c9 dC e (λz=>nomatch z) h
  |str y=>obtain⟨t,q⟩:=(show∃t,u=lY y t from g);cases q;exact jT PySem.W.kitx_str I.c9 dC e (λz=>nomatch z) h
  |lT y=>obtain⟨t,q⟩:=(show∃t,u=p7 y t from g);cases q;exact jT PySem.W.kitx_float I.c9 dC e (λz=>nomatch z) h
  | @lst a xs ea =>
    cases (show u=c3 a from g);obtain⟨_,_,n,_,h1⟩:=(show c7 X.prog X.w H s.heap a (.lst xs) from I.hok a _ ea);exact jT Ec I.c9 ⟨_,h1,rfl⟩ e (λz=>nomatch z) h
  | @iF a ob xs ea =>
    cases (show u=c3 a from g);obtain⟨_,_,_,n,_,h1⟩:=(show c7 X.prog X.w H s.heap a (.iF ob (.lst xs)) from I.hok a _ ea);exact jT Ec I.c9 ⟨_,h1,rfl⟩ e (λz=>nomatch z) h
  | @tup a xs ea =>
    cases (show u=c3 a from g);obtain⟨_,_,_,p⟩:=(show c7 X.prog X.w H s.heap a (.tup xs) from I.hok a _ ea);obtain⟨o,h1,h2,_⟩:=p;exact jT PySem.W.kitx_tuple I.c9 ⟨o,h1,h2⟩ e (λz=>nomatch z) h
  | @dK a kvs ea =>
    cases (show u=c3 a from g);obtain⟨_,_,vs,_,p⟩:=(show c7 X.prog X.w H s.heap a (.dK kvs) from I.hok a _ ea);obtain⟨o,es,ep,h1,h2,_⟩:=p;exact jT v7 I.c9 ⟨o,h1,h2.1⟩ e (λz=>nomatch z) h
  | @dT a kvs ea =>
    cases (show u=c3 a from g);obtain⟨_,_,xs,_,o,es,ep,h1,h2,_⟩:=(show c7 X.prog X.w H s.heap a (.dT kvs) from I.hok a _ ea);exact jT v7 I.c9 ⟨o,h1,h2.1⟩ e (λz=>nomatch z) h
  | @O5 a ob kvs ea =>
    cases (show u=c3 a from g);obtain⟨_,_,_,vs,_,o,es,ep,h1,h2,_⟩:=I.hok a _ ea;exact jT v7 I.c9 ⟨o,h1,h2.1⟩ e (λz=>nomatch z) h
  | @ins a C dx fs ea cl ha hn htk hm =>
    cases (show u=c3 a from g);obtain⟨mA,O,_⟩:=AG I.hok ea;obtain⟨od,J,_⟩:=O.look;exact jT (PySem.W.kitx_own (cl.get _) cl.hd ha hn htk hm) I.c9 J e (λz=>nomatch z) h
end
structure dY(k:Nat)(A:cx):Prop where
 hd:A.handled=none
 dp:A.depth+3*k+5<sh
 un:A.units+16*k+200<y2
theorem dY.mono{j k:Nat}{A:cx}(r:dY k A)(h:j<=k):dY j A:=⟨r.hd,by have:=r.dp;omega,by have:=r.un;omega⟩
theorem dY.deeper{k:Nat}{A:cx}(r:dY (k+1) A)(env:Env):dY k (A.deeper env):=
 ⟨r.hd,by have:=r.dp;show A.depth+1+3*k+5<_;omega,by have:=r.un;show A.units+3+16*k+200<_;omega⟩
theorem R8{A:cx}{C:ax}{us:List ag}{a:List (Str×ag)}:(A.under (.builtin "type.__call__" ⟨.ref C::us,a⟩)).depth=A.depth+1:=by
 first|rfl|simp[oG,Code.weight,Code.isCreation,Code.isGuard,Code.isCaller,xi,oI,guardIds]
theorem Su{A:cx}{C:ax}{us:List ag}{a:List (Str×ag)}:(A.under (.builtin "type.__call__" ⟨.ref C::us,a⟩)).units=A.units+1:=by
 first|rfl|simp[oG,Code.cUnits,xi,oI]
theorem dY.make{k:Nat}{A:cx}(r:dY (k+1) A)(C:ax)(us:List ag)(a:List (Str×ag)):dY k (A.under (.builtin "type.__call__" ⟨.ref C::us,a⟩)):=
 ⟨r.hd,by have:=r.dp;rw[R8];omega,by have:=r.un;rw[Su];omega⟩
theorem dY.depth{k:Nat}{A:cx}(r:dY k A):A.depth<sh:=by have:=r.dp;omega
theorem dY.units{k:Nat}{A:cx}(r:dY k A):A.units+64<y2:=by have:=r.un;omega
def bM:TA:=λ_ H Q=>Q [] H
def bz(ta:TE)(tr:TA):TA:=λσ H Q=>ta σ H λx H1=>tr σ H1 λxs H2=>Q (x::xs) H2
section
variable{X:Cx}{e:et}{es:List et}{te:TE}{t:TA}{pos:Pos}
theorem af:PA X [] bM:=λ_ _ _ _ H Q I h=>Calls.spliced_nil ⟨[],H,I, .nil,h⟩
theorem aa(ha:PE X e te)(hr:PA X es t)(hs:cm (e::es) X.env=(false,eval e X.env)::cm es X.env:=by rfl):PA X (e::es) (bz te t):=by
 intro pos pins s σ H Q I h;rw[hs];show wpAny _ _ (spliced ((false,eval e X.env)::lj pos (cm es X.env))) _ _ s;refine Calls.spliced_cons (aP (ha pins s σ H _ I h) λu s1 ⟨x,H1,I1,C,J⟩=>?_);exact aP (hr pos pins s1 σ H1 _ I1 J) λus s2 ⟨xs,H2,I2,U,O⟩=>⟨x::xs,H2,I2, .cons C U,O⟩
def o7(t:TA):TE:=λσ H Q=>t σ H λxs H1=>xs.length<=sizeLine/\∀p,H1 p=none->Q (.ref p) (upd H1 p (.tup xs))
def rN(t:TA):TE:=λσ H Q=>t σ H λxs H1=>xs.length<=sizeLine/\∀p,H1 p=none->Q (.ref p) (upd H1 p (.lst xs))
theorem bQ{x1}(h:PA X es t):PE X (.Tuple es x1 pos) (o7 t):=by
 intro pins s σ H Q I hq;refine wpAny_Tuple_spliced (aP (h pos pins s σ H _ I hq) λus s1 ⟨xs,H1,I1,r,z,q⟩=>⟨by rw[<-r.length];exact z,?_⟩);have hf:H1 s1.heap.objs.size=none:=I1.hok.fresh (aH _);refine⟨.ref s1.heap.objs.size,upd H1 s1.heap.objs.size (.tup xs),I1.laid (t':=s1.toks) (λb u e=>bW _ e) (aH _) ?_,rfl,q _ hf⟩;exact⟨z,us,r,⟨_,fT _ rfl,rfl,_,rfl⟩⟩
theorem eV(h:PA X es t):PE X (.List es pos) (rN t):=by
 intro pins s σ H Q I hq;refine wpAny_List_spliced (aP (h pos pins s σ H _ I hq) λus s1 ⟨xs,H1,I1,r,z,q⟩=>⟨by rw[<-r.length];exact z,?_⟩);have hf:H1 s1.heap.objs.size=none:=I1.hok.fresh (aH _);refine⟨.ref s1.heap.objs.size,upd H1 s1.heap.objs.size (.lst xs),I1.laid (t':=s1.toks) (λb u e=>bW _ e) (aH _) ?_,rfl,q _ hf⟩;exact⟨z,us,0,r,fT _ rfl⟩
end
abbrev Sp:=List V->Hp->VK->XK->Prop
abbrev lg:=List Env->Hp->ar->XK->ag->ar->Prop
structure pK(P:bg)(w:cq)(K:PySem.W.Frag)(mg:Str->Option ag)(base:eC)(A:cx)(outer:List Env)(s:ar)(H:Hp):Prop where
 frames:A.frames=some outer
 mod:Mod K mg base
 bs:∀b o,base.get? b=some o->s.heap.get? b=some o/\H b=none
 nV:base.objs.size<=s.heap.objs.size
 ki:s.heap.FunFrames base outer
 pU:∀b∈frs outer,H b=none
 hok:dR P w H s.heap
 bare:l1 s.gens
def CE(outer:List Env)(P:bg)(w:cq)(H:Hp)(s:ar)(Q:VK)(u:ag)(s':ar):Prop:=
 ∃v H',s'.os=s.os/\l1 s'.gens/\Un (frs outer) [] H H' s.heap s'.heap/\dR P w H' s'.heap/\RelV v u/\Q v H'
def CR(CX:lg)(outer:List Env)(P:bg)(w:cq)(H:Hp)(s:ar)(Q:VK)(E:XK)(r:Result)(s':ar):Prop:=
 match r with
 | .ok (.ret u)=>CE outer P w H s Q u s'
 | .ok _=>False
 | .error e=>CX outer H s E e s'
structure aW(P:bg)(w:cq)(K:PySem.W.Frag)(mg:Str->Option ag)(base:eC)(CX:lg)(k:Nat)(f:ax)(fd:ft)(ps:List Str)(sp:Sp):Prop where
 len:∀vs H Q E,sp vs H Q E->vs.length=ps.length
 run:∀(A:cx) (outer:List Env) (s:ar) (H:Hp) (args:Args) (us:List ag) (vs:List V) (Q:VK) (E:XK),dY k A->pK P w K mg base A outer s H->qk s fd args (ps.zip us)->Vals vs us->sp vs H Q E->
  codeAny (be P w) A (.call (.ref f) args) (CR CX outer P w H s Q E) s
theorem pK.make{P:bg}{w:cq}{K:PySem.W.Frag}{mg:Str->Option ag}{base:eC}{A:cx}{outer:List Env}{s:ar}{H:Hp}(e:pK P w K mg base A outer s H)(C:ax)(us:List ag)(a:List (Str×ag)):
  pK P w K mg base (A.under (.builtin "type.__call__" ⟨.ref C::us,a⟩)) outer s H:=⟨by first|exact e.frames|(simpa[oG,Code.envs,oI,pushEnvs] using e.frames),e.mod,e.bs,e.nV,e.ki,e.pU,e.hok,e.bare⟩
section
variable{X:Cx}{pins:List (ax×Obj)}{σ:qg}{H:Hp}{s s':ar}
theorem Inv.J0(I:Inv X pins σ H s):pK X.prog X.w X.K X.mg X.base X.A X.stack s H:=
 ⟨I.ok.frames,I.ok.mod,I.bs,eS I.ok.nV I.sz,I.stack,I.NZ,I.hok,I.bare⟩
theorem Inv.after{Q:VK}{u:ag}(I:Inv X pins σ H s)(h:CE X.stack X.prog X.w H s Q u s'):EP X pins σ Q u s':=by
 obtain⟨v,H',os,bare,un,hok,r,q⟩:=h;obtain⟨L,g,d,t,a⟩:=s';obtain rfl:a=s.os:=os;exact⟨v,H',I.call (h':=L) (g':=g) (d':=d) (t':=t) (ch:=[]) un hok bare (λb z=>absurd z (by simp)),r,q⟩
end
def gm(sp:Sp)(gy:List V)(E:XK)(t:TA):TE:=λσ H Q=>t σ H λvs H1=>sp (vs++gy) H1 Q E
def t8(C:ax)(m:Str)(sp:Sp)(gy:List V)(E:XK)(ta:TE)(t:TA):TE:=λσ H Q=>ta σ H λx H1=>∃a dx fs,x= .ref a/\H1 a=some (.ins C dx fs)/\fs.lookup m=none/\
 t σ H1 λvs H2=>sp (x::(vs++gy)) H2 Q E
def FQ(C:ax)(sp:Sp)(gy:List V)(E:XK)(t:TA):TE:=λσ H Q=>t σ H λvs H1=>∀x dx,H1 x=none->H1 dx=none->dx≠x->
 sp (.ref x::(vs++gy)) (upd (upd H1 dx (.own x)) x (.ins C dx [])) (λv H2=>v= .aL/\Q (.ref x) H2) E
def Binds(K:PySem.W.Frag)(fd:ft)(ps:List Str)(ds:List ag):Prop:=
 ∀(s:ar) (us:List ag),K.In s.heap->(us++ds).length=ps.length->qk s fd ⟨us,[]⟩ (ps.zip (us++ds))
theorem Binds.all{K:PySem.W.Frag}{fd:ft}{ps:List Str}(h:∀us:List ag,us.length=ps.length->bindArgs fd ⟨us,[]⟩=pure (ps.zip us)):Binds K fd ps []:=λs us _ hl=>by
 rw[fY] at hl⊢;exact .of_eq (h us hl)
def Passes(CX:lg)(X:Cx)(E:XK):Prop:=∀(pins:List (ax×Obj)) (σ:qg) (H:Hp) (s:ar) (e:ag) (s':ar),Inv X pins σ H s->CX X.stack H s E e s'->X.xe e s'
section
variable{X:Cx}{CX:lg}{k:Nat}{f C:ax}{fd:ft}{ps:List Str}{sp:Sp}{gy:List V}{ds:List ag}{E:XK}{x m:Str}{p pos apos:Pos}{e o:et}{es:List et}{ta:TE}{t:TA}
theorem BX{pins:List (ax×Obj)}{σ:qg}{H:Hp}{s:ar}{Q:VK}{us:List ag}{vs:List V}(F:aW X.prog X.w X.K X.mg X.base CX k f fd ps sp)(hr:dY k X.A)(hb:Binds X.K fd ps ds)(hd:Vals gy ds)(hx:Passes CX X E)
    (I:Inv X pins σ H s) (r:Vals vs us) (h:sp (vs++gy) H Q E):wpAny (be X.prog X.w) X.A (call (.ref f) us) (EP X pins σ Q) X.xe s:=by
  have U:Vals (vs++gy) (us++ds):=r.append hd;have hl:(us++ds).length=ps.length:=by rw[<-U.length];exact F.len _ _ _ _ h
  refine tJ (hF (F.run X.A X.stack s H ⟨us,[]⟩ (us++ds) (vs++gy) Q E hr I.J0 (hb s us I.c9 hl) U h) λr s' hq=>?_);cases r with
  |error e=>exact hx pins σ H s e s' I hq
  | ok fl =>
    cases fl with
    |ret u=>exact I.after hq
    |next=>exact eh hq
    |brk=>exact eh hq
    |cont=>exact eh hq
theorem LN(F:aW X.prog X.w X.K X.mg X.base CX k f fd ps sp)(hr:dY k X.A)(hg:Gl X x)(hm:X.mg x=some (.ref f))(hk:PySem.W.keepIn X.K (.ref f)=true)(hb:Binds X.K fd ps ds)(hd:Vals gy ds)(hx:Passes CX X E)
  (ha:PA X (e::es) t) (a:(x==("__debug__":Str))=false:=by decide) (he:cm (e::es) X.env=(false,eval e X.env)::cm es X.env:=by rfl) (Y:(lj pos (cm es X.env)).any (·.1)=false:=by rfl):
  PE X (.Call (.Name x p) (e::es) [] pos) (gm sp gy E t):=by
 intro pins s σ H Q I h;refine gb (CJ I hg hm ?_ a);refine Bb (h₀:=X.base) I.ok.mod.tM hk (aP (ha pos pins s σ H _ I h) λus s1 ⟨vs,H1,I1,r,q⟩=>⟨I1.c9,?_⟩) he Y;exact BX F hr hb hd hx I1 r q
theorem WM{pl:Sem Bool}(he:PE X o ta)(c:fR X.K C)(hm:Meth X.K C m f)(F:aW X.prog X.w X.K X.mg X.base CX k f fd ps sp)(hr:dY k X.A)(hb:Binds X.K fd ps ds)(hd:Vals gy ds)(hx:Passes CX X E)
  (ht : eval (.Call (.Attribute o m apos) [] [] pos) X.env = (do
   let ov<-eval o X.env
   standAt apos.atName
   let (f,first)<-holding [ov] (qc ov m pl)
   callWith pos f first (lj pos (cm [] X.env)) (yf pos (ql [] X.env))):=by rfl):
  PE X (.Call (.Attribute o m apos) [] [] pos) (t8 C m sp gy E ta bM):=by
 intro pins s σ H Q I h;refine Eb (pl:=pl) (aP (he pins s σ H _ I h) λu s1 ⟨x,H1,I1,g,a,dx,fs,ex,ea,l,q⟩=>?_) ht;subst ex;obtain rfl:u=c3 a:=g;refine Ez I1 ea c hm l ?_;exact PySem.W.callWith_K0 (first:=[.ref a]) I1.c9 hm.kp (BX (us:=[.ref a]) (vs:=[.ref a]) F hr hb hd hx I1 (.cons rfl .nil) q)
structure Mk(K:PySem.W.Frag)(C f:ax):Prop where
 makes:PySem.W.makesIn K C=true
 init:PySem.W.findIn K (.ref C) "__init__"=some (some (.ref f))
 fn:PySem.W.isFn K (.ref f)=true
 kp:PySem.W.keepIn K (.ref C)=true
theorem UB{pins:List (ax×Obj)}{σ:qg}{H:Hp}{s:ar}{Q:VK}{us:List ag}{vs:List V}(M:Mk X.K C f)(F:aW X.prog X.w X.K X.mg X.base CX k f fd ps sp)(hr:dY (k+1) X.A)(hb:Binds X.K fd ps ds)(hd:Vals gy ds)
    (hx:Passes CX X E) (I:Inv X pins σ H s) (r:Vals vs us)
    (h:∀x dx,H x=none->H dx=none->dx≠x->sp (.ref x::(vs++gy)) (upd (upd H dx (.own x)) x (.ins C dx [])) (λv H2=>v= .aL/\Q (.ref x) H2) E):
    wpAny (be X.prog X.w) X.A (call (.ref C) us) (EP X pins σ Q) X.xe s:=by
  have hq:=h (s.heap.objs.size+1) s.heap.objs.size (I.hok.fresh (qS _)) (I.hok.fresh (aH _)) (dN (oJ _));have I2:=Inv.made (C:=C) I;have U:Vals (V.ref (s.heap.objs.size+1)::(vs++gy)) (c3 (s.heap.objs.size+1)::(us++ds)):= .cons rfl (r.append hd);have hl:(c3 (s.heap.objs.size+1)::us++ds).length=ps.length:=by
    have e:=U.length;rw[F.len _ _ _ _ hq] at e;exact e.symm
  refine tJ (U7 (f:=f) I.c9 M.makes M.init (beq_iff_eq.mp M.fn) (hF (F.run _ X.stack _ _ ⟨c3 (s.heap.objs.size+1)::us,[]⟩ (c3 (s.heap.objs.size+1)::(us++ds)) _ _ E (hr.make C us [])
    (I2.J0.make C us []) (hb _ (c3 (s.heap.objs.size+1)::us) I2.c9 hl) U hq) λr s' b=>?_))
  cases r with
  |error e=>exact hx pins σ _ _ e s' I2 b
  | ok fl =>
    cases fl with
    | ret u =>
      obtain⟨v,H',I3,rv,ev,Y⟩:=I2.after b;subst ev;exact⟨rv,⟨V.ref (s.heap.objs.size+1),H',I3,rfl,Y⟩⟩
    |next=>exact eh b
    |brk=>exact eh b
    |cont=>exact eh b
theorem Z6(M:Mk X.K C f)(F:aW X.prog X.w X.K X.mg X.base CX k f fd ps sp)(hr:dY (k+1) X.A)(hg:Gl X x)(hm:X.mg x=some (.ref C))(hb:Binds X.K fd ps ds)(hd:Vals gy ds)(hx:Passes CX X E)
  (ha:PA X (e::es) t) (a:(x==("__debug__":Str))=false:=by decide) (he:cm (e::es) X.env=(false,eval e X.env)::cm es X.env:=by rfl) (Y:(lj pos (cm es X.env)).any (·.1)=false:=by rfl):
  PE X (.Call (.Name x p) (e::es) [] pos) (FQ C sp gy E t):=by
 intro pins s σ H Q I h;refine gb (CJ I hg hm ?_ a);refine Bb (h₀:=X.base) I.ok.mod.tM M.kp (aP (ha pos pins s σ H _ I h) λus s1 ⟨vs,H1,I1,r,q⟩=>⟨I1.c9,?_⟩) he Y;exact UB M F hr hb hd hx I1 r q
end
structure bH(N P:List Str)(sc:kl):Prop where
 kind:sc.kind= .function
 co:sc.isCoroutine=false
 gen:sc.isGenerator=false
 nd:N.Nodup
 pre:N.take P.length=P
 par:∀x∈P,sc.names.lookup x=some .local\/sc.names.lookup x=some .cell
 JC:∀y∈sc.names,y.2≠ .free
theorem NI{kindOf:Str->Option fv}{x:Str}:∀{binds:List (Str×ag)} {m:Str->Option ag},(∀v,(x,v)∉binds)->xk kindOf binds m x=m x
  |[],_,_=>rfl
  | (n, v) :: r, m, h => by
    unfold xk;rw[NI λw hw=>h w (cS _ hw)];split
    · have:x≠n:=by rintro rfl;exact h v dj
      simp[this]
    · rfl
theorem Ni{kindOf:Str->Option fv}{x:Str}:∀{binds:List (Str×ag)} {m:Str->Option ag},(∀v,(x,v)∉binds)->xl kindOf binds m x=m x
  |[],_,_=>rfl
  | (n, v) :: r, m, h => by
    unfold xl;rw[Ni λw hw=>h w (cS _ hw)];split;· rfl
    · have:x≠n:=by rintro rfl;exact h v dj
      simp[this]
theorem IG{kindOf:Str->Option fv}{x:Str}{v:ag}:∀{P:List Str} {vs:List ag} {i:Nat} {m:Str->Option ag},P.Nodup->P[i]?=some x->vs[i]?=some v->kindOf x=some .local->
    xk kindOf (P.zip vs) m x=some v
  |[],_,_,_,_,h,_,_=>by simp at h
  |_::_,[],_,_,_,_,h,_=>by simp at h
  | p :: P, w :: vs, 0, m, nd, h1, h2, hk => by
    simp at h1 h2;subst h1;subst h2;show xk kindOf ((p,w)::P.zip vs) m p=_;unfold xk;rw[NI λv hv=>(kh.mp nd).1 (Cs hv).1,if_pos hk];simp
  | p :: P, w :: vs, i + 1, m, nd, h1, h2, hk => by
    show xk kindOf ((p,w)::P.zip vs) m x=_;unfold xk;exact IG (i:=i) (kh.mp nd).2 (by simpa using h1) (by simpa using h2) hk
theorem Og{kindOf:Str->Option fv}{x:Str}{v:ag}:∀{P:List Str} {vs:List ag} {i:Nat} {m:Str->Option ag},P.Nodup->P[i]?=some x->vs[i]?=some v->kindOf x≠some .local->
    xl kindOf (P.zip vs) m x=some v
  |[],_,_,_,_,h,_,_=>by simp at h
  |_::_,[],_,_,_,_,h,_=>by simp at h
  | p :: P, w :: vs, 0, m, nd, h1, h2, hk => by
    simp at h1 h2;subst h1;subst h2;show xl kindOf ((p,w)::P.zip vs) m p=_;unfold xl;rw[Ni λv hv=>(kh.mp nd).1 (Cs hv).1,if_neg hk];simp
  | p :: P, w :: vs, i + 1, m, nd, h1, h2, hk => by
    show xl kindOf ((p,w)::P.zip vs) m x=_;unfold xl;exact Og (i:=i) (kh.mp nd).2 (by simpa using h1) (by simpa using h2) hk
noncomputable def start(N:List Str)(vs:List V):qg:=vs.map some++cf (N.length-vs.length) none
noncomputable def qW(CX:lg)(P:bg)(w:cq)(K:PySem.W.Frag)(mg:Str->Option ag)(base:eC)(N:List Str)(qual:Str)(scope:kl)(f:ax)(t:ag)(A:cx)(outer:List Env)(s:ar)(H:Hp)(E:XK):Cx where
 prog:=P
 w:=w
 K:=K
 mg:=mg
 base:=base
 A:=A.deeper (oL qual scope s.heap.objs.size f t)
 N:=N
 s₀:=s
 H₀:=H
 env:=oL qual scope s.heap.objs.size f t
 outer:=outer
 stack:=oL qual scope s.heap.objs.size f t::outer
 ex:=[]
 calm:=true
 fn:=λ_=>true
 pn:=[]
 xe:=λe s'=>wpAny (be P w) (A.deeper (oL qual scope s.heap.objs.size f t)) (leaving (oL qual scope s.heap.objs.size f t) e) (λ_ a=>CX outer H s E e a) (λe' a=>CX outer H s E e' a) s'
theorem L8{sc:kl}{n:Nat}{x:Str}(h:sc.names.lookup x=some .cell):∃c,(vx n sc.names []).lookup x=some c:=by
 have q:=Ju sc.names n [] (.inl h);exact CZ.mp q
theorem XO{CX:lg}{P:bg}{w:cq}{K:PySem.W.Frag}{mg:Str->Option ag}{base:eC}{N ps:List Str}{qual:Str}{scope:kl}{f:ax}{t:ag}{A:cx}{outer:List Env}{s s1:ar}{H:Hp}{E:XK}{us:List ag}{vs:List V}
  (S:bH N ps scope) (hd:A.handled=none) (R:pK P w K mg base A outer s H) (hl:vs.length=ps.length) (r:Vals vs us)
  (x:InCallC s s.heap.objs.size (xk (oL qual scope s.heap.objs.size f t).kindOf (ps.zip us) λ_=>none) (vx (s.heap.objs.size+1) scope.names []) (xl (oL qual scope s.heap.objs.size f t).kindOf (ps.zip us) λ_=>none) s1):
  Inv (qW CX P w K mg base N qual scope f t A outer s H E) [] (start N vs) H s1:=by
 have Y:ps.length<=N.length:=by have:=congrArg mf S.pre;rw[ly] at this;omega
 obtain⟨h1,tk,rfl,hk⟩:=x.done;have g:∀b:ax,b∉(qW CX P w K mg base N qual scope f t A outer s H E).ex:=λb z=>absurd (show b∈([]:List ax) from z) (by simp)
 refine⟨⟨R.mod,S.kind,rfl,rfl,aH _,λy z c h1 h2=>?_,λy hy=>?_,λy c _ h=>?_,λ_=>hd,Around.frames_deeper R.frames, .inr ⟨rfl,rfl⟩,λb z=>absurd z (g b),R.bs,R.nV,λb _ _=>g b,λb z=>absurd z (g b),R.ki,R.pU⟩,
  rfl,R.bare,Un.kept hk,⟨_,x.toInCall.ns,λi y v h1 h2 h3=>?_⟩,λy c h=>⟨_,x.cell y c h⟩,R.hok.fresh (aH _),λy c h=>?_,λp hp=>absurd (show p∈([]:List (ax×Obj)) from hp) (by simp),R.hok.kept hk,?_⟩
 .exact name_of_addr x.apart (pQ h1) (pQ h2)
 .have hy:scope.names.lookup y=some .cell\/scope.names.lookup y=some .free:=hy;rcases hy with hy|hy
  .exact L8 hy
  .exact absurd rfl (S.JC _ (pQ hy))
 .exact kK (x.above y c (pQ h))
 .have hi:i<vs.length:=by
   unfold start at h2;by_cases hi:i<vs.length;·exact hi
   .rw[iD (by simpa using hi)] at h2;rw[g8] at h2;split at h2<;>cases h2
  have ha:vs[i]?=some v:=by
   unfold start at h2;rw[gQ (by simpa using hi),cY] at h2;cases e:vs[i]? with
   |none=>rw[e] at h2;cases h2
   |some a=>rw[e] at h2;cases h2;rfl
  obtain⟨u,hu,rv⟩:=r.get ha;have hp:ps[i]?=some y:=by
   rw[<-S.pre,J3 ∅];exact h1
  have d:ps.Nodup:=by rw[<-S.pre];exact S.nd.sublist (List.take_sublist _ _)
  refine⟨u,rv,?_⟩;rcases S.par y (fQ hp) with k|k
  .exact .inl ⟨k,IG d hp hu k⟩
  .obtain⟨c,e⟩:=L8 (n:=s.heap.objs.size+1) k;refine .inr ⟨.inl k,c,e,?_⟩;have q:=x.cell y c e;rw[Og d hp hu (by show scope.names.lookup y≠_;rw[k];decide)] at q;exact q
 .exact R.hok.fresh (kK (x.above y c (pQ h)))
 .unfold start;show _=N.length;rw[cK,ak,List.length_replicate];omega
theorem TM{CX:lg}{P:bg}{w:cq}{K:PySem.W.Frag}{mg:Str->Option ag}{base:eC}{k:Nat}{f:ax}{name qual:Str}{d:Arguments}{a:List fb}{scope:kl}{i kV doc pm cdv ct oc:ag}{an od:Option ax}
    {osl:Array (Option ag)} {N ps:List Str} {sp:Sp} (lk:K.lookup f=some ⟨oc,od, .func (PySem.W.fnOf name qual d a scope i kV doc pm an cdv ct),osl⟩) (j:PySem.W.codeIn K cdv qual=true) (S:bH N ps scope)
    (len:∀vs H Q E,sp vs H Q E->vs.length=ps.length)
    (c:∀(A:cx) (outer:List Env) (s:ar) (H:Hp) (vs:List V) (Q:VK) (E:XK),dY k (A.deeper (oL qual scope s.heap.objs.size f cdv))->sp vs H Q E->
      ∃t,jN (qW CX P w K mg base N qual scope f cdv A outer s H E) a t/\t {nx:=λ_ H'=>Q .aL H',rt:=Q} (start N vs) H):
    aW P w K mg base CX (k+1) f (PySem.W.fnOf name qual d a scope i kV doc pm an cdv ct) ps sp:=by
  refine⟨len,λA outer s H args us vs Q E hr R hb r C=>?_⟩;have hl:=len _ _ _ _ C;have KX:K.In s.heap:=R.mod.tM.keeps λb o e=>(R.bs b o e).1;have h:s.heap.NoLimit:=R.mod.nolimit.keeps λb o e=>(R.bs b o e).1;have g:∀y∈ps.zip us,scope.names.lookup y.1=some .local\/(scope.names.lookup y.1=some .cell/\((vx (s.heap.objs.size+1) scope.names []).lookup y.1).isSome=true):=λ⟨n,v⟩ hy=>by
    rcases S.par n (Cs hy).1 with q|q
    · exact .inl q
    · exact .inr ⟨q,Ju _ _ _ (.inl q)⟩
  refine codeAny_call_function hr.depth (KX _ _ lk) rfl S.co S.gen rfl (PySem.W.codeRec_of KX j) (hb _ _ _ _ ?_);refine wpAny_newFunctionEnv_cells S.kind g λenv he s1 x=>?_;subst he;refine⟨h.keeps x.toInCall.keep,codeAny_func ?_⟩;obtain⟨t,ht,hq⟩:=c A outer s H vs Q E (hr.deeper _) C;have I:Inv (qW CX P w K mg base N qual scope f cdv A outer s H E) [] (start N vs) H s1:=XO S hr.hd R hl r x;refine eM (ht [] s1 (start N vs) H _ I hq) (λfl s' hs=>?_) λe s' hs=>hs
  have fin:∀{L:qg} {H':Hp} {v:V} {u:ag},Inv (qW CX P w K mg base N qual scope f cdv A outer s H E) [] L H' s'->RelV v u->Q v H'->CE outer P w H s Q u s':=
    λ{L H' v u} J rv q=>⟨v,H',J.os,J.bare,J.base,J.hok,rv,q⟩
  cases fl with
  | ret u =>
    obtain⟨v,L,H',J,rv,q⟩:=hs;exact fin J rv q
  | next =>
    obtain⟨L,H',J,q⟩:=hs;exact fin (v:=V.aL) (u:=gw) J rfl q
  | brk =>
    obtain⟨_,_,_,q⟩:=hs;exact eh q
  | cont =>
    obtain⟨_,_,_,q⟩:=hs;exact eh q
section
variable{X:Cx}{x:Str}{p pos:Pos}{e:et}{es:List et}{t:TA}{id T:String}{r:List V->Hp->VK->Prop}
def fq(r:List V->Hp->VK->Prop)(t:TA):TE:=λσ H Q=>t σ H λvs H1=>r vs H1 Q
theorem bX(hc:fK X (.builtin id) r)(hg:Gl X x)(hm:X.mg x=none)(hv:g5 x=some (.builtin id))(ha:PA X (e::es) t)(hn:x≠"__name__":=by decide)(a:(x==("__debug__":Str))=false:=by decide)
  (he:cm (e::es) X.env=(false,eval e X.env)::cm es X.env:=by rfl) (Y:(lj pos (cm es X.env)).any (·.1)=false:=by rfl):PE X (.Call (.Name x p) (e::es) [] pos) (fq r t):=by
 intro pins s σ H Q I h;refine gb (qV I hg hm hv ?_ hn a);exact oP (aP (ha pos pins s σ H _ I h) λus s1 ⟨vs,H1,I1,C,J⟩=>hc pins s1 σ H1 vs us Q I1 C J) he Y
theorem iB(hc:fK X (.type T) r)(hg:Gl X x)(hm:X.mg x=none)(hv:g5 x=some (.type T))(ha:PA X (e::es) t)(hn:x≠"__name__":=by decide)(a:(x==("__debug__":Str))=false:=by decide)
  (he:cm (e::es) X.env=(false,eval e X.env)::cm es X.env:=by rfl) (Y:(lj pos (cm es X.env)).any (·.1)=false:=by rfl):PE X (.Call (.Name x p) (e::es) [] pos) (fq r t):=by
 intro pins s σ H Q I h;refine gb (qV I hg hm hv ?_ hn a);exact wZ (aP (ha pos pins s σ H _ I h) λus s1 ⟨vs,H1,I1,C,J⟩=>hc pins s1 σ H1 vs us Q I1 C J) he Y
end
end L2
namespace HT
open PySem PyProof.Rows
section
open PySem.SeqAt
open PySem.AutoSeq1 (wpAny_loadPart')
open PySem.MeetsSeq PySem.MeetsSeq2 PySem.MeetsSeq3
end
section
variable{prog:bg}{w:cq}{A:cx}{E:ag->ar->Prop}{s:ar}
noncomputable def eE(n d:Nat):Option Int->Nat
 |none=>d
 |some v=>if v<0 then(v+(n:Int)).toNat else min v.toNat n
theorem YI(n d:Nat):eE n d none=d:=rfl
end
end HT
namespace L2
abbrev TO:=qg->Hp->(Option Int->Hp->Prop)->Prop
def PO(X:Cx)(e:Option et)(t:TO):Prop:=
 ∀(pins:List (ax×Obj)) (s:ar) (σ:qg) (H:Hp) (Q:Option Int->Hp->Prop),Inv X pins σ H s->t σ H Q->
  wpAny (be X.prog X.w) X.A (evalPart e X.env) (λu s'=>∃o H',Inv X pins σ H' s'/\IsPart u o/\Q o H') X.xe s
def GO:TO:=λ_ H Q=>Q none H
def Cg(t:TE):TO:=λσ H Q=>t σ H λx H1=>∃i,x= .int i/\Q (some i) H1
section
variable{X:Cx}{e:et}{te:TE}{lo hi:Option et}{tl th:TO}{pos p2:Pos}
theorem mT:PO X none GO:=by
 intro pins s σ H Q I h;rw[u5];exact aw ⟨none,H,I, .none,h⟩
theorem mH(h:PE X e te):PO X (some e) (Cg te):=by
 intro pins s σ H Q I hw;rw[evalPart_some];refine aP (h pins s σ H _ I hw) λu s1 ⟨x,H1,I1,C,J⟩=>?_;obtain⟨i,rfl,q⟩:=J;obtain⟨t,rfl⟩:=C;exact⟨some i,H1,I1, .int i t,q⟩
def CD(X:Cx)(r:V->Option Int->Option Int->Hp->VK->Prop):Prop:=
 ∀(pins:List (ax×Obj)) (s:ar) (σ:qg) (H:Hp) (x:V) (v c a:ag) (lo hi:Option Int) (sl:ax) (Q:VK),Inv X pins σ H s->RelV x v->s.heap.IsSliceOf sl c a .none->IsPart c lo->IsPart a hi->r x lo hi H Q->
  ∃T id,typeLookup (.type T) "__getitem__"=pure (some (.builtin id))/\s.TypeIs v T/\wpAny (be X.prog X.w) X.A (xn v (.ref sl)) (EP X pins σ Q) X.xe s
def se(r:V->Option Int->Option Int->Hp->VK->Prop)(te:TE)(tl th:TO):TE:=λσ H Q=>te σ H λx H1=>tl σ H1 λl H2=>th σ H2 λu H3=>r x l u H3 Q
theorem lZ{r:V->Option Int->Option Int->Hp->VK->Prop}(hr:CD X r)(he:PE X e te)(hl:PO X lo tl)(hu:PO X hi th):PE X (.Subscript e (.Slice lo hi none p2) pos) (se r te tl th):=by
 intro pins s σ H Q I h;refine Subscript_ (aP (he pins s σ H _ I h) λv s1 ⟨x,H1,I1,C,J⟩=>?_);refine wpAny_Slice (aP (hl pins s1 σ H1 _ I1 J) λc s2 ⟨l,H2,I2,pl,O⟩=>aP (hu pins s2 σ H2 _ I2 O) λa s3 ⟨u,H3,I3,d,Y⟩=>?_);rw[u5];refine aw ?_;have I4:Inv X pins σ H3 {s3 with heap:=s3.heap.push {cls:= .type "slice",data:= .fields #[c,a, .none]}}:=I3.kept (t':=s3.toks) λb ob q=>bW _ q;obtain⟨T,id,hT,ht,hg⟩:=hr pins {s3 with heap:=s3.heap.push {cls:= .type "slice",data:= .fields #[c,a, .none]}} σ H3 x v c a l u s3.heap.objs.size Q I4 C (yn ..) pl d Y;show wpAny (be X.prog X.w) X.A (mv e (.Slice lo hi none p2) v (.ref s3.heap.objs.size)) (EP X pins σ Q) X.xe {s3 with heap:=s3.heap.push {cls:= .type "slice",data:= .fields #[c,a, .none]}};exact tail_any (ops:=[.ref s3.heap.objs.size,v]) ht hT hg (by with_unfolding_all rfl)
noncomputable def k7(xs:List V)(lo hi:Option Int):List V:=(xs.drop (HT.eE xs.length 0 lo)).take (HT.eE xs.length xs.length hi-HT.eE xs.length 0 lo)
theorem Kk(xs:List V)(lo hi:Option Int):(k7 xs lo hi).length<=xs.length:=by
 unfold k7;rw[ly,rF];omega
end
noncomputable def ir(n:Nat)(i:Int):Option Nat:=if 0<=i then(if i<n then some i.toNat else none) else if-(n:Int)<=i then some (i+n).toNat else none
noncomputable def bC{α:Type}(xs:List α)(i:Int):Option α:=(ir xs.length i).bind λj=>xs[j]?
theorem Pg{n:Nat}{i:Int}{j:Nat}(h:ir n i=some j):seqIndex? i n=some j/\j<n/\ -(n:Int)<=i/\i<n:=by
 unfold ir at h;by_cases h0:0<=i
 .rw[if_pos h0] at h;by_cases h1:i<n
  .rw[if_pos h1] at h;have e:i.toNat=j:=jt h;exact⟨by rw[qp h0 h1,e],∅,∅,h1⟩
  .rw[if_neg h1] at h;cases h
 .rw[if_neg h0] at h;by_cases h1: -(n:Int)<=i
  .rw[if_pos h1] at h;have e:(i+n).toNat=j:=jt h;exact⟨by rw[seqIndex_neg ∅ h1,e],∅,h1,∅⟩
  .rw[if_neg h1] at h;cases h
theorem Et{α:Type}{xs:List α}{i:Int}{v:α}(h:bC xs i=some v):∃j,seqIndex? i xs.length=some j/\xs[j]?=some v/\j<xs.length/\ -(xs.length:Int)<=i/\i<xs.length:=by
  unfold bC at h;cases e:ir xs.length i with
  |none=>rw[e] at h;cases h
  | some j =>
    rw[e] at h;obtain⟨h1,h2,h3,h4⟩:=Pg e;exact⟨j,h1,h,h2,h3,h4⟩
theorem S5{α:Type}{xs:List α}{j:Nat}{v:α}(h:xs[j]?=some v):bC xs (j:Int)=some v:=by
 have hj:j<xs.length:=(bT.mp h).1;have e:ir xs.length (j:Int)=some j:=by
  unfold ir;rw[if_pos ∅,if_pos ∅];simp
 unfold bC;rw[e];exact h
def Wf(b:et):Prop:=∀o i,qr b false o i=operate [o,i] (xn o i)
def lI(X:Cx)(r:R2):Prop:=
 ∀(value a:et) (pins:List (ax×Obj)) (s:ar) (σ:qg) (H:Hp) (x y:V) (v u:ag) (Q:VK),Inv X pins σ H s->RelV x v->RelV y u->r x y H Q->
  qr a false v u=operate [v,u] (xn v u)->wpAny (be X.prog X.w) X.A (mv value a v u) (EP X pins σ Q) X.xe s
def pM(X:Cx)(id:String)(r:V->List V->Hp->VK->Prop):Prop:=
 ∀(pins:List (ax×Obj)) (s:ar) (σ:qg) (H:Hp) (x:V) (xs:List V) (v:ag) (us:List ag) (Q:VK),Inv X pins σ H s->RelV x v->Vals xs us->r x xs H Q->
  wpAny (be X.prog X.w) X.A (call (.builtin id) (v::us)) (EP X pins σ Q) X.xe s
section
variable{X:Cx}{a b:et}{ta tb:TE}{pos:Pos}
theorem lI.or{r r':R2}(h:lI X r)(h':lI X r'):lI X (λx y H Q=>r x y H Q\/r' x y H Q):=by
 intro value slice pins s σ H x y v u Q I rx ry q hs;rcases q with q|q
 .exact h value slice pins s σ H x y v u Q I rx ry q hs
 .exact h' value slice pins s σ H x y v u Q I rx ry q hs
theorem au{r:R2}(hr:lI X r)(ha:PE X a ta)(hb:PE X b tb)(hs:Wf b):PE X (.Subscript a b pos) (dM r ta tb):=by
 intro pins s σ H Q I h;exact Subscript_ (Dt ha hb I h λv u s2 x y H2 I2 g d q=>hr a b pins s2 σ H2 x y v u Q I2 g d q (hs _ _))
def bG(K:PySem.W.Frag):R2:=λx y H Q=>∃p xs i v,x= .ref p/\y= .int i/\aZ K H p xs/\bC xs i=some v/\Q v H
def aT(K:PySem.W.Frag):R2:=λx y H Q=>∃p xs i v,x= .ref p/\y= .int i/\dX K H p xs/\bC xs i=some v/\Q v H
def K9:R2:=λx y H Q=>∃z i c,x= .str z/\y= .int i/\z.length<=sizeLine/\bC z.cps.toList i=some c/\Q (.str ⟨#[c]⟩) H
theorem aX:lI X (bG X.K):=by
 intro value slice pins s σ H x y v u Q I rx ry h hs;obtain⟨p,xs,i,z,rfl,rfl,hq,he,q⟩:=h;cases rx;obtain⟨t,rfl⟩:=ry;obtain⟨its,r,pl,hz⟩:=I.list hq;obtain⟨j,h1,h2,h3,h4,h5⟩:=Et he;obtain⟨w,ew,c⟩:=r.get h2;have hl:=r.length;have hn:=pR;have fin:EP X pins σ Q w s:=⟨z,H,I,c,q⟩;by_cases h0:0<=i
 .have hj:i.toNat=j:=by
   rw[qp h0 h5] at h1;exact jt h1
  exact item_listR pl.isList h0 ∅ (by rw[hj];simpa using ew) fin hs
 .have hj:(i+(its.toArray.size:Int)).toNat=j:=by
   rw[seqIndex_neg ∅ h4] at h1;rw[dW,<-hl];exact jt h1
  exact lD (x:=w) pl.isList.typeIs nv.lookup
   (wpAny_getItem_list_neg (Q:=λr s'=>r=w/\EP X pins σ Q r s') pl.isList ∅ (by rw[dW]<;>omega) ∅ (by rw[hj];simpa using ew) ⟨rfl,fin⟩) hs
theorem aV:lI X (aT X.K):=by
 intro value slice pins s σ H x y v u Q I rx ry h hs;obtain⟨p,xs,i,z,rfl,rfl,hq,he,q⟩:=h;cases rx;obtain⟨t,rfl⟩:=ry;obtain⟨its,r,pl,hz⟩:=I.tuple hq;obtain⟨j,h1,h2,h3,h4,h5⟩:=Et he;obtain⟨w,ew,c⟩:=r.get h2;have hl:=r.length;have hn:=pR;have fin:EP X pins σ Q w s:=⟨z,H,I,c,q⟩
 exact lD (x:=w) pl.typeIs slot_tuple_getitem.lookup
  (getItem_tuple (j:=j) (Q:=λr s'=>r=w/\EP X pins σ Q r s') pl ∅ ∅ (by rw[dW,<-hl];exact h1) (by simpa using ew) ⟨rfl,fin⟩) hs
theorem FK:lI X K9:=by
 intro value slice pins s σ H x y v u Q I rx ry h hs;obtain⟨z,i,c,rfl,rfl,hz,he,q⟩:=h;obtain⟨t,rfl⟩:=rx;obtain⟨t',rfl⟩:=ry;obtain⟨j,h1,h2,h3,h4,h5⟩:=Et he;have hl:z.cps.toList.length=z.length:=by simp[eQ]
 rw[hl] at h1 h4 h5;have hn:=pR
 exact tail_any (j2 s z t) slot_str_getitem.lookup (getItem_str (c:=c) (by
  have e1:decide (i< -(2^63:Int))=false:=decide_eq_false ∅;have e2:decide (i≥2^63)=false:=decide_eq_false ∅;rw[e1,e2,p6]) (by rw[h1];simpa using h2) ⟨.str ⟨#[c]⟩,H,I.tok _,⟨_,rfl⟩,q⟩) hs
def wN(K:PySem.W.Frag):R2:=λx y H Q=>bG K x y H Q\/aT K x y H Q\/K9 x y H Q
theorem Pr:lI X (wN X.K):=aX.or (aV.or FK)
theorem Uy(its:List ag)(n j:Nat)(u:ag):el (·.setIfInBounds j u) {cls:= .type "list",data:= .seq its.toArray n}={cls:= .type "list",data:= .seq (its.set j u).toArray n}:=by
 simp[el]
theorem Inv.lst{pins:List (ax×Obj)}{σ:qg}{H:Hp}{s:ar}{p:ax}{xs:List V}(I:Inv X pins σ H s)(h:H p=some (.lst xs)):
  ∃(its:List ag) (n:Nat),Vals xs its/\s.heap.get? p=some {cls:= .type "list",data:= .seq its.toArray n}/\xs.length<=sizeLine:=by
 obtain⟨z,its,n,r,e⟩:=I.hok p _ h;exact⟨its,n,r,e,z⟩
theorem Inv.Xf{pins:List (ax×Obj)}{σ:qg}{H:Hp}{s:ar}{p:ax}{xs ys:List V}{its its':List ag}{n c:Nat}{f:Obj->Obj}(I:Inv X pins σ H s)(h:H p=some (.lst xs))
  (D:s.heap.get? p=some {cls:= .type "list",data:= .seq its.toArray n}) (hf:f {cls:= .type "list",data:= .seq its.toArray n}={cls:= .type "list",data:= .seq its'.toArray c}) (r:Vals ys its') (hz:ys.length<=sizeLine) (t:Nat):
  Inv X pins σ (upd H p (.lst ys)) {s with heap:=s.heap.update p f,toks:=t}:=by
 have e:(s.heap.update p f).get? p=some {cls:= .type "list",data:= .seq its'.toArray c}:=by
  rw[zp f D (by rw[hf]<;>rfl),hf]
 refine I.write (x:=p) (e:=p) (by rw[h];trivial) (.inl rfl) (λb u hb q=>(lW _ _ (cB hb)).trans q) ⟨_,e⟩ ?_;exact⟨hz,its',c,r,e⟩
def tF:V->V->V->Hp->(Hp->Prop)->Prop:=λo i v H Q=>∃p xs k j,o= .ref p/\i= .int k/\H p=some (.lst xs)/\ir xs.length k=some j/\Q (upd H p (.lst (xs.set j v)))
theorem set_list:Ht X tF:=by
 intro pins s σ H o i v ov iv u Q I ro ri rv h;obtain⟨p,xs,k,j,rfl,rfl,hp,hj,q⟩:=h;cases ro;obtain⟨t,rfl⟩:=ri;obtain⟨its,n,r,D,hz⟩:=I.lst hp;obtain⟨h1,h2,h3,h4⟩:=Pg hj;have hl:=r.length;have hn:=pR
 have b:Inv X pins σ (upd H p (.lst (xs.set j v))) {s with heap:=s.heap.update p (el (·.setIfInBounds j u))}:=
  I.Xf hp D (Uy its n j u) (r.set rv j) (by rw[jd];exact hz) s.toks
 by_cases h0:0<=k
 .have hk:k.toNat=j:=by
   rw[qp h0 h4] at h1;exact jt h1
  exact PySem.W.ki_setAt D h0 ∅ (by rw[dW,<-hl];exact h4) (by rw[hk];exact⟨_,b,q⟩)
 .have hk:(k+(its.toArray.size:Int)).toNat=j:=by
   rw[seqIndex_neg ∅ h3] at h1;rw[dW,<-hl];exact jt h1
  exact PySem.W.ki_setBack D ∅ (by rw[dW,<-hl];exact h3) ∅ (by rw[hk];exact⟨_,b,q⟩)
theorem Z3(lo hi:Option Int)(n:Nat):(gT lo hi none n).1=((HT.eE n 0 lo:Nat):Int)/\(gT lo hi none n).2.1=((HT.eE n n hi:Nat):Int)/\(gT lo hi none n).2.2=1:=by
  refine⟨?_,?_,rfl⟩
  · cases lo with
    |none=>simp[gT,HT.eE]
    | some i =>
      simp only[gT,HT.eE,pb,show(1:Int)>0 by decide,if_true];by_cases h:i<0;· simp only[h,if_true]<;>omega
      · simp only[h,if_false]<;>omega
  · cases hi with
    |none=>simp[gT,HT.eE]
    | some i =>
      simp only[gT,HT.eE,pb,show(1:Int)>0 by decide,if_true];by_cases h:i<0;· simp only[h,if_true]<;>omega
      · simp only[h,if_false]<;>omega
theorem S2(its:List ag)(lo hi:Option Int):slicePick its.toArray lo hi none=((its.drop (HT.eE its.length 0 lo)).take (HT.eE its.length its.length hi-HT.eE its.length 0 lo)).toArray:=by
 obtain⟨h1,h2,h3⟩:=Z3 lo hi its.toArray.size;unfold slicePick;rw[h1,h2,h3];simp only[sliceRange_one,pick_run,dW]<;>rfl
def kN(K:PySem.W.Frag):V->Option Int->Option Int->Hp->VK->Prop:=λx lo hi H Q=>∃a xs,x= .ref a/\aZ K H a xs/\∀p,H p=none->Q (.ref p) (upd H p (.lst (k7 xs lo hi)))
theorem nZ:CD X (kN X.K):=by
 intro pins s σ H x v vl vu lo hi sl Q I rx hs pl pu h;obtain⟨a,xs,rfl,hx,q⟩:=h;cases rx;obtain⟨its,r,ht,hz⟩:=I.list hx;have hlen:=r.length;refine⟨"list",_,nv.lookup,ht.isList.typeIs,?_⟩;refine wpAny_getItem_list_slice ht.isList hs pl pu .none (by simp) ?_ (by rw[dW]<;>omega);rw[S2,<-hlen];refine⟨.ref s.heap.objs.size,_,I.laid (t':=s.toks) (o:= .lst (k7 xs lo hi)) (λb ob q=>bW _ q) (aH _) ?_,rfl,q _ (I.hok.fresh (aH _))⟩;exact⟨eS (Kk xs lo hi) hz,_,0,(r.drop (HT.eE xs.length 0 lo)).take (HT.eE xs.length xs.length hi-HT.eE xs.length 0 lo),fT _ rfl⟩
theorem IP:fK X (.builtin "len") (λxs H Q=>∃p ys,xs=[.ref p]/\(aZ X.K H p ys\/dX X.K H p ys)/\Q (.int ys.length) H):=by
 intro pins s σ H xs us Q I r h;obtain⟨p,ys,rfl,hq,q⟩:=h;obtain⟨u,rfl,g⟩:=vals1 r;cases g;have hn:=pR;rcases hq with hq|hq
 .obtain⟨its,r',pl,hz⟩:=I.list hq;have hlen:=r'.length;exact Calls.call_len_list pl.isList (by simp only[dW]<;>omega) ⟨.int ys.length,H,I.tok _,⟨s.toks+1,by rw[dW,hlen]⟩,q⟩
 .obtain⟨its,r',pl,hz⟩:=I.tuple hq;have hlen:=r'.length;exact len_tuple pl (by simp only[dW]<;>omega) ⟨.int ys.length,H,I.tok _,⟨s.toks+1,by rw[dW,hlen]⟩,q⟩
theorem Xu:fK X (.builtin "len") (λxs H Q=>∃z,xs=[.str z]/\z.length<=sizeLine/\Q (.int z.length) H):=by
 intro pins s σ H xs us Q I r h;obtain⟨z,rfl,hz,q⟩:=h;obtain⟨u,rfl,t,rfl⟩:=vals1 r;have hn:=pR;exact len_str ∅ ⟨.int z.length,H,I.tok _,⟨_,rfl⟩,q⟩
theorem KI:fK X (.type "list") (λxs H Q=>∃p ys,xs=[.ref p]/\(aZ X.K H p ys\/dX X.K H p ys)/\∀l,H l=none->Q (.ref l) (upd H l (.lst ys))):=by
 intro pins s σ H xs us Q I r h;obtain⟨p,ys,rfl,hq,q⟩:=h;obtain⟨u,rfl,g⟩:=vals1 r;cases g
 have fin:∀(its:List ag),Vals ys its->ys.length<=sizeLine->∀(h':eC) (c':Nat),(∀b o',s.heap.get? b=some o'->h'.get? b=some o')->
   h'.get? s.heap.objs.size=some {cls:= .type "list",dict:=none,data:= .seq its.toArray c',slots:= #[]}->EP X pins σ Q (.ref s.heap.objs.size) {s with heap:=h'}:=λits r' hz h' c' kp e=>
  ⟨.ref s.heap.objs.size,_,I.laid (t':=s.toks) kp (aH _) (show c7 X.prog X.w _ h' _ (.lst ys) from⟨hz,its,c',r',e⟩),rfl,q _ (I.hok.fresh (aH _))⟩
 rcases hq with hq|hq
 .obtain⟨its,r',pl,hz⟩:=I.list hq;have hlen:=r'.length;obtain⟨o,D,hc,n,hd⟩:=pl.isList;exact u6 p (.inl rfl) D hc hd (λh' c' kp e=>fin its r' hz h' c' kp e) (by simp only[dW]<;>omega)
 .obtain⟨its,r',pl,hz⟩:=I.tuple hq;have hlen:=r'.length;obtain⟨o,D,hc,n,hd⟩:=pl;exact u6 p (.inr rfl) D hc hd (λh' c' kp e=>fin its r' hz h' c' kp e) (by simp only[dW]<;>omega)
def qH(K:PySem.W.Frag)(T:String)(x:V)(H:Hp):Prop:=match x with
 | .str _=>T="str"
 | .int _=>T="int"
 | .ref p => (T = "list" /\ ∃ xs, aZ K H p xs) \/ (T = "tuple" /\ ∃ o, K.lookup p = some o /\ o.cls = .type "tuple" /\ o.dict = none) \/
   (T="dict" /\((∃kvs,H p=some (.dK kvs))\/(∃kvs,H p=some (.dT kvs))\/∃o kvs,H p=some (.iF o (.dK kvs))))\/(T="set" /\∃S n,H p=some (.set S n))
 |_=>False
theorem Mw{pins:List (ax×Obj)}{σ:qg}{H:Hp}{s:ar}{T:String}{x:V}{v:ag}(I:Inv X pins σ H s)(r:RelV x v)(ty:qH X.K T x H):
    s.TypeIs v T/\∀a,v= .ref a->∃ob,s.heap.get? a=some ob/\ob.dict=none:=by
  cases x with
  | str z =>
    obtain⟨t,rfl⟩:=r;cases (show T="str" from ty);exact⟨j2 s z t,λ_ e=>nomatch e⟩
  | int i =>
    obtain⟨t,rfl⟩:=r;cases (show T="int" from ty);exact⟨typeIs_int s i t,λ_ e=>nomatch e⟩
  | ref p =>
    cases r;rcases ty with ⟨rfl,xs,hq⟩|⟨rfl,o,hk,hc,hd⟩|⟨rfl,hk⟩|⟨rfl,S,n,hk⟩
    · obtain⟨its,_,pl,_⟩:=I.list hq
      refine⟨pl.isList.typeIs,λa e=>?_⟩;cases e;obtain⟨o,n,e,c,hd,_⟩:=pl;exact⟨o,e,hd⟩
    · refine⟨⟨o,I.c9 p o hk,hc⟩,λa e=>?_⟩
      cases e;exact⟨o,I.c9 _ o hk,hd⟩
    · have z:∃o,s.heap.get? p=some o/\o.ExactDict:=by
        rcases hk with ⟨kvs,hk⟩|⟨kvs,hk⟩|⟨ob,kvs,hk⟩
        · obtain⟨_,_,_,_,o,_,_,e,ex,_⟩:=I.hok p _ hk
          exact⟨o,e,ex⟩
        · obtain⟨_,_,_,_,o,_,_,e,ex,_⟩:=I.hok p _ hk
          exact⟨o,e,ex⟩
        · obtain⟨_,_,_,_,_,o,_,_,e,ex,_⟩:=I.hok p _ hk
          exact⟨o,e,ex⟩
      obtain⟨o,e,ex⟩:=z;refine⟨⟨o,e,ex.1⟩,λa e2=>?_⟩;cases e2;exact⟨o,e,ex.2.1⟩
    · obtain⟨o,_,_,_,e,ex,_⟩:=I.hok p _ hk
      refine⟨⟨o,e,ex.1⟩,λa e2=>?_⟩;cases e2;exact⟨o,e,ex.2.1⟩
  |_=>exact eh ty
def Qp(K:PySem.W.Frag)(T:String)(r:V->List V->Hp->VK->Prop)(to:TE):TE:=λσ H Q=>to σ H λx H1=>qH K T x H1/\r x [] H1 Q
def lX(K:PySem.W.Frag)(T:String)(r:V->List V->Hp->VK->Prop)(to:TE)(t:TA):TE:=λσ H Q=>to σ H λx H1=>qH K T x H1/\t σ H1 λxs H2=>r x xs H2 Q
variable{o e:et}{es:List et}{to:TE}{t:TA}{name:Str}{apos cpos:Pos}{T id:String}{r:V->List V->Hp->VK->Prop}
theorem Df(i:PlainAttrs T)(slot:Slot T name id)(f:typeOf (.builtin id)=pure (.type "method_descriptor"))(hm:pM X id r)(D:PE X o to)
  (b:ky o name X.env (eval o X.env)=eval o X.env:=by rfl) (a:(apos.endLine==cpos.line)=true:=by rfl):PE X (.Call (.Attribute o name apos) [] [] cpos) (Qp X.K T r to):=by
 intro pins s σ H Q I h;refine wpAny_Call_method0_late b a (aP (D pins s σ H _ I h) λv s1 ⟨x,H1,I1,C,ty,J⟩=>?_);obtain⟨h1,h2⟩:=Mw I1 C ty;exact⟨T,id,i,slot,f,h1,h2,lL rfl (PySem.evalArgs_none (hm pins s1 σ H1 x [] v [] Q I1 C .nil J))⟩
theorem j8(i:PlainAttrs T)(slot:Slot T name id)(f:typeOf (.builtin id)=pure (.type "method_descriptor"))(hm:pM X id r)(D:PE X o to)(ha:PA X (e::es) t)
  (b:ky o name X.env (eval o X.env)=eval o X.env:=by rfl)
  (d : ((backTo cpos (starEach (e :: es) X.env)).all (λx => !x.1) && (backToKw cpos (keywordEach [] X.env)).all (λx => x.1.isSome)
   && decide ((e::es).length+([]:List Keyword).length+(if([]:List Keyword).isEmpty then 0 else 1)<30))=true:=by rfl)
  (a:(apos.endLine==cpos.line)=true:=by rfl) (hs:cm (e::es) X.env=(false,eval e X.env)::cm es X.env:=by rfl) (c:(lj cpos (cm es X.env)).any (·.1)=false:=by rfl):
  PE X (.Call (.Attribute o name apos) (e::es) [] cpos) (lX X.K T r to t):=by
 intro pins s σ H Q I h;refine wpAny_Call_method_late b d a rfl (aP (D pins s σ H _ I h) λv s1 ⟨x,H1,I1,C,ty,J⟩=>?_);obtain⟨h1,h2⟩:=Mw I1 C ty;refine⟨T,id,i,slot,f,h1,h2,?_⟩;have hA:=ha cpos pins s1 σ H1 _ I1 J;rw[hs] at hA⊢;refine lL (by show(false||(lj cpos (cm es X.env)).any (·.1))=false;rw[c]<;>rfl) (Calls.evalArgs_plain ?_);exact aP hA λus s2 ⟨vs,H2,I2,U,O⟩=>hm pins s2 σ H2 x vs v us Q I2 C U O
/-xs.append(e),list.index on a module's tuple .. are pM facts of 06m-/
end
def OG(X:Cx)(id:String)(r:V->List V->Hp->VK->Prop):Prop:=
 ∀(pins:List (ax×Obj)) (s:ar) (σ:qg) (H:Hp) (x:V) (xs:List V) (v:ag) (us:List ag) (Q:VK),Inv X pins σ H s->RelV x v->Vals xs us->r x xs H Q->
  wpAny (be X.prog X.w) X.A (call (.builtin id) (v::us)) (EP X pins σ Q) X.xe s
theorem Vals.one{x:V}{us:List ag}(h:Vals [x] us):∃u,us=[u]/\RelV x u:=by
 cases h with
 |cons r t=>cases t;exact⟨_,rfl,r⟩
theorem Vals.two{x y:V}{us:List ag}(h:Vals [x,y] us):∃u v,us=[u,v]/\RelV x u/\RelV y v:=by
  cases h with
  | cons r t =>
    obtain⟨v,e,q⟩:=Vals.one t;exact⟨_,v,by rw[e],r,q⟩
theorem Vals.dropLast{xs:List V}{us:List ag}(h:Vals xs us):Vals xs.dropLast us.dropLast:=by
  induction h with
  |nil=>exact .nil
  | cons r t ih =>
    cases t with
    |nil=>exact .nil
    |cons q t'=>exact .cons r ih
section
variable{X:Cx}{pins:List (ax×Obj)}{σ:qg}{H:Hp}{s:ar}{l b:ax}{xs ys zs:List V}
theorem Inv.PF{its its':List ag}{n:Nat}{f:Array ag->Array ag}{t':Nat}(I:Inv X pins σ H s)(p:H l=some (.lst xs))
  (e:s.heap.get? l=some {cls:= .type "list",data:= .seq its.toArray n}) (hf:f its.toArray=its'.toArray) (hv:Vals ys its') (hz:ys.length<=sizeLine):
  Inv X pins σ (upd H l (.lst ys)) {s with heap:=s.heap.update l (el f),toks:=t'}:=by
 have q:=PySem.IsL.update e f;rw[hf] at q;refine I.write (x:=l) (e:=l) (by rw[p];exact trivial) (.inl rfl) (λw u hb hu=>(lW s.heap (el f) (cB hb)).trans hu) ⟨_,q⟩ ?_;exact⟨hz,its',_,hv,q⟩
theorem Inv.Ma{its:List ag}{t':Nat}(I:Inv X pins σ H s)(hv:Vals ys its)(hz:ys.length<=sizeLine):
  Inv X pins σ (upd H s.heap.objs.size (.lst ys)) {s with heap:=s.heap.push {cls:= .type "list",data:= .seq its.toArray},toks:=t'}:=
 I.laid (λ_ _ q=>bW _ q) (aH _) ⟨hz,its,0,hv,fT _ rfl⟩
theorem Inv.fresh(I:Inv X pins σ H s):H s.heap.objs.size=none:=I.hok.fresh (aH _)
theorem Inv.qM(I:Inv X pins σ H s)(p:H l=some (.lst xs)):xs.length<=sizeLine/\∃(its:List ag) (n:Nat),Vals xs its/\xs.length=its.length/\s.heap.get? l=some {cls:= .type "list",data:= .seq its.toArray n}:=by
 obtain⟨z,its,n,r,e⟩:=I.hok l _ p;exact⟨z,its,n,r,r.length,e⟩
theorem Vf{n:Nat}(h:n<=sizeLine):fX n=false:=by
 unfold fX;exact decide_eq_false ∅
end
section
variable{X:Cx}
def D7:V->List V->Hp->VK->Prop:=λx vs H Q=>∃l xs y,x= .ref l/\vs=[y]/\H l=some (.lst xs)/\xs.length<sizeLine/\Q .aL (upd H l (.lst (xs++[y])))
theorem rj:OG X "list.append" D7:=by
 intro pins s σ H x vs v us Q I rx rv h;obtain⟨l,xs,y,rfl,rfl,p,hz,q⟩:=h;cases rx;obtain⟨u,rfl,ru⟩:=rv.one;obtain⟨z,its,n,r,hl,e⟩:=I.qM p;refine l6 ux ⟨_,e,rfl⟩ F.entry_list_append (F.args_list_append_2 _ _) (PySem.list_append l its.toArray n u (by rw[dW];omega)) ⟨e,?_⟩;refine⟨.aL,_,I.PF (its':=its++[u]) p e (by simp) (r.append (.cons ru .nil)) ?_,rfl,q⟩;rw[cK,jn];omega
def IV:V->List V->Hp->VK->Prop:=λx vs H Q=>∃l b xs zs,x= .ref l/\vs=[.ref b]/\H l=some (.lst xs)/\H b=some (.lst zs)/\xs.length+zs.length<=sizeLine/\Q .aL (upd H l (.lst (xs++zs)))
theorem RS:OG X "list.extend" IV:=by
 intro pins s σ H x vs v us Q I rx rv h;obtain⟨l,b,xs,zs,rfl,rfl,p,O,hz,q⟩:=h;cases rx;obtain⟨u,rfl,ru⟩:=rv.one;cases ru;obtain⟨z,its,n,r,hl,e⟩:=I.qM p;obtain⟨z2,a,n2,U,k,e2⟩:=I.qM O;have hsz:its.toArray.size+a.toArray.size<=sizeLine:=by rw[dW,dW];omega
 have c:¬(!its.toArray.isEmpty && fX (its.toArray.size+a.toArray.size))=true:=by
  rw[Vf hsz,Bool.and_false];exact cO
 refine l6 F.slot_list_extend ⟨_,e,rfl⟩ F.entry_list_extend (F.args_list_extend_2 _ _)
  (AutoSeq1.list_extend_list_list_0 l its.toArray n b a.toArray n2 c (by rw[dW];omega) ∅) ⟨e,e2,?_⟩
 refine⟨.aL,_,I.PF (its':=its++a) p e (by simp) (r.append U) ?_,rfl,q⟩;rw[cK];omega
def Cv:R2:=λx y H Q=>∃l b xs zs,x= .ref l/\y= .ref b/\H l=some (.lst xs)/\H b=some (.lst zs)/\xs.length+zs.length<=sizeLine/\∀p,H p=none->Q (.ref p) (upd H p (.lst (xs++zs)))
theorem p8:dQ X (kn .Add) Cv:=by
 intro pins s σ H x y v u Q I rx ry h;obtain⟨l,b,xs,zs,rfl,rfl,p,O,hz,q⟩:=h;cases rx;cases ry;obtain⟨z,its,n,r,hl,e⟩:=I.qM p;obtain⟨z2,a,n2,U,k,e2⟩:=I.qM O;refine PySem.P.add_list e e2 ?_ (by rw[dW,dW];omega);have ea:its.toArray++a.toArray=(its++a).toArray:=by simp
 rw[ea];exact⟨.ref _,_,I.Ma (t':=s.toks) (r.append U) (by rw[cK];omega),rfl,q _ I.fresh⟩
end
end L2
namespace Att
open PySem PySem.W PySem.Calls PyProof.Rows
theorem VD{P:Params}{h:eC}:∀(ns:List Int) (vs:List ag),WellAll P h vs (ns.map zF)->en vs ns:=by
  intro ns;induction ns with
  | nil =>
    intro vs w;rw[mP] at w;cases w;exact .nil
  | cons n ns ih =>
    intro vs w;rw[bN] at w;cases w with
    | cons a b =>
      cases a;exact .cons _ _ (ih _ b)
theorem Up{l:OpenLaw}{n:Nat}(hn:l.most=some n){P:Params}{h:eC}{args:List WData}{j:List ag}
    (b:l.row.toRowW.claim.pre args=true) (hwl:WellAll P h j args):
    ∃a vs ns,j=[c3 a]/\args=[WData.list (ns.map zF)]/\h.get? a=some {cls:= .type "list",data:= .seq vs.toArray}/\en vs ns/\ns.length<=n:=by
  have c:WShape.hasAll [] args [.list .int]=true:=(pre_splitW b).1;have hc:l.pre.holds [] {args:=args}=true:=(pre_splitW b).2;obtain⟨d,r,rfl,h1,h2⟩:=hasAllW_cons c;obtain rfl:=hasAllW_nil h2;obtain⟨xs,rfl,h3⟩:=hasW_list h1;obtain⟨ns,rfl⟩:=items_int h3;have hlen:ns.length<=n:=by
    unfold OpenLaw.pre at hc;have h4:(WTm.not (.lt (.lit (.int (n:Int))) (.len (.arg 0)))).holds [] {args:=[.list (ns.map .int)]}=true:=by
      have h4:=(holds_andW hc).1;rw[hn] at h4;exact h4
    have h5:=condW_of h4 (w_not (w_lt w_lit (w_len_list (w_arg rfl))));rw[ak] at h5;refine EL λq=>?_;have B:(n:Int)<((ns.length:Nat):Int):=∅
    first
      |(rw[decide_eq_true B] at h5;exact absurd h5 ⋯)
      |(simp at h5;omega)
  cases hwl with
  | cons S L =>
    cases L;cases S with
    |list D k=>exact⟨_,_,ns,rfl,rfl,D,VD ns _ k,hlen⟩
theorem ZD(l:OpenLaw)(args:List WData):l.row.toRowW.claim.post args (.bool true) args=true:=
 postW_of (r:=l.row.toRowW) (X:=(true==true))
  (show y3 [] (.bool true) .bool=true by first|rfl|decide|simp[y3,WShape.arms,WShape.armsAll])
  (show(WTm.eq .res (.lit (.bool true))).value [] {args:=args,res:=some (.bool true),after:=args}=some (.bool (true==true)) from w_eq_bool (w_res rfl) w_lit) rfl
theorem F4{l:OpenLaw}{n:Nat}{q:bg}{c:List Str}{B:(Str->Option ag)->eC->Prop}{A:cq->eC->Prop}{d:DefRec}
  (hn:l.most=some n) (y:d.params.defaults=[])
  (call : ∀ (w : World) (s₀ s₁ : Shared) (mg mb : Str -> Option Value) (i : Addr) (o : Obj) (pm t doc : Value) (a : Addr) (vs : List Value) (ns : List Int),
   Ground q c [] B w s₀ mg mb s₁.heap->A w s₁.heap->
   s₁.heap.get? i=some o->o.data= .func (docDef d.name d.params d.body d.scope pm t doc)->s₁.heap.CodeRec t d.name->mg d.name=some (.ref i)->
   s₁.heap.get? a=some {cls:= .type "list",data:= .seq vs.toArray}->en vs ns->ns.length<=n->s₁.gens= #[]->
   codeAny (be l.prog w) nz (.call (.ref i) ⟨[.ref a],[]⟩) (λr s'=>r= .ok (.ret (.bool true))/\OldK s₁.heap s'.heap/\s'.os=s₁.os/\l1 s'.gens) s₁):
  WalkO q c B A l.row.toRowW d [] (λf vs=>PySem.call f vs):=by
 intro w s₀ s₁ mg mb G Y i o pm t doc dV kV ho hd hcd hD hmg hg args vals as hpre hlay hrd hwl hlo;obtain rfl:dV= .none:=Dflts.none hD y;obtain rfl:kV= .none:=Dflts.noKw hD;obtain⟨a,vs,ns,rfl,rfl,z,p,hlen⟩:=Up hn hpre hwl;refine enter_call (hF (call w s₀ s₁ mg mb i o pm t doc a vs ns G Y ho (fd_plain hd) hcd hmg z p hlen hg) λr s' hq=>?_);obtain⟨rfl,h2,h3,h4⟩:=hq;exact⟨.inl ⟨.bool true, .bool true,[],rfl,λ_=>rfl, .bool true,ZD l _,λ_=>⟨y4,λ_ hm=>(nomatch hm)⟩⟩,h2,h3,h4⟩
section
variable{prog:bg}{w:cq}{A:cx}{E:ag->ar->Prop}{s:ar}{K:Frag}
end
end Att
namespace L2
theorem JQ:∀{vs:List ag} {ns:List Int},en vs ns->Vals (ns.map V.int) vs
 |_,_, .nil=> .nil
 |_,_, .cons n t h=> .cons ⟨t,rfl⟩ (JQ h)
def Ds(H:Hp):Prop:=∀b,H b=none\/∃o xs,H b=some (.iF o (.lst xs))
theorem NM{P:bg}{w:cq}{K:PySem.W.Frag}{mg mb:Str->Option ag}{CX:lg}{k:Nat}{i a:ax}{fd:ft}{x:Str}{sp:Sp}{s₁:ar}{vs:List ag}{ns:List Int}
    (KX:K.In s₁.heap) (j:s₁.heap.Ns bj mg) (hb:s₁.heap.Ns ts mb) (vV:∀x:Str,x≠"__name__" ->mb x=g5 x) (f:s₁.heap.NoLimit) (hg:s₁.gens= #[])
    (ha:s₁.heap.get? a=some {cls:= .type "list",data:= .seq vs.toArray}) (hi:en vs ns) (hl:ns.length<=sizeLine) (hr:dY k nz)
    (F:∀base:eC,K.In base->base.Ns bj mg->aW P w K mg base CX k i fd [x] sp) (c:∀(s:ar) (u:ag),qk s fd ⟨[u],[]⟩ [(x,u)])
    (C:∀H:Hp,Ds H->aZ K H a (ns.map V.int)->sp [.ref a] H (λv _=>v= .bl true) λ_ _ _=>False)
    (E:∀H e s',CX [] H s₁ (λ_ _ _=>False) e s'->False):
    codeAny (be P w) nz (.call (.ref i) ⟨[.ref a],[]⟩) (λr s'=>r= .ok (.ret (.bool true))/\OldK s₁.heap s'.heap/\s'.os=s₁.os/\l1 s'.gens) s₁:=by
  have rv:=JQ hi;have QH:=hi.length
  have core:∀H:Hp,Ds H->aZ K H a (ns.map V.int)->dR P w H s₁.heap->(∀b,H b≠none->b=a)->(H a≠none->K.lookup a=none)->
      codeAny (be P w) nz (.call (.ref i) ⟨[.ref a],[]⟩) (λr s'=>r= .ok (.ret (.bool true))/\OldK s₁.heap s'.heap/\s'.os=s₁.os/\l1 s'.gens) s₁:=by
    intro H hO hS hok hA hK;have t:∀{b:ax} {o:Obj},s₁.heap.get? b=some o->H b=none->(mV s₁.heap H).get? b=some o:=λe n=>YC e n;have g:∀{b:ax} {o:Obj} {es:Array DictEntry} {ep:Nat},s₁.heap.get? b=some o->o.data= .dict es ep->H b=none:=λ{b o es ep} e d=>by
      cases q:H b with
      |none=>rfl
      | some u =>
        have e':b=a:=hA b (by rw[q];simp);subst e';rw[ha] at e;cases e
        have d':Data.seq vs.toArray _=Data.dict es ep:=d;cases d'
    have l:∀{b:ax} {m:Str->Option ag},s₁.heap.Ns b m->(mV s₁.heap H).Ns b m:=λ{b m} ⟨o,es,ep,e,d,r⟩=>⟨o,es,ep,t e (g e d),d,r⟩
    have y:K.In (mV s₁.heap H):=λb o e=>t (KX b o e) (by
      cases q:H b with
      |none=>rfl
      | some u =>
        have e':b=a:=hA b (by rw[q];simp);subst e';rw[hK (by rw[q];simp)] at e;cases e)
    have A:Mod K mg (mV s₁.heap H):=⟨y,l j,⟨mb,l hb,vV⟩,let ⟨D,h1,h2⟩:=f;⟨D,l h1,h2⟩⟩;have R:pK P w K mg (mV s₁.heap H) nz [] s₁ H:=⟨rfl,A,λb o e=>Gj e,nU (FV _ _),trivial,λb hb=>absurd (show b∈([]:List ax) from hb) (by simp),hok, .of_eq hg⟩;refine hF ((F _ y (l j)).run nz [] s₁ H ⟨[.ref a],[]⟩ [.ref a] [.ref a] _ _ hr R (c s₁ (.ref a)) (.cons rfl .nil) (C H hO hS)) λr s' h=>?_;cases r with
    |error e=>exact(E H e s' h).elim
    | ok fl =>
      cases fl with
      |next=>exact eh h
      |brk=>exact eh h
      |cont=>exact eh h
      | ret u =>
        obtain⟨v,H',os,bare,un,p,r',q⟩:=h;have B:v= .bl true:=q;subst B;obtain rfl:u=l5 true:=r';refine⟨rfl,OldK.of_keep λb o e=>?_,os,bare⟩;cases q:H b with
        |none=>exact un.keep b o e q (by intro z;exact absurd (show b∈([]:List ax) from z) (by simp)) (by simp)
        | some u =>
          rcases hO b with z|⟨ob,xs,z⟩
          · rw[q] at z;cases z
          · have z2:=un.l9 b ob _ z
            obtain⟨e1,_⟩:=hok b _ z;obtain⟨e2,_⟩:=p b _ z2;rw[e] at e1;cases e1
            exact e2
  cases hk:K.lookup a with
  | some o =>
    have e:=KX a o hk;rw[ha] at e;cases e;refine core (λ_=>none) (λ_=> .inl rfl) (.inr ⟨_,vs.toArray,_,hk,rfl,rfl,rfl,by rw[dW,QH];exact hl,by simpa using rv⟩) (λb u z=>by have z':(none:Option HO)=some u:=z;cases z') (λb z=>absurd rfl z) λz=>absurd rfl z
  | none =>
    refine core (λb=>if b=a then some (.iF {cls:= .type "list",data:= .seq vs.toArray} (.lst (ns.map V.int))) else none) (λb=>?_) (.inl (.inr ⟨{cls:= .type "list",data:= .seq vs.toArray},if_pos rfl⟩)) (λb u z=>?_) (λb z=>?_) λ_=>hk
    · by_cases hb:b=a
      · exact .inr ⟨_,_,if_pos hb⟩
      · exact .inl (if_neg hb)
    · by_cases hb:b=a
      · have z':=(if_pos hb).symm.trans z
        cases z';subst hb;exact⟨ha,by rw[ak];exact hl,vs,_,rv,ha⟩
      · have z':=(if_neg hb).symm.trans z
        cases z'
    · by_cases hb:b=a
      · exact hb
      · exact absurd (if_neg hb) z
theorem GU{l:PySem.W.OpenLaw}{n k:Nat}{q:bg}{c:List Str}{B:(Str->Option ag)->eC->Prop}{A:cq->eC->Prop}{d:DefRec}{K:Params->PySem.W.Frag}{CX:cq->lg}{sp:cq->Sp}{x:Str}
  (hn:l.most=some n) (m:n<=sizeLine) (y:d.params.defaults=[]) (hr:dY k nz)
  (Z:∀(w:cq) (h:eC),A w h->(K w.params).In h)
  (F : ∀ (w : World) (mg : Str -> Option Value) (i : Addr) (h : Heap), (K w.params).In h -> h.Ns mainGlobals mg -> mg d.name = some (.ref i) ->
   ∃fd:ft,(∀(s:ar) (u:ag),qk s fd ⟨[u],[]⟩ [(x,u)])/\
    ∀base:eC,(K w.params).In base->base.Ns bj mg->aW l.prog w (K w.params) mg base (CX w) k i fd [x] (sp w))
  (C:∀(w:cq) (H:Hp) (a:ax) (ns:List Int),ns.length<=n->Ds H->aZ (K w.params) H a (ns.map V.int)->sp w [.ref a] H (λv _=>v= .bl true) λ_ _ _=>False)
  (E:∀(w:cq) (H:Hp) (s:ar) (e:ag) (s':ar),CX w [] H s (λ_ _ _=>False) e s'->False):
  PySem.W.WalkO q c B A l.row.toRowW d [] (λf vs=>PySem.call f vs):=by
 refine Att.F4 hn y λw s₀ s₁ mg mb i o pm t doc a vs ns G Y D hd j r z p hlen hg=>?_;have KX:=Z w _ Y;obtain⟨fd,hb,M⟩:=F w mg i _ KX G.T.g r;exact NM KX G.T.g G.T.b G.T.builtins G.T.nolimit hg z p (eS hlen m) hr M hb (λH I U=>C w H a ns hlen I U) λH e s'=>E w H s₁ e s'
end L2
/-THE LAST THEOREM (shape;LID,My.*are yours):
   My.Adr:a structure of the addresses that your layer names (classes,functions);My.Txt K t:a structure (Prop) of the equations over K;
   My.txt_mk:{K} {implicit addresses ..} (e1:nsIn K bj "law"=some (some (.ref f))) (e2:K.lookup f=some ⟨oc,od, .func (fnOf "law" "law" params body scope dV kV doc pm an cdv ct),sl⟩) (e3:codeIn K cdv "law"=true) .. :∃t,My.Txt K t
(the tactic k_is has no namespace:write k_is)-/
namespace L2
noncomputable def inClass(s:fb)(j:Nat):fb:=match s with
 | .ClassDef _ _ _ a _ _ _ _ _ _ _=>a.getD j (.Pass ⟨0,0,0,0⟩)
 |_=> .Pass ⟨0,0,0,0⟩
noncomputable def kT(s:fb):Arguments:=match s with
 | .FunctionDef _ a _ _ _ _ _ _ _ _=>a
 |_=>{posonlyargs:=[],args:=[],vararg:=none,kwonlyargs:=[],kw_defaults:=[],kwarg:=none,defaults:=[]}
noncomputable def jZ(s:fb):List fb:=match s with
 | .FunctionDef _ _ b _ _ _ _ _ _ _=>b
 |_=>[]
noncomputable def aE(s:fb):kl:=match s with
 | .FunctionDef _ _ _ _ _ _ sc _ _ _=>sc
 |_=>{kind:= .function,names:=[],isGenerator:=false,isCoroutine:=false}
abbrev bu:lg:=λ_ _ _ _ _ _=>False
abbrev E0:XK:=λ_ _ _=>False
theorem Af{X:Cx}:Passes bu X E0:=λ_ _ _ _ _ _ _ h=>h.elim
structure bA(K:PySem.W.Frag)(x qual:Str)(st:fb)(f:ax)(fd:ft):Prop where
 ex:∃(oc:ag) (od:Option ax) (kV doc pm:ag) (an:Option ax) (cdv ct:ag) (osl:Array (Option ag)),
  fd=PySem.W.fnOf x qual (kT st) (jZ st) (aE st) .none kV doc pm an cdv ct/\K.lookup f=some ⟨oc,od, .func fd,osl⟩/\PySem.W.codeIn K cdv qual=true
 kp:PySem.W.keepIn K (.ref f)=true
section
variable{P:bg}{w:cq}{K:PySem.W.Frag}{mg:Str->Option ag}{base:eC}
theorem bA.ok{x qual:Str}{st:fb}{f:ax}{fd:ft}{N ps:List Str}{k:Nat}{sp:Sp}(F:bA K x qual st f fd)(S:bH N ps (aE st))(len:∀vs H Q E,sp vs H Q E->vs.length=ps.length)
  (c : ∀ (cdv : Value) (A : Around) (outer : List Env) (s : Shared) (H : Hp) (vs : List V) (Q : VK) (E : XK), dY k (A.deeper (envOfC qual (aE st) s.heap.objs.size f cdv)) -> sp vs H Q E ->
   ∃t,jN (qW bu P w K mg base N qual (aE st) f cdv A outer s H E).z9 (jZ st) t/\t {nx:=λ_ H'=>Q .aL H',rt:=Q} (start N vs) H):aW P w K mg base bu (k+1) f fd ps sp:=by
 obtain⟨oc,od,kV,doc,pm,an,cdv,ct,osl,rfl,lk,j⟩:=F.ex;refine TM lk j S len λA outer s H vs Q E hr C=>?_;obtain⟨t,h,q⟩:=c cdv A outer s H vs Q E hr C;exact⟨t,h.z9,q⟩
theorem bA.binds{x qual:Str}{st:fb}{f:ax}{fd:ft}{ps:List Str}(F:bA K x qual st f fd)
  (h:∀(kV doc pm:ag) (an:Option ax) (cdv ct:ag) (us:List ag),us.length=ps.length->bindArgs (PySem.W.fnOf x qual (kT st) (jZ st) (aE st) .none kV doc pm an cdv ct) ⟨us,[]⟩=pure (ps.zip us)):Binds K fd ps []:=by
 obtain⟨oc,od,kV,doc,pm,an,cdv,ct,osl,rfl,lk,j⟩:=F.ex;exact .all (h kV doc pm an cdv ct)
theorem qI{x qual:Str}{st:fb}{f:ax}{oc:ag}{od an:Option ax}{osl:Array (Option ag)}{kV doc pm cdv ct:ag}(l:K.lookup f=some ⟨oc,od, .func (PySem.W.fnOf x qual (kT st) (jZ st) (aE st) .none kV doc pm an cdv ct),osl⟩)
  (c:PySem.W.codeIn K cdv qual=true) (k:PySem.W.keepIn K (.ref f)=true):bA K x qual st f (PySem.W.fnOf x qual (kT st) (jZ st) (aE st) .none kV doc pm an cdv ct):=⟨⟨oc,od,kV,doc,pm,an,cdv,ct,osl,rfl,l,c⟩,k⟩
end
theorem Ja{n:Nat}(h:n<=1000):n<sizeLine:=zJ h ⋯
section
variable{X:Cx}
theorem pv(i:Nat){x:Str}{pos:Pos}(hN:X.N[i]?=some x:=by rfl)(hv:Bc X.env.scope x:=by first|exact ay rfl|exact ei (ay rfl)|exact ei (ei rfl))(hd:(x==("__debug__":Str))=false:=by decide)
  (j:(x==("__classdict__":Str))=false:=by decide):PE X (.Name x pos) (cH i):=MI hN hv hd j
end
theorem Km{A B:Prop}(h:B):if false=true then A else B:=by
 rw[if_neg cO];exact h
theorem zH{A B:Prop}(h:A):if true=true then A else B:=by
 rw[if_pos rfl];exact h
theorem sf{c A B:Prop}[Decidable c](h1:c->A)(h2:¬c->B):if c then A else B:=by
 by_cases h:c
 .rw[if_pos h];exact h1 h
 .rw[if_neg h];exact h2 h
def cA(H H':Hp):Prop:=∀b o,H b=some o->H' b=some o
theorem cA.refl(H:Hp):cA H H:=λ_ _ h=>h
theorem cA.trans{H H1 H2:Hp}(a:cA H H1)(b:cA H1 H2):cA H H2:=λc o h=>b c o (a c o h)
theorem cA.free{H H':Hp}(e:cA H H'){l:ax}(h:H' l=xp):H l=xp:=by
  cases q:H l with
  |none=>rfl
  | some o =>
    rw[e l o q] at h;cases h
theorem cA.seq{K:PySem.W.Frag}{H H':Hp}{a:ax}{xs:List V}(e:cA H H')(h:aZ K H a xs):aZ K H' a xs:=by
 rcases h with (h|⟨o,h⟩)|h
 .exact .inl (.inl (e _ _ h))
 .exact .inl (.inr ⟨o,e _ _ h⟩)
 .exact .inr h
noncomputable def jA(cells:List (Str×ax)):List (Str×fv)->List (Str×ax)->List (Str×ax)
 |[],acc=>acc
 |(n,k)::r,acc=>jA cells r (if k==c4 then(match cells.lookup n with|some a=>(n,a)::acc|none=>acc) else acc)
theorem C3{env:Env}{f:Str×fv->List (Str×ax)->Sem (ForInStep (List (Str×ax)))}
    (hf:∀x acc,f x acc=if(x.2==c4)=true then(do let a<-cellOf env x.1;pure (dc ((x.1,a)::acc))) else pure (dc acc)):
    ∀(l:List (Str×fv)) (acc:List (Str×ax)),(∀x∈l,x.2= .free->∃a,env.cells.lookup x.1=some a)->(forIn l acc f:Sem (List (Str×ax)))=pure (jA env.cells l acc)
  |[],acc,_=>by rw[List.forIn_nil];rfl
  | (n, k) :: r, acc, h => by
    have hr:=λx hx=>h x (cS _ hx);rw[List.forIn_cons,hf];by_cases hk:(k==c4)=true
    · have c:k=c4:=by simpa using hk
      obtain⟨a,ha⟩:=h (n,k) dj c;have hc:cellOf env n=pure a:=by unfold cellOf;rw[ha]
      rw[if_pos hk,hc];show(forIn r ((n,a)::acc) f:Sem (List (Str×ax)))=pure (jA env.cells r _);rw[C3 hf r _ hr,if_pos hk,ha]
    · rw[if_neg hk]
      show(forIn r acc f:Sem (List (Str×ax)))=pure (jA env.cells r _);rw[C3 hf r _ hr,if_neg hk]
theorem Zw{scope:kl}{env:Env}(h:∀x∈scope.names,x.2= .free->∃a,env.cells.lookup x.1=some a):closureFor scope env=pure (jA env.cells scope.names []):=by
 simp only[closureFor];rw[C3 (env:=env) (λ⟨n,k⟩ acc=>by dsimp only) scope.names [] h]
 rfl
theorem ET{cells:List (Str×ax)}:∀{l:List (Str×fv)} {acc:List (Str×ax)} {x:Str} {c:ax},(∀y d,acc.lookup y=some d->cells.lookup y=some d)->(jA cells l acc).lookup x=some c->cells.lookup x=some c
  |[],_,_,_,ha,h=>ha _ _ h
  | (n, k) :: r, acc, x, c, ha, h => by
    refine ET (l:=r) ?_ h;intro y d hd;by_cases hk:(k==c4)=true
    · rw[if_pos hk] at hd
      cases q:cells.lookup n with
      |none=>rw[q] at hd;exact ha _ _ hd
      | some a =>
        rw[q] at hd;by_cases hy:(y==n)=true
        · have b:y=n:=by simpa using hy
          subst b;simp[bJ] at hd;rw[q,hd]
        · have b:(y==n)=false:=by simpa using hy
          simp only[bJ,b] at hd;exact ha _ _ hd
    · rw[if_neg hk] at hd;exact ha _ _ hd
theorem Oq{cells:List (Str×ax)}:∀{l:List (Str×fv)} {acc:List (Str×ax)} {x:Str},(acc.lookup x).isSome=true->((jA cells l acc).lookup x).isSome=true
  |[],_,_,h=>h
  | (n, k) :: r, acc, x, h => by
    refine Oq (l:=r) ?_;by_cases hk:(k==c4)=true
    · rw[if_pos hk]
      cases q:cells.lookup n with
      |none=>exact h
      | some a =>
        by_cases hy:(x==n)=true;· simp[bJ,hy]
        · have b:(x==n)=false:=by simpa using hy
          simp only[bJ,b];exact h
    · rw[if_neg hk];exact h
theorem Mj{cells:List (Str×ax)}:∀{l:List (Str×fv)} {acc:List (Str×ax)} {x:Str} {a:ax},(x,c4)∈l->cells.lookup x=some a->((jA cells l acc).lookup x).isSome=true
  |[],_,_,_,h,_=>nomatch h
  | (n, k) :: r, acc, x, a, h, hc => by
    rcases aK.mp h with e|h
    · obtain⟨rfl,rfl⟩:=Prod.mk.inj e
      refine Oq (l:=r) ?_;rw[if_pos ⋯,hc];simp[bJ]
    · exact Mj (l:=r) h hc
theorem IF{cells:List (Str×ax)}{l:List (Str×fv)}{x:Str}{a:ax}(h:(x,c4)∈l)(hc:cells.lookup x=some a):(jA cells l []).lookup x=some a:=by
 obtain⟨c,e⟩:=CZ.mp (Mj (acc:=[]) h hc);have:=ET (λy d (q:([]:List (Str×ax)).lookup y=some d)=>by simp at q) e;rw[hc] at this;cases this
 exact e
theorem GL{env:Env}:∀{l:List (Str×fv)} {x:Str} {k:fv},(∀y∈l,y.2≠ .cell)->
    (l.map λ(n,k)=>if(k==c4 && env.scope.kind== .function && env.kindOf n==some .cell) then(n,mx) else(n,k)).lookup x=some k->k= .cell\/k= .free->l.lookup x=some .free
  |[],_,_,_,h,_=>by simp at h
  | (n, q) :: r, x, k, hc, h, hk => by
    have hr:=λy hy=>hc y (cS _ hy);have ih:=GL (env:=env) (l:=r) (x:=x) (k:=k) hr;rw[bN] at h;dsimp only at h;by_cases hx:(x==n)=true
    · simp only[bJ,hx]
      by_cases hq:(q==c4 && env.scope.kind== .function && env.kindOf n==some .cell)=true
      · have:q= .free:=by
          simp only[eY] at hq;simpa using hq.1.1
        rw[this]
      · rw[if_neg hq] at h
        simp only[bJ,hx] at h;have a:q=k:=jt h;rcases hk with e|e
        · exact absurd (a.trans e) (hc (n,q) dj)
        · rw[a,e]
    · have M:(x==n)=false:=by simpa using hx
      simp only[bJ,M];refine ih ?_ hk;by_cases hq:(q==c4 && env.scope.kind== .function && env.kindOf n==some .cell)=true
      · rw[if_pos hq] at h
        simp only[bJ,M] at h;exact h
      · rw[if_neg hq] at h
        simp only[bJ,M] at h;exact h
theorem MQ{env:Env}:∀{l:List (Str×fv)} {x:Str},l.lookup x=some .free->
    (l.map λ(n,k)=>if(k==c4 && env.scope.kind== .function && env.kindOf n==some .cell) then(n,mx) else(n,k)).lookup x=some .cell\/
    (l.map λ(n,k)=>if(k==c4 && env.scope.kind== .function && env.kindOf n==some .cell) then(n,mx) else(n,k)).lookup x=some .free
  |[],_,h=>by simp at h
  | (n, q) :: r, x, h => by
    have ih:=MQ (env:=env) (l:=r) (x:=x);rw[bN];dsimp only;by_cases hx:(x==n)=true
    · simp only[bJ,hx] at h
      by_cases hq:(q==c4 && env.scope.kind== .function && env.kindOf n==some .cell)=true
      · rw[if_pos hq]
        left
        simp only[bJ,hx]
      · rw[if_neg hq]
        right
        simp only[bJ,hx];exact h
    · have M:(x==n)=false:=by simpa using hx
      simp only[bJ,M] at h;have:=ih h;by_cases hq:(q==c4 && env.scope.kind== .function && env.kindOf n==some .cell)=true
      · rw[if_pos hq]
        simp only[bJ,M];exact this
      · rw[if_neg hq]
        simp only[bJ,M];exact this
noncomputable def dO(sx:kl)(NX:List Str)(scope:kl)(N:List Str)(mp:List (Option Nat)):Bool:=
 (scope.kind== .function) && scope.names.all (λy=>y.2 != .cell) && scope.names.all (λy=>y.2 != .local||scope.names.lookup y.1==some .local) &&
 scope.names.all (λy=>y.2 != .free||sx.names.lookup y.1==some .cell||sx.names.lookup y.1==some .free) &&(mp.length==N.length) &&
 ((N.zip mp).all λp=>match p.2 with|none=>true|some j=>NX[j]?==some p.1 && scope.names.lookup p.1==some .free)
structure dw(sx:kl)(NX:List Str)(scope:kl)(N:List Str)(mp:List (Option Nat)):Prop where
 kind:scope.kind= .function
 cell:∀y∈scope.names,y.2≠ .cell
 names:∀y∈scope.names,y.2= .local->scope.names.lookup y.1=some .local
 free:∀y∈scope.names,y.2= .free->sx.names.lookup y.1=some .cell\/sx.names.lookup y.1=some .free
 len:mp.length=N.length
 look:∀(i j:Nat) (x:Str),mp[i]?=some (some j)->N[i]?=some x->NX[j]?=some x/\scope.names.lookup x=some .free
theorem dw.of{sx:kl}{NX:List Str}{scope:kl}{N:List Str}{mp:List (Option Nat)}(h:dO sx NX scope N mp=true):dw sx NX scope N mp:=by
 unfold dO at h;simp only[eY,qv] at h;obtain⟨⟨⟨⟨⟨h1,h2⟩,h3⟩,h4⟩,h5⟩,p⟩:=h;refine⟨by simpa using h1,λy hy=>by simpa using h2 y hy,λy hy e=>?_,λy hy e=>?_,by simpa using h5,λi j x e1 e2=>?_⟩
 .have:=h3 y hy;simpa[e] using this
 .have:=h4 y hy;simpa[e] using this
 .have hm:(x,some j)∈N.zip mp:=by
   have:(N.zip mp)[i]?=some (x,some j):=by
    rw[List.getElem?_zip_eq_some];exact⟨e2,e1⟩
   exact fQ this
  have:=p _ hm;simpa using this
noncomputable def fU(mp:List (Option Nat))(σ:qg):qg:=mp.map λo=>match o with|none=>none|some j=>match σ[j]? with|some v=>v|none=>none
noncomputable def jL(X:Cx)(scope:kl)(C:ax)(N:List Str)(s₀:ar)(H₀:Hp)(fp:List ax):Cx:=
 {X with N:=N,s₀:=s₀,H₀:=H₀,env:=yB scope (jA X.env.cells scope.names []) C X.env,outer:=X.stack,ex:=fp,fn:=λ_=>false,pn:=[],xe:=λ_ _=>False}
def tV(X:Cx)(B:List et)(t:TT):Prop:=
 ∀(pins:List (ax×Obj)) (s:ar) (σ:qg) (H:Hp) (Q:Bool->Hp->Prop),Inv X pins σ H s->t σ H Q->
  wpAny (be X.prog X.w) X.A (forIn B true λc r=>if r=true then do let ok<-isTrue c X.env (eval c X.env);pure (dc ok) else pure (dc r)) (TP X pins σ Q) X.xe s
def r6:TT:=λ_ H Q=>Q true H
theorem gM{X:Cx}:tV X [] r6:=λpins s σ H Q I h=>wpAny_tests_nil ⟨H,I,h⟩
theorem mz{X:Cx}{c:et}{t:TT}(h:PT X c t):tV X [c] t:=λpins s σ H Q I q=>wpAny_tests_one (h pins s σ H Q I q)
def nH(J:It)(g:TG)(tc:TT)(te:TE)(acc:ax)(d:Hp->Prop)(σ:qg)(H:Hp):Prop:=∃W:Nat->Nat->qg->Hp->Prop,(∃m,W 0 m σ H)/\∀i m σ H,W i m σ H->
 (J.stop i H /\ d H) \/ (J.go i H /\ ∃ a : qg -> Hp -> Prop, (∀ L H', a L H' -> ∃ m', m' < m /\ W (i + 1) m' L H') /\ ∀ x H', J.pJ i H x H' -> g x σ H' λk H2 => tc k H2 λb H3 =>
  if b=true then te k H3 λv H4=>∃ys,H4 acc=some (.lst ys)/\ys.length<sizeLine/\a k (upd H4 acc (.lst (ys++[v]))) else a k H3)
def jK(P:TI)(g:TG)(tc:TT)(te:TE)(mp:List (Option Nat)):TE:=λσ H Q=>P σ H λJ H1=>∀acc,H1 acc=none->nH J g tc te acc (λH'=>Q (.ref acc) H') (fU mp σ) (upd H1 acc (.lst []))
section
variable{prog:bg}{w:cq}{A:cx}{R:Result->ar->Prop}{s:ar}
theorem F3{E a l:et}{B:List et}{scope:kl}{pos:Pos}{it acc:ag}{env:Env}(I:Nat->ar->Prop)
    (L:∀n s,I n s->wpAny (be prog w) A (mc it) (λr s₁=>match r with
      |none=>R (.ok .next) s₁
      |some v=>wpAny (be prog w) A (hX a it v) (λ_ s₀=>wpAny (be prog w) A (tz a env v) (λ_ d=>
          wpAny (be prog w) A (forIn B true λc r=>if r=true then do let ok<-isTrue c env (eval c env);pure (dc ok) else pure (dc r)) (λok b=>
            if ok=true then wpAny (be prog w) A (eval E env) (λx f=>
              wpAny (be prog w) A (call (.builtin "list.append") [acc,x]) (λ_ g=>∃m,m<n/\I m g) (λ_ _=>False) f) (λ_ _=>False) b
            else∃m,m<n/\I m b) (λ_ _=>False) d) (λ_ _=>False) s₀) (λ_ _=>False) s₁) (λ_ _=>False) s)
    (n:Nat) (h:I n s):
    codeAny (be prog w) A (.compLoop (.ListComp E [⟨a,l,B,0⟩] scope pos) 0 it acc env) R s:=by
  refine codeAny_loop rfl I (λn s hI=>?_) n h;show wpAny _ A ((compTurn (.ListComp E [⟨a,l,B,0⟩] scope pos) 0 it acc env).onRaise (λx=>do noteFrame x env;theTreesLotGoes x)) _ _ s;refine wpAny_noted ?_;rw[compTurn_list];refine ae (km (ae (eM (L n s hI) (λr s₁ h₁=>?_) λ_ _ h'=>h'.elim)));cases r with
  |none=>exact aw h₁
  | some v =>
    refine ae (eM h₁ (λ_ s₀ h₀=>?_) λ_ _ h'=>h'.elim);refine ae (eM h₀ (λ_ d i=>ae (eM i (λok b e=>?_) λ_ _ h'=>h'.elim)) λ_ _ h'=>h'.elim);cases ok with
    |false=>exact aw ⟨rfl,e⟩
    | true =>
      exact ae (ae (eM e (λx f j=>ae (eM j (λ_ g k=>aw (aw ⟨rfl,k⟩)) λ_ _ h'=>h'.elim)) λ_ _ h'=>h'.elim))
end
section
variable{X:Cx}
theorem Mv{E l tg:et}{B:List et}{scope:kl}{pos pos':Pos}{N:List Str}{mp:List (Option Nat)}{P:TI}{g:TG}{tc:TT}{te:TE}{use:Option (ag->Sem Unit)}
    {pins:List (ax×Obj)} {s:ar} {σ:qg} {H:Hp} {Q:VK} {QQ:ag->ar->Prop}
    (ok:dw X.env.scope X.N scope N mp) (hc:X.calm=true) (hi:PI X tg l P)
    (hb:∀C s₀ H₀ fp,PG (jL X scope C N s₀ H₀ fp) tg g/\tV (jL X scope C N s₀ H₀ fp) B tc/\PE (jL X scope C N s₀ H₀ fp) E te)
    (hs:∀x,gO l X.env x=pure x) (I:Inv X pins σ H s) (h:jK P g tc te mp σ H Q)
    (fin:∀acc C H' s' m,Inv X pins σ H' s'->jg X pins H' C->s'.heap.Ns C m->Q (.ref acc) H'->yQ (be X.prog X.w) X.A X.xe use QQ (.ref acc) C (.ok .next) s'):
    wpAny (be X.prog X.w) X.A (comprehension (.ListComp E [⟨tg,l,B,0⟩] scope pos) scope X.env pos' (xt []) false (eval l X.env) use) QQ X.xe s:=by
  have f:∀x∈scope.names,x.2= .free->∃a,X.env.cells.lookup x.1=some a:=λx hx e=>I.ok.has x.1 (ok.free x hx e);refine wpAny_comprehension_free (use:=use) rfl hs (Zw f) ok.kind ok.names (aP (hi pins s σ H _ I h) λv s1 h1=>aP h1 λitv s2 h2=>?_);obtain⟨it,fp,tn,J,H2,e,I2,T,st2,G,hW⟩:=h2;subst e;refine c6 (wpAny_newFunctionEnv ok.cell (by intro y hy;simp at hy) (λh₁ Dq ER=>?_) ok.kind);dsimp only at Dq ER⊢;have I3:=I2.Ma (its:=[]) (ys:=[]) (t':=s2.toks) .nil (fj _);have hW:=hW s2.heap.objs.size I2.fresh;obtain⟨W,⟨R,w0⟩,L⟩:=hW;generalize BQ:s2.heap.push {cls:= .type "list",dict:=none,data:= .seq ([]:List ag).toArray}=O at Dq ER⊢;have I3:Inv X pins σ (upd H2 s2.heap.objs.size (.lst [])) {s2 with heap:=O}:=by rw[<-BQ];exact I3
  generalize Vh:upd H2 s2.heap.objs.size (.lst [])=H3 at I3 w0;have hC:O.objs.size=s2.heap.objs.size+1:=by rw[<-BQ,lE]
  have old:∀b o,O.get? b=some o->h₁.get? b=some o:=λb o e=>ER.extBut b o (dN (bP e)) (bW _ e);have lT:∀b∈fp,b<s2.heap.objs.size:=λb hb=>by
    obtain⟨o,e,_⟩:=T.obj 0 _ st2 b hb;exact bP e
  have XG:∀b∈fp,H3 b=none:=λb hb=>by
    rw[<-Vh,bq (dN (lT b hb))];exact(G b hb).1
  have sR:∀{x:Str} {c:ax},(jA X.env.cells scope.names []).lookup x=some c->X.env.cells.lookup x=some c:=λ{x c} e=>ET (λy d q=>by simp at q) e;have w9:(jL X scope O.objs.size N {s2 with heap:=O} H3 fp).Ok:=by
    refine⟨I2.ok.mod,ok.kind,I2.ok.glob,I2.ok.blt,aH _,λx y c e1 e2=>I2.ok.inj x y c (sR e1) (sR e2),λx hx=>?_,(λx c e=>absurd (show false=true from e) ⋯),I2.ok.hd,I2.ok.frames, .inl rfl,λb hb=>?_,I3.bs,eS I3.ok.nV I3.sz,λb o e hb=>?_,λb hb hz=>?_,I3.stack,I3.NZ⟩
    · have M:scope.names.lookup x=some .free:=by
        rcases hx with hx|hx
        · exact GL ok.cell hx (.inl rfl)
        · exact GL ok.cell hx (.inr rfl)
      have hm:=pQ M;obtain⟨a,ha⟩:=f _ hm rfl;exact⟨a,IF hm ha⟩
    · refine⟨λz=>?_,λx c e=>(G b hb).2.2.2.2.1 x c (sR e)⟩
      have z':b=O.objs.size:=z;have q:=lT b hb;rw[z',hC] at q;exact absurd q (Nat.not_lt.mpr (qS _))
    · rcases(G b hb).2.2.2.1 with z|z
      · exact I2.ok.uQ b o e z
      · exact absurd (eK (bP (I2.ok.bs b o e).1) z) (jE _)
    · rcases aK.mp (I2.Cm b hz) with z|z
      · exact(G b hb).2.1 z
      · exact(G b hb).2.2.1 z
  have IY:Inv (jL X scope O.objs.size N {s2 with heap:=O} H3 fp) [] (fU mp σ) H3 {s2 with heap:=h₁,toks:=s2.toks+([]:List (Str×ag)).length}:=by
    refine⟨w9,rfl,I2.bare,Un.kept old,⟨_,Dq,λi x v e1 e2 e3=>?_⟩,λx c e=>?_,I3.hok.fresh (aH _),λx c e=>I3.kG x c (sR e),λp hp=>absurd (show p∈([]:List (ax×Obj)) from hp) (by simp),I3.hok.kept old,?_⟩
    · have hj:∃j,mp[i]?=some (some j)/\σ[j]?=some (some v):=by
        unfold fU at e2;rw[cY] at e2;cases q:mp[i]? with
        |none=>rw[q] at e2;cases e2
        | some o =>
          rw[q] at e2;cases o with
          |none=>cases e2
          | some j =>
            refine⟨j,rfl,?_⟩;have e2:(match σ[j]? with|some v=>v|none=>none)=some v:=jt e2;cases r:σ[j]? with
            |none=>rw[r] at e2;cases e2
            | some u =>
              rw[r] at e2;have e2:u=some v:=e2;rw[e2]
      obtain⟨j,hj1,hj2⟩:=hj;obtain⟨F,V⟩:=ok.look i j x hj1 e1;have hm:=pQ V;have kx:=ok.free _ hm rfl;obtain⟨mm,_,hl⟩:=I3.loc;obtain⟨u,ru,lk⟩:=hl j x v F hj2 (kx.elim (λz=> .inr (.inl z)) λz=> .inr (.inr z));refine⟨u,ru, .inr ⟨MQ V,?_⟩⟩;rcases lk with ⟨k,_⟩|⟨_,c,e,z⟩
      · exfalso
        have k':X.env.scope.names.lookup x=some .local:=k;rcases kx with kx|kx
        · rw[k'] at kx;cases kx
        · rw[k'] at kx;cases kx
      · refine⟨c,IF hm e,?_⟩
        obtain⟨o,D,hd⟩:=z;exact⟨o,old c o D,hd⟩
    · obtain⟨v,o,D,hd⟩:=I3.cell x c (sR e)
      exact⟨v,o,old c o D,hd⟩
    · show(fU mp σ).length=N.length
      unfold fU;rw[ak,ok.len]
  have oh:∀{H':Hp},(∀b∈fp,H' b=none)->∀b∈fp,jg (jL X scope O.objs.size N {s2 with heap:=O} H3 fp) [] H' b:=λ{H'} hn b hb=>
    ⟨hn b hb,(w9.Ag b hb).1,w9.tL b hb, .inl hb,(w9.Ag b hb).2,λp hp=>absurd (show p∈([]:List (ax×Obj)) from hp) (by simp)⟩
  have LA:tn 0 h₁:=T.keep 0 _ _ st2 λb hb o e=>old b o (by rw[<-BQ];exact bW _ e)
  have loop:codeAny (be X.prog X.w) X.A (.compLoop (.ListComp E [⟨tg,l,B,0⟩] scope pos) 0 (.ref it) (.ref s2.heap.objs.size) (yB scope (jA X.env.cells scope.names []) O.objs.size X.env))
      (yQ (be X.prog X.w) X.A X.xe use QQ (.ref s2.heap.objs.size) O.objs.size) {s2 with heap:=h₁,toks:=s2.toks+([]:List (Str×ag)).length}:=by
    obtain⟨hg,ht,he⟩:=hb O.objs.size {s2 with heap:=O} H3 fp;generalize Z:jL X scope O.objs.size N {s2 with heap:=O} H3 fp=Y at hg ht he IY oh;have yp:Y.prog=X.prog:=by rw[<-Z];rfl
    have yw:Y.w=X.w:=by rw[<-Z];rfl
    have yK:Y.K=X.K:=by rw[<-Z];rfl
    have yA:Y.A=X.A:=by rw[<-Z];rfl
    have yc:Y.calm=true:=by rw[<-Z];exact hc
    have yx:Y.xe=λ_ _=>False:=by rw[<-Z];rfl
    have HZ:Y.env=yB scope (jA X.env.cells scope.names []) O.objs.size X.env:=by rw[<-Z];rfl
    rw[<-HZ];refine F3 (λn s'=>∃i σ' H',Inv Y [] σ' H' s'/\tn i s'.heap/\(∀b∈fp,H' b=none)/\W i n σ' H') ?_ R ⟨0,_,H3,IY,LA,XG,w0⟩;rintro n s3 ⟨i,σ3,H4,I4,st3,fr3,w3⟩;rcases L i n σ3 H4 w3 with ⟨stop,qn⟩|⟨go,Nx,hN,step⟩
    · have q0:=T.done Y yp yw yK yc i [] s3 σ3 H4 (λ_ _=>False) I4 (oh fr3) st3 stop
      rw[yA] at q0;refine aP q0 λr s4 ⟨hr,U⟩=>?_;subst hr;show yQ (be X.prog X.w) X.A X.xe use QQ (.ref s2.heap.objs.size) O.objs.size (.ok .next) s4;obtain⟨m,hm,_⟩:=id U.loc;have yl:Y.env.locals=O.objs.size:=by rw[HZ];rfl
      rw[yl] at hm;have fC:H4 O.objs.size=none:=by have:=U.free;rw[yl] at this;exact this
      have ub:=U.base;have ub':Un (frs X.stack) fp H3 H4 O s4.heap:=by rw[<-Z] at ub;exact ub
      have t:s4.os=s2.os:=by have:=U.os;rw[<-Z] at this;exact this
      have Uq:dR X.prog X.w H4 s4.heap:=by have:=U.hok;rw[yp,yw] at this;exact this
      have IX:Inv X pins σ H4 s4:=I3.Y9 (ch:=fp) t ub' Uq U.bare λb hb=>⟨(G b hb).2.2.2.1,(G b hb).2.1,(G b hb).2.2.2.2.1,(G b hb).2.2.2.2.2⟩;exact fin _ _ H4 s4 m IX (I3.nX (aH _) fC) hm qn
    · have q0:=T.item Y yp yw yK yc i [] s3 σ3 H4 (λ_ _=>False) I4 (oh fr3) st3 go
      rw[yA] at q0;refine aP q0 λr s4 ⟨u,hr,h4⟩=>?_;subst hr;refine aP h4 λ_ s5 ⟨x,H5,U,r5,y5,p5,Bw⟩=>?_;have Ho:=U.pinned (oh Bw) (T.obj _ _ p5);rw[<-yx,<-yp,<-yw,<-yA];refine aP (hg _ s5 σ3 H5 x u _ Ho r5 (step x H5 y5)) λ_ s6 ⟨uB,H6,I6,q6⟩=>?_;refine aP (ht _ s6 uB H6 _ I6 q6) λb s7 ⟨H7,S,q7⟩=>?_;have again:∀{tP:qg} {H8:Hp} {s8:ar},Inv Y ([]++ua fp s5.heap) tP H8 s8->Nx tP H8->∃m,m<n/\∃i σ' H',Inv Y [] σ' H' s8/\tn i s8.heap/\(∀b∈fp,H' b=none)/\W i m σ' H':=λ{tP H8 s8} I8 n8=>by
        obtain⟨m',hm,w8⟩:=hN tP H8 n8;refine⟨m',hm,i+1,tP,H8,I8.Ar,T.keep _ _ _ p5 λb hb o e=>(I8.pin (b,o) (jB _ (jB _ (Ab hb e)))).1,λb hb=>?_,w8⟩;obtain⟨o,e,d⟩:=T.obj _ _ p5 b hb;exact(I8.pin (b,o) (jB _ (jB _ (Ab hb e)))).2.1
      cases b with
      | false =>
        rw[if_neg cO];rw[if_neg cO] at q7;exact again S q7
      | true =>
        rw[if_pos rfl];rw[if_pos rfl] at q7;refine aP (he _ s7 uB H7 _ S q7) λv s8 ⟨y,H8,I8,r8,ys,e8,z8,n8⟩=>?_;refine aP (rj _ s8 uB H8 (.ref s2.heap.objs.size) [y] (.ref s2.heap.objs.size) [v] (λ_ H9=>H9=upd H8 s2.heap.objs.size (.lst (ys++[y]))) I8 rfl (.cons r8 .nil) ⟨_,ys,y,rfl,rfl,e8,z8,rfl⟩) λv9 s9 ⟨y9,H9,I9,r9,e9⟩=>?_;subst e9;exact again I9 n8
  refine codeAny_compStart_list loop (T.self _ _ _ _ _ LA loop)
theorem jg.turned{pins:List (ax×Obj)}{s:ar}{σ:qg}{H:Hp}{C:ax}{h':eC}(I:Inv X pins σ H s)(f:jg X pins H C)(hs:e6 C s.heap h'):Inv X pins σ H {s with heap:=h'}:=
 I.turned (t':=s.toks) (λb o hb e=>(hs.2 b hb).trans e) f.1 f.2.1 f.2.2.2.1 f.2.2.2.2.1 f.2.2.2.2.2
theorem gC{E l tg:et}{B:List et}{scope:kl}{pos:Pos}{N:List Str}{mp:List (Option Nat)}{P:TI}{g:TG}{tc:TT}{te:TE}
  (ok:dw X.env.scope X.N scope N mp) (hi:PI X tg l P)
  (hb:∀C s₀ H₀ fp,PG (jL X scope C N s₀ H₀ fp) tg g/\tV (jL X scope C N s₀ H₀ fp) B tc/\PE (jL X scope C N s₀ H₀ fp) E te) (hc:X.calm=true:=by rfl)
  (hs:∀x,gO l X.env x=pure x:=by intro _;rfl):PE X (.ListComp E [⟨tg,l,B,0⟩] scope pos) (jK P g tc te mp):=by
 intro pins s σ H Q I h;rw[eval_ListComp];refine Mv (use:=none) ok hc hi hb hs I h λacc C H' s' m b f hn q=>?_;exact⟨m,hn,λh' j=>⟨.ref acc,H',f.turned b j,rfl,q⟩⟩
def xP(i:Nat)(t:TE):TS:=λD σ H=>t σ H λv H'=>D.nx (σ.set i (some v)) H'
theorem n9{E l tg:et}{B:List et}{scope:kl}{pos c d:Pos}{N:List Str}{mp:List (Option Nat)}{P:TI}{g:TG}{tc:TT}{te:TE}{i:Nat}{y:Str}
  (hN:X.N.Nodup) (hy:X.N[i]?=some y) (hk:X.env.kindOf y=some .local)
  (ok:dw X.env.scope X.N scope N mp) (hi:PI X tg l P)
  (hb:∀C s₀ H₀ fp,PG (jL X scope C N s₀ H₀ fp) tg g/\tV (jL X scope C N s₀ H₀ fp) B tc/\PE (jL X scope C N s₀ H₀ fp) E te) (hc:X.calm=true:=by rfl)
  (k:qb (.ListComp E [⟨tg,l,B,0⟩] scope pos) (some (.Name y d)) c.line X.env=pure true:=by rfl)
  (hs:∀x,gO l X.env x=pure x:=by intro _;rfl):PS X (.Assign [.Name y d] (.ListComp E [⟨tg,l,B,0⟩] scope pos) c) (xP i (jK P g tc te mp)):=by
 intro pins s σ H D I h;rw[exec_Assign_Name_used _ _ _ _ k];refine ae (km (ae ?_));show wpAny _ X.A (do let _<-comprehension (.ListComp E [⟨tg,l,B,0⟩] scope pos) scope X.env _ (xt []) false (eval l X.env) (some (tz (.Name y d) X.env))) _ _ s;refine ae (eM (Mv (use:=some (tz (.Name y d) X.env)) (QQ:=λ_ s'=>SP X pins D .next s') ok hc hi hb hs I h λacc C H' s' m b f hn q=>?_) (λ_ s' hq=>aw (aw hq)) λ_ _ e=>e);refine nq (JK (v:= .ref acc) b hN hy (.inl hk) rfl (λs2 I2 ⟨a,sb,ha⟩=>?_) (.inr hk));have T:C≠a:=by
  rcases ha with z|z
  .rw[z];exact f.2.1
  .exact λe=>f.2.2.2.2.1 y a z e.symm
 exact⟨m,hn.sameBut sb T,λh' j=>⟨_,H',f.turned I2 j,q⟩⟩
end
def Sm(i:Int):Prop:= -(2^300)<i/\i<2^300
theorem CI{i:Int}(h:Sm i):hY i<=2^20:=by
 obtain⟨h1,h2⟩:=h;unfold hY;split;·exact fj _
 .rename_i h0
  have hn:i.natAbs≠0:=by
   intro e;apply h0;simp;omega
  have h3:i.natAbs<2^300:=∅
  have h4:i.natAbs.log2<300:=(DU hn).mpr h3;have:(2:Nat)^20=1048576:=⋯
  omega
theorem Rk{x y:Int}(h:Sm y):Builtin.divisionGoesByPylong x y=false:=by
 refine PyProof.noPylong_of_log2 ?_;obtain⟨h1,h2⟩:=h;by_cases h0:y.natAbs=0;·rw[h0];decide+kernel
 .have h3:y.natAbs<2^300:=∅
  have h4:y.natAbs.log2<300:=(DU h0).mpr h3;omega
section
variable{X:Cx}
theorem uW:dQ X (kn .FloorDiv) (rI (λ_ j=>0<j/\Sm j) λi j=> .int (i/j)):=Au λi j _ _ _ _ _ hc q=>
 floordiv_int ∅ (by rw[Int.fdiv_eq_ediv_of_nonneg _ ∅];exact q) (.inl (Rk hc.2))
theorem Rf:pM X "int.bit_length" (λx xs H Q=>∃i,x= .int i/\xs=[]/\Q (.int (hY i)) H):=by
 intro pins s σ H x xs v us Q I rx rv h;obtain⟨i,rfl,rfl,q⟩:=h;obtain⟨t,rfl⟩:=rx;cases rv;exact call_int_bit_length ⟨.int _,H,I.tok _,⟨_,rfl⟩,q⟩
def kX(K:PySem.W.Frag):List V->Hp->VK->Prop:=λxs H Q=>∃x T t b,xs=[x, .ty T]/\jf K H x t/\PySem.W.kitOne K t (.type T)=some b/\Q (.bl b) H
theorem nJ:fK X (.builtin "isinstance") (kX X.K):=by
 intro pins s σ H xs us Q I rv h;obtain⟨x,T,t,b,rfl,ty,e,q⟩:=h;obtain⟨u,v,rfl,ru,rv⟩:=rv.two;cases (show v=ej T from rv);exact VC I ru ty e λtk=>⟨.bl b,H,I.tok tk,rfl,q⟩
def sG:PyData->Key->Prop
 | .int i,k=>k= .inl i
 | .str x,k=>k= .inr x
 |_,_=>False
mutual
def ai(nb:ax->Prop)(H:Hp):PyData->V->Prop
 | .none,v=>v= .aL
 | .bool b,v=>v= .bl b
 | .int i,v=>v= .int i
 | .str x,v=>v= .str x
 | .list ds,v=>∃a xs,v= .ref a/\¬nb a/\H a=some (.lst xs)/\ah nb H ds xs
 | .tuple ds,v=>∃a xs,v= .ref a/\¬nb a/\H a=some (.tup xs)/\ah nb H ds xs
 | .dict kvs,v=>∃a ps,v= .ref a/\¬nb a/\Rd H a (.dK ps)/\aB nb H kvs ps
termination_by structural d=>d
def ah(nb:ax->Prop)(H:Hp):List PyData->List V->Prop
 |[],xs=>xs=[]
 |d::ds,xs=>∃y ys,xs=y::ys/\ai nb H d y/\ah nb H ds ys
termination_by structural d=>d
def aB(nb:ax->Prop)(H:Hp):List (PyData×PyData)->List (Key×V)->Prop
 |[],xs=>xs=[]
 |d::ds,xs=>∃p ys,xs=p::ys/\cN nb H d p/\aB nb H ds ys
termination_by structural d=>d
def cN(nb:ax->Prop)(H:Hp):PyData×PyData->Key×V->Prop
 |(k,d),p=>sG k p.1/\ai nb H d p.2
termination_by structural d=>d
end
def aY(nb:ax->Prop)(H H':Hp):Prop:=∀a o,¬nb a->H a=some o->H' a=some o
def Nb(b:ax):ax->Prop:=λa=>a=b
section
variable{nb aN:ax->Prop}{H H1 H2 H':Hp}{a b c p:ax}{o:HO}{xs:List V}
theorem aY.refl(nb:ax->Prop)(H:Hp):aY nb H H:=λ_ _ _ h=>h
theorem aY.trans(x:aY nb H H1)(y:aY nb H1 H2):aY nb H H2:=λa o n h=>y a o n (x a o n h)
theorem aY.of(x:cA H H'):aY nb H H':=λa o _ h=>x a o h
theorem aY.set(h:nb p):aY nb H (upd H p o):=λa u n q=>by rw[bq (λe=>n (by rw[e];exact h))];exact q
theorem aY.rd{u:HO}(x:aY nb H H')(n:¬nb a)(h:Rd H a u):Rd H' a u:=by
 rcases h with h|⟨o,h⟩
 .exact .inl (x _ _ n h)
 .exact .inr ⟨o,x _ _ n h⟩
end
mutual
theorem ai.keep{nb:ax->Prop}{H H':Hp}(x:aY nb H H'):∀{d:PyData} {v:V},ai nb H d v->ai nb H' d v
 | .none,_,h=>by unfold ai at h⊢;exact h
 | .bool _,_,h=>by unfold ai at h⊢;exact h
 | .int _,_,h=>by unfold ai at h⊢;exact h
 | .str _,_,h=>by unfold ai at h⊢;exact h
 | .list ds,_,h=>by unfold ai at h⊢;obtain⟨a,xs,e,n,s,r⟩:=h;exact⟨a,xs,e,n,x _ _ n s,ah.keep x r⟩
 | .tuple ds,_,h=>by unfold ai at h⊢;obtain⟨a,xs,e,n,s,r⟩:=h;exact⟨a,xs,e,n,x _ _ n s,ah.keep x r⟩
 | .dict kvs,_,h=>by unfold ai at h⊢;obtain⟨a,xs,e,n,s,r⟩:=h;exact⟨a,xs,e,n,x.rd n s,aB.keep x r⟩
theorem ah.keep{nb:ax->Prop}{H H':Hp}(x:aY nb H H'):∀{ds:List PyData} {vs:List V},ah nb H ds vs->ah nb H' ds vs
 |[],_,h=>by unfold ah at h⊢;exact h
 |d::ds,_,h=>by unfold ah at h⊢;obtain⟨y,ys,e,h1,h2⟩:=h;exact⟨y,ys,e,ai.keep x h1,ah.keep x h2⟩
theorem aB.keep{nb:ax->Prop}{H H':Hp}(x:aY nb H H'):∀{ds:List (PyData×PyData)} {vs:List (Key×V)},aB nb H ds vs->aB nb H' ds vs
 |[],_,h=>by unfold aB at h⊢;exact h
 |d::ds,_,h=>by unfold aB at h⊢;obtain⟨y,ys,e,h1,h2⟩:=h;exact⟨y,ys,e,cN.keep x h1,aB.keep x h2⟩
theorem cN.keep{nb:ax->Prop}{H H':Hp}(x:aY nb H H'):∀{d:PyData×PyData} {v:Key×V},cN nb H d v->cN nb H' d v
 |(k,d),_,h=>by unfold cN at h⊢;exact⟨h.1,ai.keep x h.2⟩
end
mutual
theorem ai.av{nb aN:ax->Prop}{H:Hp}(x:∀a,aN a->nb a):∀{d:PyData} {v:V},ai nb H d v->ai aN H d v
 | .none,_,h=>by unfold ai at h⊢;exact h
 | .bool _,_,h=>by unfold ai at h⊢;exact h
 | .int _,_,h=>by unfold ai at h⊢;exact h
 | .str _,_,h=>by unfold ai at h⊢;exact h
 | .list ds,_,h=>by unfold ai at h⊢;obtain⟨a,xs,e,n,s,r⟩:=h;exact⟨a,xs,e,λz=>n (x a z),s,ah.av x r⟩
 | .tuple ds,_,h=>by unfold ai at h⊢;obtain⟨a,xs,e,n,s,r⟩:=h;exact⟨a,xs,e,λz=>n (x a z),s,ah.av x r⟩
 | .dict kvs,_,h=>by unfold ai at h⊢;obtain⟨a,xs,e,n,s,r⟩:=h;exact⟨a,xs,e,λz=>n (x a z),s,aB.av x r⟩
theorem ah.av{nb aN:ax->Prop}{H:Hp}(x:∀a,aN a->nb a):∀{ds:List PyData} {vs:List V},ah nb H ds vs->ah aN H ds vs
 |[],_,h=>by unfold ah at h⊢;exact h
 |d::ds,_,h=>by unfold ah at h⊢;obtain⟨y,ys,e,h1,h2⟩:=h;exact⟨y,ys,e,ai.av x h1,ah.av x h2⟩
theorem aB.av{nb aN:ax->Prop}{H:Hp}(x:∀a,aN a->nb a):∀{ds:List (PyData×PyData)} {vs:List (Key×V)},aB nb H ds vs->aB aN H ds vs
 |[],_,h=>by unfold aB at h⊢;exact h
 |d::ds,_,h=>by unfold aB at h⊢;obtain⟨y,ys,e,h1,h2⟩:=h;exact⟨y,ys,e,cN.av x h1,aB.av x h2⟩
theorem cN.av{nb aN:ax->Prop}{H:Hp}(x:∀a,aN a->nb a):∀{d:PyData×PyData} {v:Key×V},cN nb H d v->cN aN H d v
 |(k,d),_,h=>by unfold cN at h⊢;exact⟨h.1,ai.av x h.2⟩
end
mutual
theorem ai.fresh{nb:ax->Prop}{H:Hp}{p:ax}(hp:H p=none):∀{d:PyData} {v:V},ai nb H d v->ai (λa=>nb a\/a=p) H d v
 | .none,_,h=>by unfold ai at h⊢;exact h
 | .bool _,_,h=>by unfold ai at h⊢;exact h
 | .int _,_,h=>by unfold ai at h⊢;exact h
 | .str _,_,h=>by unfold ai at h⊢;exact h
 | .list ds,_,h=>by unfold ai at h⊢;obtain⟨a,xs,e,n,s,r⟩:=h;exact⟨a,xs,e,λz=>z.elim n (iP s hp),s,ah.fresh hp r⟩
 | .tuple ds,_,h=>by unfold ai at h⊢;obtain⟨a,xs,e,n,s,r⟩:=h;exact⟨a,xs,e,λz=>z.elim n (iP s hp),s,ah.fresh hp r⟩
 | .dict kvs,_,h=>by unfold ai at h⊢;obtain⟨a,xs,e,n,s,r⟩:=h;exact⟨a,xs,e,λz=>z.elim n (s.elim (λs=>iP s hp) λ⟨_,s⟩=>iP s hp),s,aB.fresh hp r⟩
theorem ah.fresh{nb:ax->Prop}{H:Hp}{p:ax}(hp:H p=none):∀{ds:List PyData} {vs:List V},ah nb H ds vs->ah (λa=>nb a\/a=p) H ds vs
 |[],_,h=>by unfold ah at h⊢;exact h
 |d::ds,_,h=>by unfold ah at h⊢;obtain⟨y,ys,e,h1,h2⟩:=h;exact⟨y,ys,e,ai.fresh hp h1,ah.fresh hp h2⟩
theorem aB.fresh{nb:ax->Prop}{H:Hp}{p:ax}(hp:H p=none):∀{ds:List (PyData×PyData)} {vs:List (Key×V)},aB nb H ds vs->aB (λa=>nb a\/a=p) H ds vs
 |[],_,h=>by unfold aB at h⊢;exact h
 |d::ds,_,h=>by unfold aB at h⊢;obtain⟨y,ys,e,h1,h2⟩:=h;exact⟨y,ys,e,cN.fresh hp h1,aB.fresh hp h2⟩
theorem cN.fresh{nb:ax->Prop}{H:Hp}{p:ax}(hp:H p=none):∀{d:PyData×PyData} {v:Key×V},cN nb H d v->cN (λa=>nb a\/a=p) H d v
 |(k,d),_,h=>by unfold cN at h⊢;exact⟨h.1,ai.fresh hp h.2⟩
end
mutual
theorem ai.reads{pins:List (ax×Obj)}{σ:qg}{H:Hp}{s:ar}{nb:ax->Prop}(I:Inv X pins σ H s):∀{d:PyData} {v:V} {u:ag},ai nb H d v->RelV v u->d.canLay0=true->∃as,Reads s.heap u d as
  | .none,_,_,h,r,_=>by unfold ai at h;subst h;cases r;exact⟨_, .none⟩
  | .bool _,_,_,h,r,_=>by unfold ai at h;subst h;cases r;exact⟨_, .bool _⟩
  | .int _,_,_,h,r,_=>by unfold ai at h;subst h;obtain⟨t,rfl⟩:=r;exact⟨_, .int _ _⟩
  | .str _,_,_,h,r,_=>by unfold ai at h;subst h;obtain⟨t,rfl⟩:=r;exact⟨_, .str _ _⟩
  | .list ds, _, _, h, r, e => by
    unfold ai at h;obtain⟨a,xs,rfl,n,s,q⟩:=h;cases r;obtain⟨its,rv,p,hz⟩:=I.list (aZ.of s);obtain⟨as,ra⟩:=ah.reads I q rv (by simpa only[dy] using e);obtain⟨o,D,hc,m,hd⟩:=p.isList;exact⟨_, .list D hc hd (by simpa using ra)⟩
  | .tuple ds, _, _, h, r, e => by
    unfold ai at h;obtain⟨a,xs,rfl,n,s,q⟩:=h;cases r;obtain⟨its,rv,p,hz⟩:=I.tuple (dX.of s);obtain⟨as,ra⟩:=ah.reads I q rv (by simpa only[dy] using e);obtain⟨o,D,hc,m,hd⟩:=p;exact⟨_, .tuple D hc hd (by simpa using ra)⟩
  | .dict _,_,_,h,r,e=>by simp[dy] at e
theorem ah.reads{pins:List (ax×Obj)}{σ:qg}{H:Hp}{s:ar}{nb:ax->Prop}(I:Inv X pins σ H s):∀{ds:List PyData} {vs:List V} {us:List ag},ah nb H ds vs->Vals vs us->cU ds=true->∃as,ReadsAll s.heap us ds as
  |[],_,_,h,r,_=>by unfold ah at h;subst h;cases r;exact⟨_, .nil⟩
  | d :: ds, _, _, h, r, hc0 => by
    rw[cU,eY] at hc0;unfold ah at h;obtain⟨y,ys,rfl,h1,h2⟩:=h;cases r with
    | cons C U =>
      obtain⟨as,J⟩:=ai.reads I h1 C hc0.1;obtain⟨bs,O⟩:=ah.reads I h2 U hc0.2;exact⟨_, .cons J O⟩
end
def w4(neg:Bool):R2:=λx y H Q=>∃nb d e,ai nb H d x/\ai nb H e y/\de d=true/\de e=true/\Q (.bl (dE d e !=neg)) H
theorem Bt(hu:X.A.units+64<y2):dQ X (da .Eq) (w4 false):=by
 intro pins s σ H x y v u Q I rx ry h;obtain⟨nb,d,e,h1,h2,h3,h4,q⟩:=h;obtain⟨as,C⟩:=h1.reads I rx (zG h3);obtain⟨bs,U⟩:=h2.reads I ry (zG h4);exact eq_dataH C U h3 h4 hu ⟨.bl _,H,I,rfl,by simpa using q⟩
theorem Hq(hu:X.A.units+64<y2):dQ X (da .NotEq) (w4 true):=by
 intro pins s σ H x y v u Q I rx ry h;obtain⟨nb,d,e,h1,h2,h3,h4,q⟩:=h;obtain⟨as,C⟩:=h1.reads I rx (zG h3);obtain⟨bs,U⟩:=h2.reads I ry (zG h4);exact ne_dataH C U h3 h4 hu ⟨.bl _,H,I,rfl,by simpa using q⟩
end
structure Callee(P:bg)(w:cq)(K:PySem.W.Frag)(mg:Str->Option ag)(base:eC)(x:Str)(k:Nat)(ps:List Str)(sp:Sp):Prop where
 ex:∃f fd,aW P w K mg base bu k f fd ps sp/\Binds K fd ps []/\PySem.W.keepIn K (.ref f)=true/\mg x=some (.ref f)
theorem aD{X:Cx}{x:Str}{k:Nat}{ps:List Str}{sp:Sp}{p pos:Pos}{e:et}{es:List et}{t:TA}(c:Callee X.prog X.w X.K X.mg X.base x k ps sp)(hr:dY k X.A)(ha:PA X (e::es) t)(hg:Gl X x:=by rfl)
  (a:(x==("__debug__":Str))=false:=by decide) (he:cm (e::es) X.env=(false,eval e X.env)::cm es X.env:=by rfl) (Y:(lj pos (cm es X.env)).any (·.1)=false:=by rfl):
  PE X (.Call (.Name x p) (e::es) [] pos) (gm sp [] E0 t):=by
 obtain⟨f,fd,F,b,kp,m⟩:=c.ex;exact LN F hr hg m kp b .nil Af ha a he Y
theorem Callee.mk'{P:bg}{w:cq}{K:PySem.W.Frag}{mg:Str->Option ag}{base:eC}{x:Str}{st:fb}{k:Nat}{ps:List Str}{sp:Sp}{f:ax}{fd:ft}(F:bA K x x st f fd)(ok:aW P w K mg base bu k f fd ps sp)(b:Binds K fd ps [])
  (m:mg x=some (.ref f)):Callee P w K mg base x k ps sp:=⟨f,fd,ok,b,F.kp,m⟩
def aF(K:PySem.W.Frag)(x q:Str)(st:fb)(f:ax):Prop:=PySem.W.nsIn K bj x=some (some (.ref f))/\∃fd,bA K x q st f fd
theorem aF.mk{K:PySem.W.Frag}{x q:Str}{st:fb}{f:ax}{oc:ag}{od an:Option ax}{osl:Array (Option ag)}{kV doc pm cdv ct:ag}(a:PySem.W.nsIn K bj x=some (some (.ref f)))(l:K.lookup f=some ⟨oc,od, .func (PySem.W.fnOf x q (kT st) (jZ st) (aE st) .none kV doc pm an cdv ct),osl⟩)
  (c:PySem.W.codeIn K cdv q=true) (k:PySem.W.keepIn K (.ref f)=true):aF K x q st f:=⟨a,_,qI l c k⟩
section
variable{X:Cx}
theorem iJ:dQ X (kn .Mult) (rI (λi j=>Al i j\/(Sm i/\Sm j)) λi j=> .int (i*j)):=Au λ_ _ _ _ _ _ _ hc q=>mul_int q (by
 rcases hc with hc|hc
 .exact hc.ok
 .exact IntMulOk.of_bits (CI hc.1) (CI hc.2))
end
def ez(H:Hp)(b l:ax):Prop:=∃(ns:List Int) (i c st n:Int),H b=some (.lst [.ref l, .int i, .int c, .int st, .int n])/\H l=some (.lst (ns.map V.int))/\
 (∀x∈ns,0<=x/\x<10^60)/\ns.length<=63/\0<=i/\0<=c/\c<10^60/\0<=st/\st<2147483647
theorem OV{H:Hp}{b l:ax}{ns:List Int}{i c st n:V}(h:H b=some (.lst [.ref l,i,c,st,n]))(h':H l=some (.lst (ns.map V.int))):l≠b:=by
 intro e;subst e;rw[h] at h';have e:=HO.lst.inj (jt h');cases ns with
 |nil=>cases e
 |cons x r=>rw[bN] at e;cases (uX e).1
theorem ez.put{H:Hp}{b l:ax}{ns:List Int}{i c st n:Int}(hl:l≠b)(h':H l=some (.lst (ns.map V.int)))(h1:∀x∈ns,0<=x/\x<10^60)(h2:ns.length<=63)
  (h3:0<=i) (h4:0<=c) (h5:c<10^60) (p:0<=st) (d:st<2147483647):ez (upd H b (.lst [.ref l, .int i, .int c, .int st, .int n])) b l:=
 ⟨ns,i,c,st,n,bx,by rw[bq hl];exact h',h1,h2,h3,h4,h5,p,d⟩
theorem ez.put2{H:Hp}{b l p:ax}{o:HO}(h:ez H b l)(hp:p≠b/\p≠l):ez (upd H p o) b l:=by
 obtain⟨ns,i,c,st,n,h1,h2,r⟩:=h;exact⟨ns,i,c,st,n,by rw[bq (cB hp.1)];exact h1,by rw[bq (cB hp.2)];exact h2,r⟩
theorem ez.same{H H':Hp}{b l:ax}(h:ez H b l)(s:cA H H'):ez H' b l:=by
 obtain⟨ns,i,c,st,n,h1,h2,r⟩:=h;exact⟨ns,i,c,st,n,s _ _ h1,s _ _ h2,r⟩
def kH:Sp:=λvs H Q _=>∃(b l:ax) (many:Int),vs=[.ref b, .int many]/\ez H b l/\0<many/\Sm many/\∀(r:Int) (H':Hp),0<=r->r<many->aY (Nb b) H H'->ez H' b l->Q (.int r) H'
def Nc(K:PySem.W.Frag):Sp:=λvs H Q _=>∃(a:ax) (ns:List Int),vs=[.ref a]/\aZ K H a (ns.map V.int)/\ns.length<=63/\∀(b l:ax) (H':Hp),cA H H'->H b=none->ez H' b l->Q (.ref b) H'
theorem iE{α:Type}{xs:List α}{i:Int}{v:α}(h0:0<=i)(h:xs[i.toNat]?=some v):bC xs i=some v:=by
 have e:i=((i.toNat:Nat):Int):=∅
 rw[e];exact S5 h
theorem cL{H:Hp}{p:ax}{o:HO}(h:H p=none):cA H (upd H p o):=λb u q=>by rw[bq (iP q h)];exact q
section
variable{nb:ax->Prop}{H H':Hp}
theorem ah.length:∀{ds:List PyData} {xs:List V},ah nb H ds xs->xs.length=ds.length
 |[],_,h=>by unfold ah at h;subst h;rfl
 |d::ds,_,h=>by unfold ah at h;obtain⟨y,ys,rfl,_,h2⟩:=h;simp[ah.length h2]
theorem ah.get:∀{ds:List PyData} {xs:List V} {i:Nat} {d:PyData},ah nb H ds xs->ds[i]?=some d->∃x,xs[i]?=some x/\ai nb H d x
 |[],_,_,_,_,e=>by simp at e
 |d::ds,_,0,_,h,e=>by unfold ah at h;obtain⟨y,ys,rfl,h1,h2⟩:=h;simp at e;subst e;exact⟨y,rfl,h1⟩
 |d::ds,_,i+1,_,h,e=>by unfold ah at h;obtain⟨y,ys,rfl,h1,h2⟩:=h;simpa using ah.get (i:=i) h2 (by simpa using e)
theorem ah.snoc{d:PyData}{x:V}(hd:ai nb H d x):∀{ds:List PyData} {xs:List V},ah nb H ds xs->ah nb H (ds++[d]) (xs++[x])
 |[],_,h=>by unfold ah at h;subst h;unfold ah;exact⟨x,[],rfl,hd,by unfold ah;rfl⟩
 |e::ds,_,h=>by unfold ah at h;obtain⟨y,ys,rfl,h1,h2⟩:=h;show ah nb H (e::(ds++[d])) _;unfold ah;exact⟨y,ys++[x],rfl,h1,ah.snoc hd h2⟩
theorem ah.append:∀{ds es:List PyData} {xs ys:List V},ah nb H ds xs->ah nb H es ys->ah nb H (ds++es) (xs++ys)
 |[],_,_,_,h,h'=>by unfold ah at h;subst h;exact h'
 |e::ds,es,_,zs,h,h'=>by unfold ah at h;obtain⟨y,ys,rfl,h1,h2⟩:=h;show ah nb H (e::(ds++es)) _;unfold ah;exact⟨y,ys++zs,rfl,h1,ah.append h2 h'⟩
theorem ah.take:∀{ds:List PyData} {xs:List V} (n:Nat),ah nb H ds xs->ah nb H (ds.take n) (xs.take n)
 |_,_,0,_=>by simp only[List.take_zero];unfold ah;rfl
 |[],_,n+1,h=>by unfold ah at h;subst h;simp only[List.take_nil];unfold ah;rfl
 |d::ds,_,n+1,h=>by unfold ah at h;obtain⟨y,ys,rfl,h1,h2⟩:=h;simp only[List.take_succ_cons];unfold ah;exact⟨y,_,rfl,h1,ah.take n h2⟩
theorem ah.drop:∀{ds:List PyData} {xs:List V} (n:Nat),ah nb H ds xs->ah nb H (ds.drop n) (xs.drop n)
 |_,_,0,h=>h
 |[],_,n+1,h=>by unfold ah at h;subst h;simp only[List.drop_nil];unfold ah;rfl
 |d::ds,_,n+1,h=>by unfold ah at h;obtain⟨y,ys,rfl,h1,h2⟩:=h;simp only[List.drop_succ_cons];exact ah.drop n h2
theorem ah.nil:ah nb H [] []:=by unfold ah;rfl
theorem ah.cons{d:PyData}{x:V}{ds:List PyData}{xs:List V}(h1:ai nb H d x)(h2:ah nb H ds xs):ah nb H (d::ds) (x::xs):=by unfold ah;exact⟨x,xs,rfl,h1,h2⟩
theorem ai.int(i:Int):ai nb H (.int i) (.int i):=by unfold ai;rfl
theorem ai.aL:ai nb H .none .aL:=by unfold ai;rfl
theorem ai.bl(b:Bool):ai nb H (.bool b) (.bl b):=by unfold ai;rfl
theorem ai.lst{a:ax}{ds:List PyData}{xs:List V}(n:¬nb a)(h:H a=some (.lst xs))(hd:ah nb H ds xs):ai nb H (.list ds) (.ref a):=by unfold ai;exact⟨a,xs,rfl,n,h,hd⟩
theorem ai.tup{a:ax}{ds:List PyData}{xs:List V}(n:¬nb a)(h:H a=some (.tup xs))(hd:ah nb H ds xs):ai nb H (.tuple ds) (.ref a):=by unfold ai;exact⟨a,xs,rfl,n,h,hd⟩
theorem ai.eN{v:V}{ds:List PyData}(h:ai nb H (.list ds) v):∃a xs,v= .ref a/\¬nb a/\H a=some (.lst xs)/\ah nb H ds xs:=by unfold ai at h;exact h
theorem ai.ofT{v:V}{ds:List PyData}(h:ai nb H (.tuple ds) v):∃a xs,v= .ref a/\¬nb a/\H a=some (.tup xs)/\ah nb H ds xs:=by unfold ai at h;exact h
theorem ai.cP{v:V}{i:Int}(h:ai nb H (.int i) v):v= .int i:=by unfold ai at h;exact h
theorem ai.zW{v:V}(h:ai nb H .none v):v= .aL:=by unfold ai at h;exact h
end
def Hi:Sp:=λvs H Q _=>∃i:Int,vs=[.int i]/\Q (.bl true) H
def AF(K:PySem.W.Frag):Sp:=λvs H Q _=>∃(a:ax) (ns:List Int),vs=[.ref a]/\aZ K H a (ns.map V.int)/\ns.length<=63/\∀H',Q (.bl true) H'
def FZ(Q:VK):List V->Hp->Prop:=λxs H1=>xs.length<=sizeLine/\∀p,H1 p=none->Q (.ref p) (upd H1 p (.lst xs))
def iS(K:PySem.W.Frag):List V->Hp->VK->Prop:=λxs H Q=>∃p ys,xs=[.ref p]/\(aZ K H p ys\/dX K H p ys)/\∀l,H l=none->Q (.ref l) (upd H l (.lst ys))
theorem jW{X:Cx}:fK X (.type "list") (iS X.K):=KI
def Ot:R2:=λx y H Q=>y= .aL/\Q (.bl (decide (x= .aL))) H
def wG:R2:=λx y H Q=>y= .aL/\Q (.bl (!decide (x= .aL))) H
theorem oS{X:Cx}:dQ X (da .Is) Ot:=VZ
theorem l7{X:Cx}:dQ X (da .IsNot) wG:=Hn
noncomputable def intOf:et->Option Int
 | .Constant (.int i) _ _=>some i
 |_=>none
theorem Wc{e:et}{i:Int}(h:intOf e=some i):∃k p,e= .Constant (.int i) k p:=by
 unfold intOf at h;split at h;·cases h;exact⟨_,_,rfl⟩
 .cases h
noncomputable def rS:List et->Option (List Int)
 |[]=>some []
 |e::r=>(intOf e).bind λi=>(rS r).map (i:: ·)
def yD(is:List Int):TA:=λ_ H Q=>Q (is.map V.int) H
theorem Ba{X:Cx}:∀{es:List et} {is:List Int},rS es=some is->PA X es (yD is):=by
  intro es;induction es with
  | nil =>
    intro is h;have e:is=[]:=by simpa[rS] using h.symm
    subst e;exact af
  | cons e r ih =>
    intro is h;unfold rS at h;cases hi:intOf e with
    |none=>rw[hi] at h;cases h
    | some i =>
      rw[hi] at h;obtain⟨k,p,rfl⟩:=Wc hi;obtain⟨a,hj,rfl⟩:=pF.mp (show(rS r).map (i:: ·)=some is from h);exact aa (te:=tC (.int i)) (t:=yD a) aj (ih hj)
theorem V8{X:Cx}{i:Nat}{x:Str}{es:List et}{is:List Int}{j p2 o:Pos}(hN:X.N.Nodup)(hi:X.N[i]?=some x)(hx:Loc X.env.scope x)(h:rS es=some is)(hf:X.fn x=true\/X.env.scope.names.lookup x=some .local):
  PS X (.Assign [.Name x j] (.List es p2) o) (gE (rN (yD is)) (ic i)):=aJ hN hi hx (eV (Ba h)) rfl hf
namespace R
section
variable{σ:qg}{H:Hp}{Q:VK}{D:Ends}{ta tb te:TE}{K:PySem.W.Frag}
theorem seq{t u:TS}(h:t {D with nx:=u D} σ H):pD t u D σ H:=h
theorem asg{g:TG}(h:te σ H λx H1=>g x σ H1 D.nx):gE te g D σ H:=h
theorem kP{c:TT}{t u:TS}(h:c σ H λb H1=>if b=true then t D σ H1 else u D σ H1):vE c t u D σ H:=h
theorem ret(h:te σ H D.rt):kY te D σ H:=h
theorem drop(h:te σ H λ_ H1=>D.nx σ H1):q9 te D σ H:=h
theorem next(h:D.nx σ H):FW D σ H:=h
theorem var{i:Nat}{v:V}(e:σ[i]?=some (some v))(h:Q v H):cH i σ H Q:=⟨v,e,h⟩
theorem c{v:V}(h:Q v H):tC v σ H Q:=h
theorem op{r:R2}(h:ta σ H λx H1=>tb σ H1 λy H2=>r x y H2 Q):dM r ta tb σ H Q:=h
theorem test{q:Bool->Hp->Prop}(h:te σ H λx H'=>∃k,x= .bl k/\q k H'):sV te σ H q:=h
theorem bl{P:Bool->Prop}{b:Bool}(h:P b):∃k,V.bl b= .bl k/\P k:=⟨b,rfl,h⟩
theorem and{t u:TT}{q:Bool->Hp->Prop}(h:t σ H λc H1=>if c=true then u σ H1 q else q false H1):GJ t u σ H q:=h
theorem cb{r:List V->Hp->VK->Prop}{t:TA}(h:t σ H λvs H1=>r vs H1 Q):fq r t σ H Q:=h
theorem call{sp:Sp}{t:TA}(h:t σ H λvs H1=>sp (vs++[]) H1 Q E0):gm sp [] E0 t σ H Q:=h
theorem nil{q:List V->Hp->Prop}(h:q [] H):bM σ H q:=h
theorem cons{t:TA}{q:List V->Hp->Prop}(h:ta σ H λx H1=>t σ H1 λxs H2=>q (x::xs) H2):bz ta t σ H q:=h
theorem lst{t:TA}(h:t σ H (FZ Q)):rN t σ H Q:=h
theorem sl{r:V->Option Int->Option Int->Hp->VK->Prop}{tl th:TO}(h:te σ H λx H1=>tl σ H1 λl H2=>th σ H2 λu H3=>r x l u H3 Q):se r te tl th σ H Q:=h
theorem Sd{q:Option Int->Hp->Prop}(h:q none H):GO σ H q:=h
theorem part{q:Option Int->Hp->Prop}(h:te σ H λx H1=>∃i,x= .int i/\q (some i) H1):Cg te σ H q:=h
theorem TJ{P:Int->Prop}{i:Int}(h:P i):∃j,V.int i= .int j/\P j:=⟨i,rfl,h⟩
theorem Wh{T:String}{r:V->List V->Hp->VK->Prop}(h:te σ H λx H1=>qH K T x H1/\r x [] H1 Q):Qp K T r te σ H Q:=h
theorem bm{T:String}{r:V->List V->Hp->VK->Prop}{t:TA}(h:te σ H λx H1=>qH K T x H1/\t σ H1 λxs H2=>r x xs H2 Q):lX K T r te t σ H Q:=h
theorem GD{i:Int}{A:Prop}(h:A):qH K "int" (.int i) H/\A:=⟨rfl,h⟩
theorem Nu{i:Nat}{v:V}{q:qg->Hp->Prop}(h:q (σ.set i (some v)) H):ic i v σ H q:=h
theorem VL{to c:TE}{t:A6}{v:V}{q:qg->Hp->Prop}(h:to σ H λo H1=>c σ H1 λi H2=>t o i v H2 λH3=>q σ H3):pO to c t v σ H q:=h
theorem T4{t:TG}{u:jb}{v:V}{r:List V}{q:qg->Hp->Prop}(h:t v σ H λL H'=>u r L H' q):B3 t u (v::r) σ H q:=⟨v,r,rfl,h⟩
theorem RO{q:qg->Hp->Prop}(h:q σ H):Dj [] σ H q:=⟨rfl,h⟩
theorem V9{n:Nat}{t:jb}{a:ax}{xs:List V}{q:qg->Hp->Prop}(hq:dX K H a xs)(hl:xs.length=n)(h:t xs σ H q):AB K n t (.ref a) σ H q:=⟨a,xs,rfl,hq,hl,h⟩
theorem uU{q:Bool->Hp->Prop}(h:q true H):r6 σ H q:=h
theorem je{g:Int->Int->V}{i j:Int}(h:Q (g i j) H):L2.je g (.int i) (.int j) H Q:=⟨i,j,rfl,rfl,h⟩
theorem rI{C:Int->Int->Prop}{g:Int->Int->V}{i j:Int}(hc:C i j)(h:Q (g i j) H):L2.rI C g (.int i) (.int j) H Q:=⟨i,j,rfl,rfl,hc,h⟩
theorem Bm{i j:Int}:decide (V.int i=V.int j)=decide (i=j):=by rw[mS];simp
theorem Yw{i j:Int}(h:Q (.bl (decide (i=j))) H):BP (.int i) (.int j) H Q:=⟨rfl,by rw[Bm];exact h⟩
theorem Tn{i j:Int}(h:Q (.bl (decide (i≠j))) H):wj (.int i) (.int j) H Q:=⟨rfl,by rw[Bm,<-decide_not];exact h⟩
theorem LI{i:Int}(h:Q (.bl true) H):wG (.int i) .aL H Q:=⟨rfl,by rw[decide_eq_false (λe=>V.noConfusion e)];exact h⟩
theorem JB(h:Q (.bl false) H):wG .aL .aL H Q:=⟨rfl,by rw[decide_eq_true rfl];exact h⟩
theorem vY{p:ax}{xs:List V}{i:Int}{v:V}(hp:H p=some (.lst xs))(e:bC xs i=some v)(h:Q v H):bG K (.ref p) (.int i) H Q:=⟨p,xs,i,v,rfl,rfl,aZ.of hp,e,h⟩
theorem C8{p:ax}{o:HO}{xs:List V}{i:Int}{v:V}(e:bC xs i=some v)(h:Q v (upd H p (.lst xs))):bG K (.ref p) (.int i) (upd H p (.lst xs)) Q:=⟨p,xs,i,v,rfl,rfl,aZ.of bx,e,h⟩
theorem setM{p:ax}{xs:List V}{k:Int}{j:Nat}{v:V}{q:Hp->Prop}(hp:H p=some (.lst xs))(e:ir xs.length k=some j)(h:q (upd H p (.lst (xs.set j v)))):tF (.ref p) (.int k) v H q:=⟨p,xs,k,j,rfl,rfl,hp,e,h⟩
theorem D3{p:ax}{xs:List V}{k:Int}{j:Nat}{v:V}{q:Hp->Prop}(e:ir xs.length k=some j)(h:q (upd H p (.lst (xs.set j v)))):tF (.ref p) (.int k) v (upd H p (.lst xs)) q:=
 ⟨p,xs,k,j,rfl,rfl,bx,e,by rw[Hj];exact h⟩
theorem SX{p:ax}{xs:List V}{P:List V->Prop}(hp:H p=some (.lst xs))(h:P xs):∃a ys,[V.ref p]=[.ref a]/\(aZ K H a ys\/dX K H a ys)/\P ys:=⟨p,xs,rfl, .inl (aZ.of hp),h⟩
theorem JD{p:ax}{xs:List V}{lo hi:Option Int}(hp:aZ K H p xs)(h:∀a,H a=none->Q (.ref a) (upd H a (.lst (k7 xs lo hi)))):kN K (.ref p) lo hi H Q:=⟨p,xs,rfl,hp,h⟩
theorem Oy{a:Int}{P:Int->Prop}(h:P a):∃i,[V.int a]=[.int i]/\P i:=⟨a,rfl,h⟩
theorem bits{i:Int}{P:Int->Prop}(h:P i):∃j,V.int i= .int j/\([]:List V)=[]/\P j:=⟨i,rfl,rfl,h⟩
theorem UK{xs:List V}(h:xs.length<=10000)(q:∀p H',cA H H'->H p=none->H' p=some (.lst xs)->Q (.ref p) H'):FZ Q xs H:=
 ⟨eS h ⋯,λp hp=>q p _ (cL hp) hp bx⟩
theorem iz{c A B:Prop}[Decidable c](h:c)(q:A):if c then A else B:=by rw[if_pos h];exact q
theorem Li{c A B:Prop}[Decidable c](h:¬c)(q:B):if c then A else B:=by rw[if_neg h];exact q
theorem dT{c:Prop}[Decidable c](h:c):decide c=true:=decide_eq_true h
theorem dF{c:Prop}[Decidable c](h:¬c):¬decide c=true:=by rw[decide_eq_false h];exact cO
theorem L0{c:Prop}[Decidable c](h:¬c):(!decide c)=true:=by rw[decide_eq_false h];rfl
theorem K7{c:Prop}[Decidable c](h:c):¬(!decide c)=true:=by rw[decide_eq_true h];decide
theorem Kt{t:TA}{R:It->Hp->Prop}(h:t σ H λvs H1=>∃j:Int,vs=[.int j]/\ -(2^62)<=j/\j<2^62/\R (ji 0 j.toNat) H1):wc t σ H R:=h
theorem Y6{P:Int->Prop}{i:Int}(h1: -(2^62)<=i)(h2:i<2^62)(h:P i):∃j:Int,[V.int i]=[.int j]/\ -(2^62)<=j/\j<2^62/\P j:=⟨i,rfl,h1,h2,h⟩
theorem Yb{t:TA}{R:It->Hp->Prop}(h:t σ H λvs H1=>∃i j:Int,vs=[.int i, .int j]/\(-(2^62)<=i/\i<2^62/\ -(2^62)<=j/\j<2^62)/\R (ji i (j-i).toNat) H1):IL t σ H R:=h
theorem UI{P:Int->Int->Prop}{a b:Int}(h1: -(2^62)<=a/\a<2^62/\ -(2^62)<=b/\b<2^62)(h:P a b):∃i j:Int,[V.int a,V.int b]=[.int i, .int j]/\(-(2^62)<=i/\i<2^62/\ -(2^62)<=j/\j<2^62)/\P i j:=⟨a,b,rfl,h1,h⟩
theorem iL{tl:TE}{R:It->Hp->Prop}(h:tl σ H λx H1=>∃a,x= .ref a/\(∃xs,aZ K H1 a xs)/\R (oU K a) H1):oH K tl σ H R:=h
theorem wO{P:ax->Prop}{p:ax}{xs:List V}(hp:aZ K H p xs)(h:P p):∃a,V.ref p= .ref a/\(∃xs,aZ K H a xs)/\P a:=⟨p,rfl,⟨xs,hp⟩,h⟩
theorem Xb{P:TI}{g:TG}{tb:TS}(h:P σ H λJ H1=>∃W:Nat->Nat->qg->Hp->Prop,(∃m,W 0 m σ H1)/\∀i m σ H,W i m σ H->
 (J.stop i H/\D.nx σ H)\/(J.go i H/\∃N:qg->Hp->Prop,(∀L H',N L H'->∃m',m'<m/\W (i+1) m' L H')/\∀x H',J.pJ i H x H'->g x σ H' λk H2=>tb {D with nx:=N,ct:=N,bk:=D.nx} k H2)):qD P g tb D σ H:=h
theorem comp{P:TI}{g:TG}{tc:TT}{mp:List (Option Nat)}(h:P σ H λJ H1=>∀acc,H1 acc=none->nH J g tc te acc (λH'=>Q (.ref acc) H') (fU mp σ) (upd H1 acc (.lst []))):jK P g tc te mp σ H Q:=h
end
theorem IT{lo:Int}{n:Nat}{g:TG}{tc:TT}{te:TE}{acc:ax}{d:Hp->Prop}{σ:qg}{H:Hp}(Pv:Nat->qg->Hp->Prop)(h0:Pv 0 σ H)
  (hs:∀i σ H,i<n->Pv i σ H->g (.int (lo+i)) σ H λk H2=>tc k H2 λb H3=>if b=true then te k H3 λv H4=>∃ys,H4 acc=some (.lst ys)/\ys.length<sizeLine/\Pv (i+1) k (upd H4 acc (.lst (ys++[v]))) else Pv (i+1) k H3)
  (hd:∀σ H,Pv n σ H->d H):nH (ji lo n) g tc te acc d σ H:=by
 refine⟨λi m σ H=>m=n-i/\i<=n/\Pv i σ H,⟨n,by simp,fj _,h0⟩,?_⟩;rintro i m σ H ⟨rfl,hi,p⟩;by_cases hlt:i<n
 .refine .inr ⟨hlt,Pv (i+1),λL H' r=>⟨n-(i+1),∅,rfl,hlt,r⟩,λx H' y=>?_⟩;obtain⟨e,y⟩:=y;subst e y;exact hs i σ _ hlt p
 .have e:i=n:=∅
  subst e;exact .inl ⟨aH _,hd σ H p⟩
theorem J9{K:PySem.W.Frag}{a:ax}{xs:List V}{g:TG}{tc:TT}{te:TE}{acc:ax}{d:Hp->Prop}{σ:qg}{H:Hp}(Pv:Nat->qg->Hp->Prop)(h0:Pv 0 σ H)(hl:∀i σ H,i<=xs.length->Pv i σ H->aZ K H a xs)
  (hs:∀i x σ H,xs[i]?=some x->Pv i σ H->g x σ H λk H2=>tc k H2 λb H3=>if b=true then te k H3 λv H4=>∃ys,H4 acc=some (.lst ys)/\ys.length<sizeLine/\Pv (i+1) k (upd H4 acc (.lst (ys++[v]))) else Pv (i+1) k H3)
  (hd:∀σ H,Pv xs.length σ H->d H):nH (oU K a) g tc te acc d σ H:=by
 refine⟨λi m σ H=>m=xs.length-i/\i<=xs.length/\Pv i σ H,⟨xs.length,by simp,fj _,h0⟩,?_⟩;rintro i m σ H ⟨rfl,hi,p⟩;have q:=hl i σ H hi p;by_cases hlt:i<xs.length
 .refine .inr ⟨⟨xs,xs[i],q,by simp[hlt]⟩,Pv (i+1),λL H' r=>⟨xs.length-(i+1),∅,rfl,hlt,r⟩,λx H' y=>?_⟩;obtain⟨e,y⟩:=y;subst e;exact hs i x σ _ (y xs q) p
 .have e:i=xs.length:=∅
  subst e;exact .inl ⟨⟨xs,q,aH _⟩,hd σ H p⟩
end R
@[reducible] noncomputable def Bh(pr:Int×Int):PyData:= .tuple [.int pr.1, .int pr.2]
noncomputable def bS:Option Int->PyData
 |none=> .none
 |some i=> .int i
noncomputable def yj:Option Int->V
 |none=> .aL
 |some i=> .int i
noncomputable def oX(wd:List (Option Int))(pr:Int×Int):Int:=match wd[pr.1.toNat]? with
 |some (some x)=>pr.2*x
 |_=>0
noncomputable def dB(prs:List (Int×Int))(wd:List (Option Int)):Int:=(prs.map (oX wd)).sum
theorem KU{prs:List (Int×Int)}{wd:List (Option Int)}{i:Nat}(h:i<prs.length):dB (prs.take (i+1)) wd=dB (prs.take i) wd+oX wd prs[i]:=by
 unfold dB;rw[DH,bw h,cI,qs];simp
theorem Ry{nb:ax->Prop}{H:Hp}{o:Option Int}{v:V}(h:ai nb H (bS o) v):v=yj o:=by
 cases o with
 |none=>exact h.zW
 |some i=>exact h.cP
theorem IJ{nb:ax->Prop}{H:Hp}:∀{wd:List (Option Int)} {xs:List V},ah nb H (wd.map bS) xs->xs=wd.map yj
  |[],_,h=>by unfold cj ah at h;exact h
  | o :: wd, _, h => by
    rw[bN] at h;unfold ah at h;obtain⟨y,ys,rfl,h1,h2⟩:=h;rw[bN,Ry h1,IJ h2]
theorem ZP{nb:ax->Prop}{H:Hp}{pr:Int×Int}{v:V}(h:ai nb H (Bh pr) v):∃t,v= .ref t/\¬nb t/\H t=some (.tup [.int pr.1, .int pr.2]):=by
 obtain⟨t,xs,rfl,n,ht,hd⟩:=h.ofT;unfold ah at hd;obtain⟨y,ys,rfl,h1,h2⟩:=hd;unfold ah at h2;obtain⟨z,zs,rfl,h3,h4⟩:=h2;unfold ah at h4;subst h4;rw[h1.cP,h3.cP] at ht;exact⟨t,rfl,n,ht⟩
def GV:Sp:=λvs H Q _=>∃(nb:ax->Prop) (p:Int) (g b:V) (prs:List (Int×Int)) (wd:List (Option Int)),vs=[.int p,g,b]/\ai nb H (.list (prs.map Bh)) g/\ai nb H (.list (wd.map bS)) b/\0<p/\
 (∀pr∈prs,0<=pr.1/\pr.1<wd.length/\Sm pr.2)/\(∀x,some x∈wd->Sm x)/\Q (.int (dB prs wd%p)) H
theorem MF(wd:List (Option Int)):df (wd.map bS)=0/\cU (wd.map bS)=true:=by
 induction wd with
 |nil=>simp[df,cU]
 |cons a r ih=>cases a<;>simp[bS,df,hG,cU,dy,ih.2,ih.1]
def vz(r:Int):Prop:=∀d:Int,2<=d->d*d<=r->r%d≠0
noncomputable def vo:List Int:=[2,3,5,7,2,11,101,10007,65537,1000003,998244353,1000000007,2147483647,1000000000039,1000000000000000003,18446744073709551557,2305843009213693951,618970019642690137449562111,162259276829213363391578010288127,170141183460469231731687303715884105727,1000000000000000000000000000000000000003,9999999999999999999999999999999999999983]
def GZ:Sp:=λvs H Q _=>∃n:Int,vs=[.int n]/\2<=n/\n<=10002/\∀(r:Int) (H':Hp),cA H H'->2<=r->r<=10100->vz r->Q (.int r) H'
def vh(wd:List Int)(ld:List (Option Int)):Prop:=ld.length=wd.length/\∀(i:Nat) x,ld[i]?=some (some x)->wd[i]?=some x
theorem Dr{nb:ax->Prop}{H:Hp}:∀is:List Int,ah nb H (is.map a4) (is.map V.int)
 |[]=>ah.nil
 |i::is=>ah.cons (.int i) (Dr is)
theorem OC:∀ds:List PyData,(∀(i:Nat) d,ds[i]?=some d->∃o:Option Int,d=bS o)->∃ld:List (Option Int),ds=ld.map bS
  |[],_=>⟨[],rfl⟩
  | d :: ds, h => by
    obtain⟨o,rfl⟩:=h 0 d rfl;obtain⟨ld,rfl⟩:=OC ds λi e he=>h (i+1) e (by simpa using he);exact⟨o::ld,rfl⟩
theorem Oa{wd:List Int}(ds:List PyData)(hl:ds.length=wd.length)(h:∀(i:Nat) d,ds[i]?=some d->d= .none\/∃x,wd[i]?=some x/\d= .int x):∃ld:List (Option Int),ds=ld.map bS/\vh wd ld:=by
 obtain⟨ld,rfl⟩:=OC ds λi d hd=>by
  rcases h i d hd with e|⟨x,_,e⟩
  .exact⟨none,e⟩
  .exact⟨some x,e⟩
 refine⟨ld,rfl,by simpa using hl,λi x hx=>?_⟩;rcases h i (.int x) (by rw[cY,hx];rfl) with e|⟨y,hy,e⟩
 .cases e
 .cases e;exact hy
theorem vM{nb:ax->Prop}{H:Hp}:∀{is:List Int} {xs:List V},ah nb H (is.map a4) xs->xs=is.map V.int
  |[],_,h=>by unfold cj ah at h;exact h
  | i :: is, _, h => by
    rw[bN] at h;unfold ah at h;obtain⟨y,ys,rfl,h1,h2⟩:=h;rw[bN,h1.cP,vM h2]
theorem Rc{wd:List Int}{ld:List (Option Int)}(h:vh wd ld){x:Int}(hx:some x∈ld):x∈wd:=by
 obtain⟨i,hi⟩:=oF hx;exact fQ (h.2 i x hi)
noncomputable abbrev Bg:=Option (ax×ax)
def NB(B:Bg)(a:ax):Prop:=∀b l,B=some (b,l)->a≠b
def j3(B:Bg)(H:Hp):Prop:=∀b l,B=some (b,l)->ez H b l
def iK(nb:ax->Prop)(H:Hp):Prop:=∀a,nb a->H a≠none
structure Kp(S:ax->Prop)(F:List ax)(H H':Hp):Prop where
 own:∀a∈F,∀o,H a=some o->H' a=some o
 lst:∀a xs,¬S a->H a=some (.lst xs)->H' a=some (.lst xs)
 tup:∀a xs,¬S a->H a=some (.tup xs)->H' a=some (.tup xs)
 bR:∀a ps,¬S a->Rd H a (.dK ps)->Rd H' a (.dK ps)
theorem Kp.of{S:ax->Prop}{F:List ax}{H H':Hp}(h:∀a o,(¬S a\/a∈F)->H a=some o->H' a=some o):Kp S F H H':=
 ⟨λa ha o e=>h a o (.inr ha) e,λa xs n e=>h a _ (.inl n) e,λa xs n e=>h a _ (.inl n) e,λa ps n e=>e.elim (λe=> .inl (h a _ (.inl n) e)) λ⟨o,e⟩=> .inr ⟨o,h a _ (.inl n) e⟩⟩
mutual
theorem ai.kp{S:ax->Prop}{F:List ax}{H H':Hp}(m:Kp S F H H'):∀{d:PyData} {v:V},ai S H d v->ai S H' d v
 | .none,_,h=>by unfold ai at h⊢;exact h
 | .bool _,_,h=>by unfold ai at h⊢;exact h
 | .int _,_,h=>by unfold ai at h⊢;exact h
 | .str _,_,h=>by unfold ai at h⊢;exact h
 | .list ds,_,h=>by unfold ai at h⊢;obtain⟨a,xs,e,n,s,r⟩:=h;exact⟨a,xs,e,n,m.lst _ _ n s,ah.kp m r⟩
 | .tuple ds,_,h=>by unfold ai at h⊢;obtain⟨a,xs,e,n,s,r⟩:=h;exact⟨a,xs,e,n,m.tup _ _ n s,ah.kp m r⟩
 | .dict kvs,_,h=>by unfold ai at h⊢;obtain⟨a,xs,e,n,s,r⟩:=h;exact⟨a,xs,e,n,m.bR _ _ n s,aB.kp m r⟩
theorem ah.kp{S:ax->Prop}{F:List ax}{H H':Hp}(m:Kp S F H H'):∀{ds:List PyData} {vs:List V},ah S H ds vs->ah S H' ds vs
 |[],_,h=>by unfold ah at h⊢;exact h
 |d::ds,_,h=>by unfold ah at h⊢;obtain⟨y,ys,e,h1,h2⟩:=h;exact⟨y,ys,e,ai.kp m h1,ah.kp m h2⟩
theorem aB.kp{S:ax->Prop}{F:List ax}{H H':Hp}(m:Kp S F H H'):∀{ds:List (PyData×PyData)} {vs:List (Key×V)},aB S H ds vs->aB S H' ds vs
 |[],_,h=>by unfold aB at h⊢;exact h
 |d::ds,_,h=>by unfold aB at h⊢;obtain⟨y,ys,e,h1,h2⟩:=h;exact⟨y,ys,e,cN.kp m h1,aB.kp m h2⟩
theorem cN.kp{S:ax->Prop}{F:List ax}{H H':Hp}(m:Kp S F H H'):∀{d:PyData×PyData} {v:Key×V},cN S H d v->cN S H' d v
 |(k,d),_,h=>by unfold cN at h⊢;exact⟨h.1,ai.kp m h.2⟩
end
structure Cu where
 v:V
 F:List ax
 f:Bool
 P:(ax->Prop)->Hp->Prop
 keep:∀{S:ax->Prop} {H H':Hp},Kp S F H H'->P S H->P S H'
 av:∀{S S':ax->Prop} {H:Hp},(∀a,S' a->S a)->P S H->P S' H
 fresh:∀{S:ax->Prop} {H:Hp} {p:ax},H p=none->P S H->P (λa=>S a\/a=p) H
inductive HD where
 |d (x:PyData)|fz (o:Obj) (ps:List (Key×V))|th (c:Cu)
def gF(S:ax->Prop)(H:Hp):HD->V->Prop
 | .d x,v=>ai S H x v
 | .fz o ps,v=>∃a,v= .ref a/\¬S a/\H a=some (.iF o (.dK ps))
 | .th c,v=>v=c.v/\(∀a∈c.F,¬S a/\H a≠none)/\c.P S H
theorem gF.keep{S:ax->Prop}{H H':Hp}{x:HD}{v:V}(h:gF S H x v)(b:aY S H H'):gF S H' x v:=by
  cases x with
  |d x=>exact ai.keep b h
  |fz o ps=>obtain⟨a,e,n,q⟩:=h;exact⟨a,e,n,b _ _ n q⟩
  | th c =>
    obtain⟨e,n,q⟩:=h;refine⟨e,λa m=>⟨(n a m).1,?_⟩,c.keep (.of λa o m q=>b a o (m.elim id λm=>(n a m).1) q) q⟩;cases z:H a with
    |none=>exact absurd z (n a m).2
    |some o=>rw[b a o (n a m).1 z];exact ie _
theorem gF.av{S S':ax->Prop}{H:Hp}{x:HD}{v:V}(h:gF S H x v)(b:∀a,S' a->S a):gF S' H x v:=by
 cases x with
 |d x=>exact ai.av b h
 |fz o ps=>obtain⟨a,e,n,q⟩:=h;exact⟨a,e,λz=>n (b a z),q⟩
 |th c=>obtain⟨e,n,q⟩:=h;exact⟨e,λa m=>⟨λz=>(n a m).1 (b a z),(n a m).2⟩,c.av b q⟩
theorem gF.fresh{S:ax->Prop}{H:Hp}{x:HD}{v:V}{p:ax}(h:gF S H x v)(hp:H p=none):gF (λa=>S a\/a=p) H x v:=by
 cases x with
 |d x=>exact ai.fresh hp h
 |fz o ps=>obtain⟨a,e,n,q⟩:=h;exact⟨a,e,λz=>z.elim n (iP q hp),q⟩
 |th c=>obtain⟨e,n,q⟩:=h;exact⟨e,λa m=>⟨λz=>z.elim (n a m).1 λy=>(n a m).2 (by rw[y];exact hp),(n a m).2⟩,c.fresh hp q⟩
structure Gx where
 B:Bg
 H0:Hp
 A:ax->Prop
 hold:List (Bool×HD×V):=[]
inductive Sl where
 |no|d (f:Bool) (d:PyData)|own (a:ax) (f:Bool) (ds:List PyData)|az|raw (v:V)|bR (a:ax) (f:Bool) (ks:List (Int×PyData))|cu (c:Cu)
noncomputable def Sl.adr:Sl->List ax
 | .own a _ _=>[a]
 | .bR a _ _=>[a]
 | .cu c=>c.F
 |_=>[]
@[reducible] noncomputable def iX(p:Int×PyData):PyData×PyData:=(.int p.1,p.2)
noncomputable abbrev Rh:=List Sl
def Gx.S(G:Gx)(nb:ax->Prop)(f:Bool):ax->Prop:=λa=>nb a\/G.A a\/¬NB G.B a\/(f=true/\G.H0 a≠none)
def pA(G:Gx)(nb:ax->Prop)(H:Hp)(x:Option V):Sl->Prop
 | .no=>True
 | .d f d=>∃v,x=some v/\ai (G.S nb f) H d v
 | .own a f ds=>x=some (.ref a)/\nb a/\NB G.B a/\∃xs,H a=some (.lst xs)/\ah (G.S nb f) H ds xs
 | .az=>∃b l,G.B=some (b,l)/\x=some (.ref b)
 | .raw v=>x=some v
 | .bR a f ks=>x=some (.ref a)/\nb a/\NB G.B a/\∃ps,H a=some (.dK ps)/\aB (G.S nb f) H (ks.map iX) ps
 | .cu c=>x=some c.v/\(∀a∈c.F,nb a/\NB G.B a)/\c.P (G.S nb c.f) H
structure Wd(G:Gx)(nb:ax->Prop)(ρ:Rh)(σ:qg)(H:Hp):Prop where
 az:j3 G.B H
 live:iK nb H
 old:∀a o,NB G.B a->G.H0 a=some o->H a=some o
 dg:∀a,nb a->NB G.B a->G.H0 a=none
 gA:iK G.A G.H0
 len:σ.length=ρ.length
 gB:j3 G.B G.H0
 eu:∀h∈G.hold,gF (G.S nb h.1) H h.2.1 h.2.2
 ok:∀(i:Nat) (s:Sl),ρ[i]?=some s->∃x,σ[i]?=some x/\pA G nb H x s
 apart:∀(i j:Nat) a f as c g cs,i≠j->ρ[i]?=some (.own a f as)->ρ[j]?=some (.own c g cs)->a≠c
 gJ:∀(i j:Nat) a f as c g cs,i≠j->ρ[i]?=some (.bR a f as)->ρ[j]?=some (.bR c g cs)->a≠c
 eG:∀(i j:Nat) c s,i≠j->ρ[i]?=some (.cu c)->ρ[j]?=some s->∀a∈c.F,a∉s.adr
def Step(B:Bg)(H H':Hp):Prop:=(∀a o,NB B a->H a=some o->H' a=some o)/\j3 B H'
section
variable{G:Gx}{B:Bg}{nb:ax->Prop}{ρ:Rh}{σ:qg}{H H1 H2 H':Hp}{f g:Bool}{d:PyData}{ds:List PyData}{v:V}{xs:List V}{a p:ax}
theorem Step.refl(h:j3 B H):Step B H H:=⟨λ_ _ _ e=>e,h⟩
theorem Step.trans(x:Step B H H1)(y:Step B H1 H2):Step B H H2:=⟨λa o n e=>y.1 a o n (x.1 a o n e),y.2⟩
theorem j3.same(h:j3 B H)(s:cA H H'):j3 B H':=λb l e=>(h b l e).same s
theorem Step.same(h:j3 B H)(s:cA H H'):Step B H H':=⟨λa o _ e=>s a o e,h.same s⟩
theorem Step.but{aN:ax->Prop}(s:Step B H H')(h:∀a,¬NB B a->aN a):aY aN H H':=λa o n e=>s.1 a o (jS λz=>n (h a z)) e
theorem Step.dJ(s:Step G.B H H'):aY (G.S nb f) H H':=s.but λa h=> .inr (.inr (.inl h))
theorem bZ(h:g=true->f=true){aN:ax->Prop}(hn:∀a,nb a->aN a):∀a,G.S nb g a->G.S aN f a:=by
 intro a z;rcases z with z|z|z|⟨z,q⟩
 .exact .inl (hn a z)
 .exact .inr (.inl z)
 .exact .inr (.inr (.inl z))
 .exact .inr (.inr (.inr ⟨h z,q⟩))
theorem NB.nB(h:j3 B H)(n:¬NB B a):H a≠none:=by
 intro e;apply n;intro b l hb z;subst z;obtain⟨_,_,_,_,_,h1,_⟩:=h _ _ hb;rw[h1] at e;cases e
theorem Wd.gp(W:Wd G nb ρ σ H):iK (G.S nb f) H:=by
 intro a z;rcases z with z|z|z|⟨_,z⟩
 .exact W.live a z
 .by_cases n:NB G.B a
  .cases e:G.H0 a with
   |none=>exact absurd e (W.gA a z)
   |some o=>rw[W.old a o n e];exact ie _
  .exact NB.nB W.az n
 .exact NB.nB W.az z
 .by_cases n:NB G.B a
  .cases e:G.H0 a with
   |none=>exact absurd e z
   |some o=>rw[W.old a o n e];exact ie _
  .exact NB.nB W.az n
theorem Wd.fresh(W:Wd G nb ρ σ H)(hp:H p=none):¬G.S nb f p:=λz=>W.gp p z hp
theorem pA.step{x:Option V}{s:Sl}(st:Step G.B H H')(h:pA G nb H x s):pA G nb H' x s:=by
  cases s with
  |no=>trivial
  |d f d=>obtain⟨v,e,h⟩:=h;exact⟨v,e,h.keep st.dJ⟩
  |own a f ds=>obtain⟨e,n,q,xs,hx,hd⟩:=h;exact⟨e,n,q,xs,st.1 _ _ q hx,hd.keep st.dJ⟩
  |az=>exact h
  |raw v=>exact h
  |bR a f ks=>obtain⟨e,n,q,xs,hx,hd⟩:=h;exact⟨e,n,q,xs,st.1 _ _ q hx,hd.keep st.dJ⟩
  | cu c =>
    obtain⟨e,n,p⟩:=h;refine⟨e,n,c.keep (.of λa o ha e=>st.1 a o ?_ e) p⟩;rcases ha with ha|ha
    · exact jS λz=>ha (.inr (.inr (.inl z)))
    · exact(n a ha).2
theorem Md(n:NB B a)(st:Step B H H')(h:H a≠none):H' a≠none:=by
 cases e:H a with
 |none=>exact absurd e h
 |some o=>rw[st.1 a o n e];exact ie _
theorem Wd.step(W:Wd G nb ρ σ H)(st:Step G.B H H'):Wd G nb ρ σ H' where
 az:=st.2
 live:=λa n=>by
  by_cases q:NB G.B a;·exact Md q st (W.live a n)
  .exact NB.nB st.2 q
 old:=λa o n e=>st.1 a o n (W.old a o n e)
 dg:=W.dg
 gA:=W.gA
 len:=W.len
 gB:=W.gB
 eu:=λh m=>(W.eu h m).keep st.dJ
 ok:=λi s e=>by
  obtain⟨x,e1,h⟩:=W.ok i s e;exact⟨x,e1,h.step st⟩
 apart:=W.apart
 gJ:=W.gJ
 eG:=W.eG
theorem Wd.set{i:Nat}{s:Sl}{x:Option V}(W:Wd G nb ρ σ H)(h:pA G nb H x s)(hs:∀a f ds,s= .own a f ds->∀j c g cs,j≠i->ρ[j]?=some (.own c g cs)->a≠c)(hd:∀a f ds,s= .bR a f ds->∀j c g cs,j≠i->ρ[j]?=some (.bR c g cs)->a≠c:=by intro _ _ _ z;cases z)(d:∀a∈s.adr,∀j t,j≠i->ρ[j]?=some t->(∃c,s= .cu c)\/(∃c,t= .cu c)->a∉t.adr:=by intro _ z;cases z):Wd G nb (ρ.set i s) (σ.set i x) H where
 az:=W.az
 live:=W.live
 old:=W.old
 dg:=W.dg
 gA:=W.gA
 len:=by rw[jd,jd];exact W.len
 gB:=W.gB
 eu:=W.eu
 ok:=λj t e=>by
  by_cases hij:i=j
  .subst hij;have hl:i<ρ.length:=by have:=(bT.mp e).1;rwa[jd] at this
   rw[cW hl] at e;cases e;exact⟨x,cW (by rw[W.len];exact hl),h⟩
  .rw[bO hij] at e⊢;exact W.ok j t e
 apart:=λj k a f as c g cs b e1 e2=>by
  by_cases hj:i=j
  .subst hj;have hl:i<ρ.length:=by have:=(bT.mp e1).1;rwa[jd] at this
   rw[cW hl] at e1;cases e1;rw[bO b] at e2;exact hs a f as rfl k c g cs (cB b) e2
  .by_cases hk:i=k
   .subst hk;have hl:i<ρ.length:=by have:=(bT.mp e2).1;rwa[jd] at this
    rw[cW hl] at e2;cases e2;rw[bO hj] at e1;exact(hs c g cs rfl j a f as b e1).symm
   .rw[bO hj] at e1;rw[bO hk] at e2;exact W.apart j k a f as c g cs b e1 e2
 gJ:=λj k a f as c g cs b e1 e2=>by
  by_cases hj:i=j
  .subst hj;have hl:i<ρ.length:=by have:=(bT.mp e1).1;rwa[jd] at this
   rw[cW hl] at e1;cases e1;rw[bO b] at e2;exact hd a f as rfl k c g cs (cB b) e2
  .by_cases hk:i=k
   .subst hk;have hl:i<ρ.length:=by have:=(bT.mp e2).1;rwa[jd] at this
    rw[cW hl] at e2;cases e2;rw[bO hj] at e1;exact(hd c g cs rfl j a f as b e1).symm
   .rw[bO hj] at e1;rw[bO hk] at e2;exact W.gJ j k a f as c g cs b e1 e2
 eG:=λj k c t b e1 e2 a ha=>by
  by_cases hj:i=j
  .subst hj;have hl:i<ρ.length:=by have:=(bT.mp e1).1;rwa[jd] at this
   rw[cW hl] at e1;cases e1;rw[bO b] at e2;exact d a ha k t (cB b) e2 (.inl ⟨c,rfl⟩)
  .by_cases hk:i=k
   .subst hk;have hl:i<ρ.length:=by have:=(bT.mp e2).1;rwa[jd] at this
    rw[cW hl] at e2;cases e2;rw[bO hj] at e1;exact λz=>d a z j (.cu c) b e1 (.inr ⟨c,rfl⟩) ha
   .rw[bO hj] at e1;rw[bO hk] at e2;exact W.eG j k c t b e1 e2 a ha
theorem Wd.nh{i:Nat}(W:Wd G nb ρ σ H)(h:ai (G.S nb f) H d v):Wd G nb (ρ.set i (.d f d)) (σ.set i (some v)) H:=W.set ⟨v,rfl,h⟩ λ_ _ _ e=>by cases e
inductive Wk:Rh->Rh->Prop
 |nil:Wk [] []
 |no {s:Sl} {r r':Rh} (h:Wk r r'):Wk (.no::r) (s::r')
 |eq {s:Sl} {r r':Rh} (h:Wk r r'):Wk (s::r) (s::r')
theorem Wk.at:∀{r r':Rh} {i:Nat} {s:Sl},Wk r r'->r[i]?=some s->s= .no/\(∃t,r'[i]?=some t)\/r'[i]?=some s
 |_,_,_,_, .nil,e=>by simp at e
 |_,_,0,_, .no h,e=>by simp at e;subst e;exact .inl ⟨rfl,_,rfl⟩
 |_,_,0,_, .eq h,e=>by simp at e;subst e;exact .inr rfl
 |_,_,i+1,_, .no h,e=>by simpa using Wk.at (i:=i) h (by simpa using e)
 |_,_,i+1,_, .eq h,e=>by simpa using Wk.at (i:=i) h (by simpa using e)
theorem Wk.len{r r':Rh}(h:Wk r r'):r.length=r'.length:=by
 induction h with
 |nil=>rfl
 |no _ ih=>simp[ih]
 |eq _ ih=>simp[ih]
theorem Wd.wk{C:Rh}(W:Wd G nb C σ H)(h:Wk ρ C):Wd G nb ρ σ H where
 az:=W.az
 live:=W.live
 old:=W.old
 dg:=W.dg
 gA:=W.gA
 len:=by rw[h.len];exact W.len
 gB:=W.gB
 eu:=W.eu
 ok:=λi s e=>by
  rcases h.at e with ⟨rfl,t,e'⟩|e'
  .obtain⟨x,e1,_⟩:=W.ok i t e';exact⟨x,e1,trivial⟩
  .exact W.ok i s e'
 apart:=λi j a f as c g cs hij e1 e2=>by
  rcases h.at e1 with ⟨z,_⟩|mJ
  .cases z
  rcases h.at e2 with ⟨z,_⟩|e2'
  .cases z
  exact W.apart i j a f as c g cs hij mJ e2'
 gJ:=λi j a f as c g cs hij e1 e2=>by
  rcases h.at e1 with ⟨z,_⟩|mJ
  .cases z
  rcases h.at e2 with ⟨z,_⟩|e2'
  .cases z
  exact W.gJ i j a f as c g cs hij mJ e2'
 eG:=λi j c s hij e1 e2 a ha=>by
  rcases h.at e1 with ⟨z,_⟩|mJ
  .cases z
  rcases h.at e2 with ⟨z,_⟩|e2'
  .subst z;exact λz=>by cases z
  exact W.eG i j c s hij mJ e2' a ha
theorem Wd.more(W:Wd G nb ρ σ H)(hp:H p=none){o:HO}:Wd G (λa=>nb a\/a=p) ρ σ (upd H p o):=by
 have U:cA H (upd H p o):=cL hp;have hN:NB G.B p:=λb l e z=>by
  subst z;obtain⟨_,_,_,_,_,h1,_⟩:=W.az _ _ e;rw[h1] at hp;cases hp
 have W':=W.step (Step.same W.az U);have hA:∀f a,G.S (λa=>nb a\/a=p) f a->(G.S nb f a\/a=p):=λf a z=>by
  rcases z with (z|z)|z|z|z
  .exact .inl (.inl z)
  .exact .inr z
  .exact .inl (.inr (.inl z))
  .exact .inl (.inr (.inr (.inl z)))
  .exact .inl (.inr (.inr (.inr z)))
 refine⟨W'.az,λa n=>?_,W'.old,λa n q=>?_,W.gA,W.len,W.gB,λh m=>(((W.eu h m).fresh hp).av (hA h.1)).keep (aY.of U),λi s e=>?_,W.apart,W.gJ,W.eG⟩
 .rcases n with n|n
  .exact W'.live a n
  .subst n;rw[bx];exact ie _
 .rcases n with n|n
  .exact W.dg a n q
  .subst n;cases e:G.H0 a with
   |none=>rfl
   |some o=>rw[W.old a o q e] at hp;cases hp
 .obtain⟨x,e1,h⟩:=W.ok i s e;refine⟨x,e1,?_⟩;cases s with
  |no=>trivial
  |d f d=>obtain⟨v,e,h⟩:=h;exact⟨v,e,((h.fresh hp).av (hA f)).keep (aY.of U)⟩
  |own a f ds=>obtain⟨e,n,q,xs,hx,hd⟩:=h;exact⟨e, .inl n,q,xs,U _ _ hx,((hd.fresh hp).av (hA f)).keep (aY.of U)⟩
  |az=>exact h
  |raw v=>exact h
  |bR a f ds=>obtain⟨e,n,q,xs,hx,hd⟩:=h;exact⟨e, .inl n,q,xs,U _ _ hx,((hd.fresh hp).av (hA f)).keep (aY.of U)⟩
  |cu c=>obtain⟨e,n,q⟩:=h;exact⟨e,λa ha=>⟨.inl (n a ha).1,(n a ha).2⟩,c.keep (.of λa o _ e=>U a o e) (c.av (hA c.f) (c.fresh hp q))⟩
theorem Wd.write(W:Wd G nb ρ σ H){o:HO}(hp:nb p)(hN:NB G.B p)(D:∀(i:Nat) a f ds,ρ[i]?=some (.own a f ds)->a≠p)(g:∀(i:Nat) a f ds,ρ[i]?=some (.bR a f ds)->a≠p)(t:∀(i:Nat) c,ρ[i]?=some (.cu c)->p∉c.F):Wd G nb ρ σ (upd H p o):=by
  have hl:∀b l,G.B=some (b,l)->p≠l:=λb l e z=>by
    obtain⟨_,_,_,_,_,_,h2,_⟩:=W.gB b l e;rw[<-z,W.dg p hp hN] at h2;cases h2
  have O:j3 G.B (upd H p o):=λb l e=>(W.az b l e).put2 ⟨hN b l e,hl b l e⟩;have bt:∀f,aY (G.S nb f) H (upd H p o):=λf=>aY.set (.inl hp);refine⟨O,λa n=>?_,λa o' n e=>?_,W.dg,W.gA,W.len,W.gB,λh m=>(W.eu h m).keep (bt h.1),λi s e=>?_,W.apart,W.gJ,W.eG⟩
  · by_cases z:a=p
    · subst z;rw[bx];exact ie _
    · rw[bq z];exact W.live a n
  · have z:a≠p:=λz=>by subst z;rw[W.dg a hp n] at e;cases e
    rw[bq z];exact W.old a o' n e
  · obtain⟨x,e1,h⟩:=W.ok i s e
    refine⟨x,e1,?_⟩;cases s with
    |no=>trivial
    |d f d=>obtain⟨v,e,h⟩:=h;exact⟨v,e,h.keep (bt f)⟩
    |own a f ds=>obtain⟨e',n,q,xs,hx,hd⟩:=h;exact⟨e',n,q,xs,by rw[bq (D i a f ds e)];exact hx,hd.keep (bt f)⟩
    |az=>exact h
    |raw v=>exact h
    |bR a f ds=>obtain⟨e',n,q,xs,hx,hd⟩:=h;exact⟨e',n,q,xs,by rw[bq (g i a f ds e)];exact hx,hd.keep (bt f)⟩
    | cu c =>
      obtain⟨e',n,q⟩:=h;refine⟨e',n,c.keep (.of λa o' ha j=>?_) q⟩;rw[bq];· exact j
      · rintro rfl
        rcases ha with ha|ha
        · exact ha (.inl hp)
        · exact t i c e ha
end
abbrev Pd:=Bool->PyData->Prop
def Ev(G:Gx)(ρ:Rh)(te:TE)(Φ:Pd):Prop:=∀nb σ H (Q:VK),Wd G nb ρ σ H->(∀f v H' d,Φ f d->Step G.B H H'->ai (G.S nb f) H' d v->Q v H')->te σ H Q
def aq(G:Gx)(ρ:Rh)(te:TE)(Φ:Bool->List PyData->Prop):Prop:=∀nb σ H (Q:VK),Wd G nb ρ σ H->
 (∀f a xs H' ds,Φ f ds->Step G.B H H'->H a=none->H' a=some (.lst xs)->ah (λx=>G.S nb f x\/x=a) H' ds xs->Q (.ref a) H')->te σ H Q
def Tv(G:Gx)(ρ:Rh)(a:TT)(Φ:Bool->Prop):Prop:=∀nb σ H (Q:Bool->Hp->Prop),Wd G nb ρ σ H->(∀b H',Φ b->Step G.B H H'->Q b H')->a σ H Q
def Ov(G:Gx)(ρ:Rh)(to:TO)(Φ:Option Int->Prop):Prop:=∀nb σ H (Q:Option Int->Hp->Prop),Wd G nb ρ σ H->(∀o H',Φ o->Step G.B H H'->Q o H')->to σ H Q
noncomputable abbrev Fd:=Bool×PyData
def jP(G:Gx)(nb:ax->Prop)(H:Hp):List Fd->List V->Prop
 |[],vs=>vs=[]
 |e::es,vs=>∃v ws,vs=v::ws/\ai (G.S nb e.1) H e.2 v/\jP G nb H es ws
def Av(G:Gx)(ρ:Rh)(ta:TA)(Φ:List Fd->Prop):Prop:=∀nb σ H (Q:List V->Hp->Prop),Wd G nb ρ σ H->(∀es vs H',Φ es->Step G.B H H'->jP G nb H' es vs->Q vs H')->ta σ H Q
def Gv(G:Gx)(ρ:Rh)(g:TG)(f:Bool)(d:PyData)(Φ:Rh->Prop):Prop:=∀nb σ H v (Q:qg->Hp->Prop),Wd G nb ρ σ H->ai (G.S nb f) H d v->(∀L C,Φ C->Wd G nb C L H->Q L H)->g v σ H Q
def mW(G:Gx)(ρ:Rh)(g:jb)(f:Bool)(ds:List PyData)(Φ:Rh->Prop):Prop:=∀nb σ H vs (Q:qg->Hp->Prop),Wd G nb ρ σ H->ah (G.S nb f) H ds vs->(∀L C,Φ C->Wd G nb C L H->Q L H)->g vs σ H Q
structure DE where
 nx:Rh->Prop
 rt:Pd
 bk:Rh->Prop:=λ_=>False
 ct:Rh->Prop:=λ_=>False
 rw:(ax->Prop)->Rh->V->Hp->Prop:=λ_ _ _ _=>False
structure Cb(G:Gx)(E:DE)(D:Ends):Prop where
 nx:∀nb ρ σ H,E.nx ρ->Wd G nb ρ σ H->D.nx σ H
 bk:∀nb ρ σ H,E.bk ρ->Wd G nb ρ σ H->D.bk σ H
 ct:∀nb ρ σ H,E.ct ρ->Wd G nb ρ σ H->D.ct σ H
 rt:∀nb ρ σ f v H d,E.rt f d->Wd G nb ρ σ H->ai (G.S (λ_=>False) f) H d v->D.rt v H
 rw:∀nb ρ σ v H,E.rw nb ρ v H->Wd G nb ρ σ H->D.rt v H
def Sv(G:Gx)(ρ:Rh)(b:TS)(E:DE):Prop:=∀nb σ H D,Wd G nb ρ σ H->Cb G E D->b D σ H
noncomputable def jH:PyData->Bool
 | .none=>true| .bool _=>true| .int _=>true| .str _=>true|_=>false
noncomputable def toV:PyData->V
 | .bool b=> .bl b| .int i=> .int i| .str x=> .str x|_=> .aL
section
variable{nb aN:ax->Prop}{H H':Hp}{d e:PyData}{v:V}
theorem ai.sc(h:jH d=true):ai nb H d (toV d):=by
 cases d<;>first|(cases h;done)|(unfold ai;rfl)
theorem ai.Xh(h:jH d=true)(q:ai nb H d v):v=toV d:=by
 cases d<;>first|(cases h;done)|(unfold ai at q;exact q)
theorem ai.lU(h:jH d=true)(q:ai nb H d v):ai aN H' d v:=by
 rw[q.Xh h];exact .sc h
theorem ah.lU:∀{ds:List PyData} {xs:List V},ds.all jH=true->ah nb H ds xs->ah aN H' ds xs
  |[],_,_,q=>by unfold ah at q⊢;exact q
  | d :: ds, _, h, q => by
    rw[rL,eY] at h;unfold ah at q⊢;obtain⟨y,ys,e,h1,h2⟩:=q;exact⟨y,ys,e,h1.lU h.1,ah.lU h.2 h2⟩
end
section
variable{G:Gx}{ρ:Rh}{Φ Ψ:Pd}{ta tb te:TE}{t:TA}{i:Nat}{f g:Bool}{d e:PyData}{ds es:List PyData}{K:PySem.W.Frag}
theorem Ev.mono(h:Ev G ρ te Ψ)(q:∀f d,Ψ f d->Φ f d):Ev G ρ te Φ:=λnb σ H Q W z=>h nb σ H Q W λf v H' d p=>z f v H' d (q f d p)
theorem aq.ev(h:aq G ρ te λf ds=>Φ f (.list ds)):Ev G ρ te Φ:=λnb σ H Q W z=>h nb σ H Q W λf a xs H' ds p st n e hd=>
 z f _ H' _ p st (.lst (W.fresh n) e (hd.av λ_ x=> .inl x))
namespace Ev
theorem var(e:ρ[i]?=some (.d f d))(h:Φ f d):Ev G ρ (cH i) Φ:=λnb σ H Q W z=>by
 obtain⟨x,e1,v,rfl,hd⟩:=W.ok i _ e;exact⟨v,e1,z f v H d h (.refl W.az) hd⟩
theorem int{n:Int}(h:Φ true (.int n)):Ev G ρ (tC (.int n)) Φ:=λnb σ H Q W z=>z true _ H _ h (.refl W.az) (.int n)
theorem bl{b:Bool}(h:Φ true (.bool b)):Ev G ρ (tC (.bl b)) Φ:=λnb σ H Q W z=>z true _ H _ h (.refl W.az) (.bl b)
theorem aL(h:Φ true .none):Ev G ρ (tC .aL) Φ:=λnb σ H Q W z=>z true _ H _ h (.refl W.az) .aL
theorem kR{r:R2}(h:Ev G ρ ta λf x=>Ev G ρ tb λg y=>∀nb σ H u v (Q:VK),Wd G nb ρ σ H->ai (G.S nb f) H x u->ai (G.S nb g) H y v->(∀f w H' d,Φ f d->Step G.B H H'->ai (G.S nb f) H' d w->Q w H')->r u v H Q):Ev G ρ (dM r ta tb) Φ:=λnb σ H Q W z=>
 h nb σ H _ W λf a H1 d1 j s1 J=>j nb σ H1 _ (W.step s1) λg v2 H2 X p2 s2 O=>p2 nb σ H2 _ _ _ ((W.step s1).step s2) (J.keep s2.dJ) O λf w H' d p st q=>z f w H' d p (s1.trans (s2.trans st)) q
theorem rI{C:Int->Int->Prop}{k:Int->Int->Int}(h:Ev G ρ ta λ_ x=>∃i,x= .int i/\Ev G ρ tb λ_ y=>∃j,y= .int j/\C i j/\Φ true (.int (k i j))):Ev G ρ (dM (L2.rI C λi j=> .int (k i j)) ta tb) Φ:=
 kR (h.mono λf x ⟨i,ex,q⟩=>q.mono λg y ⟨j,o,hc,p⟩ nb σ H u v Q W hu hv z=>by
  subst ex o;exact⟨i,j,hu.cP,hv.cP,hc,z true _ H _ p (.refl W.az) (.int _)⟩)
theorem je{k:Int->Int->Int}(h:Ev G ρ ta λ_ x=>∃i,x= .int i/\Ev G ρ tb λ_ y=>∃j,y= .int j/\Φ true (.int (k i j))):Ev G ρ (dM (L2.je λi j=> .int (k i j)) ta tb) Φ:=
 kR (h.mono λf x ⟨i,ex,q⟩=>q.mono λg y ⟨j,o,p⟩ nb σ H u v Q W hu hv z=>by
  subst ex o;exact⟨i,j,hu.cP,hv.cP,z true _ H _ p (.refl W.az) (.int _)⟩)
theorem G3{k:Int->Int->Bool}(h:Ev G ρ ta λ_ x=>∃i,x= .int i/\Ev G ρ tb λ_ y=>∃j,y= .int j/\Φ true (.bool (k i j))):Ev G ρ (dM (L2.je λi j=> .bl (k i j)) ta tb) Φ:=
 kR (h.mono λf x ⟨i,ex,q⟩=>q.mono λg y ⟨j,o,p⟩ nb σ H u v Q W hu hv z=>by
  subst ex o;exact⟨i,j,hu.cP,hv.cP,z true _ H _ p (.refl W.az) (.bl _)⟩)
theorem un{r:V->Hp->VK->Prop}(h:Ev G ρ ta λf x=>∀nb σ H u (Q:VK),Wd G nb ρ σ H->ai (G.S nb f) H x u->(∀f w H' d,Φ f d->Step G.B H H'->ai (G.S nb f) H' d w->Q w H')->r u H Q):Ev G ρ (DZ r ta) Φ:=λnb σ H Q W z=>
 h nb σ H _ W λf a H1 d1 j s1 J=>j nb σ H1 _ _ (W.step s1) J λf w H' d p st q=>z f w H' d p (s1.trans st) q
theorem rU{k:Int->Int}(h:Ev G ρ ta λ_ x=>∃i,x= .int i/\Φ true (.int (k i))):Ev G ρ (DZ (L2.rU λi=> .int (k i)) ta) Φ:=
 un (h.mono λf x ⟨i,ex,p⟩ nb σ H u Q W hu z=>by subst ex;exact⟨i,hu.cP,z true _ H _ p (.refl W.az) (.int _)⟩)
end Ev
inductive iC:PyData->PyData->Bool->Prop
 |ii (i j:Int):iC (.int i) (.int j) (decide (i=j))
 |ni (i:Int):iC .none (.int i) false
 |Pt (i:Int):iC (.int i) .none false
 |nn:iC .none .none true
 |bb (a b:Bool):iC (.bool a) (.bool b) (a==b)
 |ss (x:Str):iC (.str x) (.str x) true
 |sd (x y:Str):iC (.str x) (.str y) (decide (x=y))
theorem iC.v{nb aN:ax->Prop}{H:Hp}{x y:PyData}{b:Bool}{u v:V}(h:iC x y b)(hu:ai nb H x u)(hv:ai aN H y v):El u v=true/\decide (u=v)=b:=by
 cases h<;>(unfold ai at hu hv;subst hu hv;refine⟨rfl,?_⟩);·exact R.Bm
 .rfl
 .rfl
 .rfl
 .rename_i a b;cases a<;>cases b<;>rfl
 .exact decide_eq_true rfl
 .rename_i x y
  by_cases c:x=y;·subst c;rw[decide_eq_true rfl,decide_eq_true rfl]
  .rw[decide_eq_false c,decide_eq_false (λz=>c (V.str.inj z))]
theorem iC.self{d:PyData}(h:jH d=true):iC d d true:=by
 cases d<;>first|(cases h;done)|skip
 .exact .nn
 .rename_i b;have:=iC.bb b b;rwa[beq_self_eq_true] at this
 .rename_i i;have:=iC.ii i i;rwa[decide_eq_true rfl] at this
 .exact .ss _
namespace Ev
theorem eq(h:Ev G ρ ta λ_ x=>Ev G ρ tb λ_ y=>∃b,iC x y b/\Φ true (.bool b)):Ev G ρ (dM BP ta tb) Φ:=
 kR (h.mono λf x q=>q.mono λg y ⟨b,e,p⟩ nb σ H u v Q W hu hv z=>by
  obtain⟨h1,h2⟩:=e.v hu hv;exact⟨h1,by rw[h2];exact z true _ H _ p (.refl W.az) (.bl _)⟩)
theorem ne(h:Ev G ρ ta λ_ x=>Ev G ρ tb λ_ y=>∃b,iC x y b/\Φ true (.bool !b)):Ev G ρ (dM wj ta tb) Φ:=
 kR (h.mono λf x q=>q.mono λg y ⟨b,e,p⟩ nb σ H u v Q W hu hv z=>by
  obtain⟨h1,h2⟩:=e.v hu hv;exact⟨h1,by rw[h2];exact z true _ H _ p (.refl W.az) (.bl _)⟩)
theorem Wm{b:Bool}(h:Ev G ρ ta λ_ x=>Ev G ρ tb λ_ y=>de x=true/\de y=true/\Φ true (.bool (dE x y !=b))):Ev G ρ (dM (w4 b) ta tb) Φ:=
 kR (h.mono λf x q=>q.mono λg y ⟨h1,h2,p⟩ nb σ H u v Q W hu hv z=>
  ⟨G.S nb false,x,y,hu.av (bZ (λz=>by cases z) λ_ z=>z),hv.av (bZ (λz=>by cases z) λ_ z=>z),h1,h2,z true _ H _ p (.refl W.az) (.bl _)⟩)
end Ev
noncomputable def uf:PyData->Bool
 | .none=>true
 |_=>false
theorem N4{nb:ax->Prop}{H:Hp}{d:PyData}{v:V}(h:ai nb H d v):decide (v= .aL)=uf d:=by
 cases d<;>unfold ai at h
 all_goals first
  |(subst h;rfl)
  |(obtain⟨a,xs,rfl,_⟩:=h;rfl)
  |exact h.elim
namespace Ev
theorem is(h:Ev G ρ ta λ_ x=>Φ true (.bool (uf x))):Ev G ρ (dM Ot ta (tC .aL)) Φ:=
 kR (h.mono λf x p=>Ev.aL λnb σ H u v Q W hu hv z=>⟨hv.zW,by rw[N4 hu];exact z true _ H _ p (.refl W.az) (.bl _)⟩)
theorem Yc(h:Ev G ρ ta λ_ x=>Φ true (.bool !uf x)):Ev G ρ (dM wG ta (tC .aL)) Φ:=
 kR (h.mono λf x p=>Ev.aL λnb σ H u v Q W hu hv z=>⟨hv.zW,by rw[N4 hu];exact z true _ H _ p (.refl W.az) (.bl _)⟩)
end Ev
theorem ah.bC{nb:ax->Prop}{H:Hp}{ds:List PyData}{xs:List V}{k:Int}{e:PyData}(h:ah nb H ds xs)(q:L2.bC ds k=some e):∃v,L2.bC xs k=some v/\ai nb H e v:=by
 unfold L2.bC at q⊢;rw[h.length];cases z:ir ds.length k with
 |none=>rw[z] at q;cases q
 |some j=>rw[z] at q;exact h.get q
namespace Ev
theorem SR(h:Ev G ρ ta λf x=>∃ds,x= .list ds/\Ev G ρ tb λ_ y=>∃k,y= .int k/\∃e,bC ds k=some e/\Φ f e):Ev G ρ (dM (bG K) ta tb) Φ:=
 kR (h.mono λf x ⟨ds,ex,q⟩=>q.mono λg y ⟨k,o,e,he,p⟩ nb σ H u v Q W hu hv z=>by
  subst ex o;obtain⟨a,xs,rfl,n,hx,hd⟩:=hu.eN;obtain⟨w,hw,j⟩:=hd.bC he;exact⟨a,xs,k,w,rfl,hv.cP, .of hx,hw,z f _ H _ p (.refl W.az) j⟩)
theorem mh(h:Ev G ρ ta λf x=>∃ds,x= .tuple ds/\Ev G ρ tb λ_ y=>∃k,y= .int k/\∃e,bC ds k=some e/\Φ f e):Ev G ρ (dM (aT K) ta tb) Φ:=
 kR (h.mono λf x ⟨ds,ex,q⟩=>q.mono λg y ⟨k,o,e,he,p⟩ nb σ H u v Q W hu hv z=>by
  subst ex o;obtain⟨a,xs,rfl,n,hx,hd⟩:=hu.ofT;obtain⟨w,hw,j⟩:=hd.bC he;exact⟨a,xs,k,w,rfl,hv.cP, .of hx,hw,z f _ H _ p (.refl W.az) j⟩)
theorem Lr{a:ax}(e:ρ[i]?=some (.own a f ds))(h:Ev G ρ tb λ_ y=>∃k,y= .int k/\∃e,bC ds k=some e/\Φ f e):Ev G ρ (dM (bG K) (cH i) tb) Φ:=λnb σ H Q W z=>by
 obtain⟨x,e1,h1,h2,h3,xs,hx,hd⟩:=W.ok i _ e;subst h1;refine⟨.ref a,e1,h nb σ H _ W λg w H1 y ⟨k,o,e',he,p⟩ s1 hv=>?_⟩;subst o;obtain⟨u,hu,j⟩:=(hd.keep s1.dJ).bC he;exact⟨a,xs,k,u,rfl,hv.cP, .of (s1.1 _ _ h3 hx),hu,z f _ H1 _ p s1 j⟩
theorem KQ(h:Ev G ρ ta λ_ x=>∃b,x= .bool b/\if b=true then Ev G ρ tb Φ else Φ true (.bool false)):Ev G ρ (EI ta tb) Φ:=λnb σ H Q W z=>
 h nb σ H _ W λf v H1 d ⟨b,e,q⟩ s1 hv=>by
  subst e;refine⟨b,by unfold ai at hv;exact hv,?_⟩;cases b with
  |true=>rw[if_pos rfl] at q⊢;exact q nb σ H1 _ (W.step s1) λf v H' d p st=>z f v H' d p (s1.trans st)
  |false=>rw[if_neg cO] at q⊢;exact z true _ H1 _ q s1 (.bl false)
theorem Jk{c:TT}(h:Tv G ρ c λb=>if b=true then Ev G ρ ta Φ else Ev G ρ tb Φ):Ev G ρ (Hv c ta tb) Φ:=λnb σ H Q W z=>
 h nb σ H _ W λb H1 q s1=>by
  cases b with
  |true=>rw[if_pos rfl] at q⊢;exact q nb σ H1 _ (W.step s1) λf v H' d p st=>z f v H' d p (s1.trans st)
  |false=>rw[if_neg cO] at q⊢;exact q nb σ H1 _ (W.step s1) λf v H' d p st=>z f v H' d p (s1.trans st)
end Ev
namespace Tv
variable{Θ:Bool->Prop}{t u:TT}
theorem test(h:Ev G ρ te λ_ x=>∃b,x= .bool b/\Θ b):Tv G ρ (sV te) Θ:=λnb σ H Q W z=>
 h nb σ H _ W λf v H1 d ⟨b,e,q⟩ s1 hv=>by subst e;exact⟨b,by unfold ai at hv;exact hv,z b H1 q s1⟩
theorem and(h:Tv G ρ t λb=>if b=true then Tv G ρ u Θ else Θ false):Tv G ρ (GJ t u) Θ:=λnb σ H Q W z=>
 h nb σ H _ W λb H1 q s1=>by
  cases b with
  |true=>rw[if_pos rfl] at q⊢;exact q nb σ H1 _ (W.step s1) λb H' p st=>z b H' p (s1.trans st)
  |false=>rw[if_neg cO] at q⊢;exact z false H1 q s1
theorem or(h:Tv G ρ t λb=>if b=true then Θ true else Tv G ρ u Θ):Tv G ρ (Ig t u) Θ:=λnb σ H Q W z=>
 h nb σ H _ W λb H1 q s1=>by
  cases b with
  |false=>rw[if_neg cO] at q⊢;exact q nb σ H1 _ (W.step s1) λb H' p st=>z b H' p (s1.trans st)
  |true=>rw[if_pos rfl] at q⊢;exact z true H1 q s1
theorem not(h:Tv G ρ t λb=>Θ (!b)):Tv G ρ (Pz t) Θ:=λnb σ H Q W z=>h nb σ H _ W λb H1 q s1=>z _ H1 q s1
theorem uU(h:Θ true):Tv G ρ r6 Θ:=λnb σ H Q W z=>z true H h (.refl W.az)
end Tv
def OL(K:PySem.W.Frag)(ta:TE):TT:=λσ H Q=>ta σ H λx H1=>∃k,EY K x H1 k/\Q k H1
theorem Tv.z0{Θ:Bool->Prop}(h:Ev G ρ te λ_ x=>∃b,x= .bool b/\Θ b):Tv G ρ (OL K te) Θ:=λnb σ H Q W z=>
 h nb σ H _ W λf v H1 d ⟨b,e,q⟩ s1 hv=>by subst e;exact⟨b,by unfold ai at hv;subst hv;rfl,z b H1 q s1⟩
namespace Av
variable{Θ:List Fd->Prop}
theorem nil(h:Θ []):Av G ρ bM Θ:=λnb σ H Q W z=>z [] [] H h (.refl W.az) rfl
theorem cons(h:Ev G ρ te λf d=>Av G ρ t λes=>Θ ((f,d)::es)):Av G ρ (bz te t) Θ:=λnb σ H Q W z=>
 h nb σ H _ W λf v H1 d j s1 J=>j nb σ H1 _ (W.step s1) λes vs H2 p2 s2 O=>z _ _ H2 p2 (s1.trans s2) ⟨v,vs,rfl,J.keep s2.dJ,O⟩
theorem G4{is:List Int}(h:Θ (is.map λi=>(true, .int i))):Av G ρ (yD is) Θ:=λnb σ H Q W z=>z _ _ H h (.refl W.az) (by
 clear h;induction is with
 |nil=>rfl
 |cons i r ih=>exact⟨_,_,rfl, .int i,ih⟩)
end Av
noncomputable def gz(es:List Fd):Bool:=es.all (·.1)
theorem jP.all{nb:ax->Prop}{H:Hp}:∀{es:List Fd} {vs:List V} {f:Bool},jP G nb H es vs->(f=true->gz es=true)->ah (G.S nb f) H (es.map (·.2)) vs
  |[],_,_,h,_=>by unfold jP at h;subst h;exact .nil
  | e :: es, _, f, h, hf => by
    obtain⟨v,ws,rfl,h1,h2⟩:=h;refine .cons (h1.av (bZ (λz=>?_) λ_ z=>z)) (h2.all λz=>?_);· have:=hf z;simp only[gz,rL,eY] at this;exact this.1
    · have:=hf z;simp only[gz,rL,eY] at this;exact this.2
theorem jP.len{nb:ax->Prop}{H:Hp}{es:List Fd}{vs:List V}(h:jP G nb H es vs):vs.length=es.length:=by
 have:=(h.all (f:=false) (λz=>by cases z)).length;simpa using this
theorem aq.lst{Φ:Bool->List PyData->Prop}(h:Av G ρ t λes=>es.length<=10000/\Φ (gz es) (es.map (·.2))):aq G ρ (rN t) Φ:=λnb σ H Q W z=>
  h nb σ H _ W λes vs H1 ⟨hl,p⟩ s1 J=>⟨eS (by rw[J.len];exact hl) ⋯,λa ha=>by
    have W1:=W.step s1;refine z _ a vs _ _ p (s1.trans (.same W1.az (cL ha))) ?_ bx (((J.all λz=>z).fresh ha).keep (aY.of (cL ha)));cases e:H a with
    |none=>rfl
    | some o =>
      by_cases n:NB G.B a;· rw[s1.1 a o n e] at ha;cases ha
      · exact absurd ha (NB.nB s1.2 n)⟩
theorem Ev.lst(h:Av G ρ t λes=>es.length<=10000/\Φ (gz es) (.list (es.map (·.2)))):Ev G ρ (rN t) Φ:=(aq.lst (Φ:=λf ds=>Φ f (.list ds)) h).ev
end
def eX(K:PySem.W.Frag):List V->Hp->VK->Prop:=λxs H Q=>∃p ys,xs=[.ref p]/\(aZ K H p ys\/dX K H p ys)/\Q (.int ys.length) H
theorem gk{X:Cx}:fK X (.builtin "len") (eX X.K):=IP
def O6:List V->Hp->VK->Prop:=λxs H Q=>∃i j,xs=[.int i, .int j]/\Q (.int (if j<i then j else i)) H
def Jp:List V->Hp->VK->Prop:=λxs H Q=>(∃i,xs=[.int i]/\Q (.int i) H)\/∃k,xs=[.bl k]/\Q (.int (if k then 1 else 0)) H
theorem Xs{X:Cx}(hc:X.calm=true):fK X (.builtin "min") O6:=QK hc
theorem HK{X:Cx}:fK X (.type "int") Jp:=VI
noncomputable def g7{α:Type}(xs:List α)(lo hi:Option Int):List α:=(xs.drop (HT.eE xs.length 0 lo)).take (HT.eE xs.length xs.length hi-HT.eE xs.length 0 lo)
theorem ah.cut{nb:ax->Prop}{H:Hp}{ds:List PyData}{xs:List V}{lo hi:Option Int}(h:ah nb H ds xs):ah nb H (g7 ds lo hi) (k7 xs lo hi):=by
 unfold g7 k7;rw[h.length];exact(h.drop _).take _
noncomputable def gh(ds:List PyData):Bool:=ds.all jH
section
variable{G:Gx}{ρ:Rh}{Φ Ψ:Pd}{ta tb te:TE}{t:TA}{i:Nat}{f g:Bool}{d e:PyData}{ds es:List PyData}{K:PySem.W.Frag}
theorem Wd.none_of{nb:ax->Prop}{σ:qg}{H H1:Hp}{a:ax}(W:Wd G nb ρ σ H)(s1:Step G.B H H1)(ha:H1 a=none):H a=none:=by
  cases e:H a with
  |none=>rfl
  | some o =>
    by_cases n:NB G.B a;· rw[s1.1 a o n e] at ha;cases ha
    · exact absurd ha (NB.nB s1.2 n)
theorem aq.fin{nb:ax->Prop}{σ:qg}{H H1:Hp}{Q:VK}{Φ:Bool->List PyData->Prop}{a:ax}{xs:List V}(W:Wd G nb ρ σ H)(s1:Step G.B H H1)(ha:H1 a=none)(hd:ah (G.S nb f) H1 ds xs)(p:Φ (f||gh ds) ds)
  (z:∀f a xs H' ds,Φ f ds->Step G.B H H'->H a=none->H' a=some (.lst xs)->ah (λx=>G.S nb f x\/x=a) H' ds xs->Q (.ref a) H'):Q (.ref a) (upd H1 a (.lst xs)):=by
 refine z _ a xs _ ds p (s1.trans (.same s1.2 (cL ha))) (W.none_of s1 ha) bx ?_;cases hs:gh ds with
 |true=>exact ah.lU hs hd
 |false=>rw[p6];exact(hd.fresh ha).keep (aY.of (cL ha))
namespace Ov
variable{Θ:Option Int->Prop}
theorem none(h:Θ none):Ov G ρ GO Θ:=λnb σ H Q W z=>z _ H h (.refl W.az)
theorem some(h:Ev G ρ te λ_ x=>∃k,x= .int k/\Θ (some k)):Ov G ρ (Cg te) Θ:=λnb σ H Q W z=>
 h nb σ H _ W λf v H1 d ⟨k,e,q⟩ s1 hv=>by subst e;exact⟨k,hv.cP,z _ H1 q s1⟩
end Ov
namespace aq
variable{Θ:Bool->List PyData->Prop}
theorem sl{tl th:TO}(h:Ev G ρ te λf x=>∃ds,x= .list ds/\Ov G ρ tl λlo=>Ov G ρ th λhi=>Θ (f||gh (g7 ds lo hi)) (g7 ds lo hi)):aq G ρ (se (kN K) te tl th) Θ:=λnb σ H Q W z=>
 h nb σ H _ W λf v H1 d ⟨ds,e,q⟩ s1 hv=>q nb σ H1 _ (W.step s1) λlo H2 O s2=>O nb σ H2 _ ((W.step s1).step s2) λhi H3 Y s3=>by
  subst e;obtain⟨a,xs,rfl,n,hx,hd⟩:=((hv.keep s2.dJ).keep s3.dJ).eN;exact⟨a,xs,rfl, .of hx,λp hp=>aq.fin W (s1.trans (s2.trans s3)) hp hd.cut Y z⟩
theorem listOf(h:Ev G ρ te λf x=>∃ds,(x= .list ds\/x= .tuple ds)/\Θ (f||gh ds) ds):aq G ρ (fq (iS K) (bz te bM)) Θ:=λnb σ H Q W z=>
 h nb σ H _ W λf v H1 d ⟨ds,e,q⟩ s1 hv=>by
  rcases e with e|e
  .subst e;obtain⟨a,xs,rfl,n,hx,hd⟩:=hv.eN;exact⟨a,xs,rfl, .inl (.of hx),λp hp=>aq.fin W s1 hp hd q z⟩
  .subst e;obtain⟨a,xs,rfl,n,hx,hd⟩:=hv.ofT;exact⟨a,xs,rfl, .inr (.of hx),λp hp=>aq.fin W s1 hp hd q z⟩
theorem cat(h:Ev G ρ ta λf x=>∃ds,x= .list ds/\Ev G ρ tb λg y=>∃es,y= .list es/\ds.length+es.length<=10000/\Θ ((f && g)||gh (ds++es)) (ds++es)):aq G ρ (dM Cv ta tb) Θ:=λnb σ H Q W z=>
 h nb σ H _ W λf v H1 d ⟨ds,e,q⟩ s1 hv=>q nb σ H1 _ (W.step s1) λg u H2 X ⟨es,e2,hl,p⟩ s2 hu=>by
  subst e e2;obtain⟨a,xs,rfl,n,hx,hd⟩:=(hv.keep s2.dJ).eN;obtain⟨c,ys,rfl,m,hy,hc⟩:=hu.eN;refine⟨a,c,xs,ys,rfl,rfl,hx,hy,eS (by rw[hd.length,hc.length];exact hl) ⋯,λr hp=>aq.fin (f:=f && g) W (s1.trans s2) hp ?_ p z⟩;exact ah.append (hd.av (bZ (λz=>(eY _ _▸z).1) λ_ z=>z)) (hc.av (bZ (λz=>(eY _ _▸z).2) λ_ z=>z))
end aq
namespace Ev
theorem sl{tl th:TO}(h:Ev G ρ te λf x=>∃ds,x= .list ds/\Ov G ρ tl λlo=>Ov G ρ th λhi=>Φ (f||gh (g7 ds lo hi)) (.list (g7 ds lo hi))):Ev G ρ (se (kN K) te tl th) Φ:=(aq.sl (Θ:=λf ds=>Φ f (.list ds)) h).ev
theorem listOf(h:Ev G ρ te λf x=>∃ds,(x= .list ds\/x= .tuple ds)/\Φ (f||gh ds) (.list ds)):Ev G ρ (fq (iS K) (bz te bM)) Φ:=(aq.listOf (Θ:=λf ds=>Φ f (.list ds)) h).ev
theorem cat(h:Ev G ρ ta λf x=>∃ds,x= .list ds/\Ev G ρ tb λg y=>∃es,y= .list es/\ds.length+es.length<=10000/\Φ ((f && g)||gh (ds++es)) (.list (ds++es))):Ev G ρ (dM Cv ta tb) Φ:=(aq.cat (Θ:=λf ds=>Φ f (.list ds)) h).ev
theorem KE{a:ax}(e:ρ[i]?=some (.own a f ds))(h:Φ true (.int ds.length)):Ev G ρ (fq (eX K) (bz (cH i) bM)) Φ:=λnb σ H Q W z=>by
 obtain⟨x,e1,h1,h2,h3,xs,hx,hd⟩:=W.ok i _ e;subst h1;exact⟨.ref a,e1,a,xs,rfl, .inl (.of hx),by rw[hd.length];exact z true _ H _ h (.refl W.az) (.int _)⟩
theorem min2(h:Ev G ρ ta λ_ x=>∃i,x= .int i/\Ev G ρ tb λ_ y=>∃j,y= .int j/\Φ true (.int (if j<i then j else i))):Ev G ρ (fq O6 (bz ta (bz tb bM))) Φ:=λnb σ H Q W z=>
 h nb σ H _ W λf v H1 d ⟨i,e,q⟩ s1 hv=>q nb σ H1 _ (W.step s1) λg u H2 X ⟨j,e2,p⟩ s2 hu=>by
  subst e e2;exact⟨i,j,by rw[hv.cP,hu.cP],z true _ H2 _ p (s1.trans s2) (.int _)⟩
theorem Zd(h:Ev G ρ ta λ_ x=>∃b,x= .bool b/\Φ true (.int (if b then 1 else 0))):Ev G ρ (fq Jp (bz ta bM)) Φ:=λnb σ H Q W z=>
 h nb σ H _ W λf v H1 d ⟨b,e,q⟩ s1 hv=>by subst e;unfold ai at hv;subst hv;exact .inr ⟨b,rfl,z true _ H1 _ q s1 (.int _)⟩
end Ev
abbrev DF:=List PyData->Pd->Prop
def aU(n:Nat)(F:DF):Sp:=λvs H Q _=>vs.length=n/\∃(nb:ax->Prop) (ds:List PyData),iK nb H/\ah nb H ds vs/\F ds λf d=>∀v H',cA H H'->ai (λa=>nb a\/(f=true/\H a≠none)) H' d v->Q v H'
def fP(n:Nat)(F:DF):Sp:=λvs H Q _=>vs.length=n/\∃(b l:ax) (ws:List V) (nb:ax->Prop) (ds:List PyData),vs= .ref b::ws/\ez H b l/\iK nb H/\nb b/\ah nb H ds ws/\
 F ds λf d=>∀v H',aY (Nb b) H H'->ez H' b l->ai (λa=>nb a\/(f=true/\H a≠none)) H' d v->Q v H'
def cM(F:DF):Prop:=∀ds (Φ Ψ:Pd),F ds Φ->(∀f d,Φ f d->Ψ f d)->F ds Ψ
theorem Ev.cZ{n:Nat}{F:DF}(hm:cM F)(h:Av G ρ t λes=>es.length=n/\F (es.map (·.2)) λf d=>Φ (f||gz es) d):Ev G ρ (gm (aU n F) [] E0 t) Φ:=λnb σ H Q W z=>
 h nb σ H _ W λes vs H1 ⟨hl,p⟩ s1 J=>by
  have W1:=W.step s1;rw[fY];refine⟨by rw[J.len,hl],G.S nb (gz es),es.map (·.2),W1.gp,J.all λz=>z,hm _ _ _ p λf d hp v H' sm hd=>z _ v H' d hp (s1.trans (.same W1.az sm)) (hd.av λa q=>?_)⟩;cases f with
  |false=>rw[qK] at q;exact .inl q
  |true=>exact .inr ⟨rfl,W1.gp a q⟩
theorem Step.yT{b l:ax}{H H':Hp}(O:G.B=some (b,l))(bt:aY (Nb b) H H')(c:ez H' b l):Step G.B H H':=
 ⟨λa o n e=>bt a o (n b l O) e,λw k e=>by rw[O] at e;cases e;exact c⟩
theorem Wd.v8{nb:ax->Prop}{σ:qg}{H:Hp}(W:Wd G nb ρ σ H)(e:ρ[i]?=some .az):∃b l,G.B=some (b,l)/\σ[i]?=some (some (.ref b))/\ez H b l:=by
 obtain⟨x,e1,b,l,O,rfl⟩:=W.ok i _ e;exact⟨b,l,O,e1,W.az b l O⟩
theorem Ev.iO{n:Nat}{F:DF}(hm:cM F)(e:ρ[i]?=some .az)(h:Av G ρ t λes=>es.length+1=n/\F (es.map (·.2)) λf d=>Φ (f||gz es) d):Ev G ρ (gm (fP n F) [] E0 (bz (cH i) t)) Φ:=λnb σ H Q W z=>by
 obtain⟨b,l,O,e1,B⟩:=W.v8 e;refine⟨.ref b,e1,h nb σ H _ W λes vs H1 ⟨hl,p⟩ s1 J=>?_⟩;have W1:=W.step s1;show fP n F ((V.ref b::vs)++[]) H1 Q E0;rw[fY];have hb:∀f,G.S nb f b:=λf=> .inr (.inr (.inl λn=>n b l O rfl));refine⟨by rw[eB,J.len,hl],b,l,vs,G.S nb (gz es),es.map (·.2),rfl,W1.az b l O,W1.gp,hb _,J.all λz=>z,hm _ _ _ p λf d hp v H' bt c hd=>z _ v H' d hp (s1.trans (.yT O bt c)) (hd.av λa q=>?_)⟩;cases f with
 |false=>rw[qK] at q;exact .inl q
 |true=>exact .inr ⟨rfl,W1.gp a q⟩
theorem Ev.draw(e:ρ[i]?=some .az)(h:Ev G ρ te λ_ x=>∃m:Int,x= .int m/\0<m/\Sm m/\∀r:Int,0<=r->r<m->Φ true (.int r)):Ev G ρ (gm kH [] E0 (bz (cH i) (bz te bM))) Φ:=λnb σ H Q W z=>by
 obtain⟨b,l,O,e1,B⟩:=W.v8 e;refine⟨.ref b,e1,h nb σ H _ W λf v H1 d ⟨m,a,h1,h2,p⟩ s1 hv=>?_⟩;subst a;exact⟨b,l,m,by rw[hv.cP];rfl,s1.2 b l O,h1,h2,λr H' C U bt c=>z true _ H' _ (p r C U) (s1.trans (.yT O bt c)) (.int r)⟩
theorem Ev.total(h:Av G ρ t λes=>∃(p:Int) (prs:List (Int×Int)) (wd:List (Option Int)),es.map (·.2)=[.int p, .list (prs.map Bh), .list (wd.map bS)]/\0<p/\(∀pr∈prs,0<=pr.1/\pr.1<wd.length/\Sm pr.2)/\(∀x,some x∈wd->Sm x)/\Φ true (.int (dB prs wd%p))):
  Ev G ρ (gm GV [] E0 t) Φ:=λnb σ H Q W z=>
 h nb σ H _ W λes vs H1 ⟨p,prs,wd,e,h1,h2,h3,q⟩ s1 J=>by
  have hd:=J.all (f:=false) (λz=>by cases z);rw[e] at hd;unfold ah at hd;obtain⟨y,ys,rfl,d1,hd⟩:=hd;unfold ah at hd;obtain⟨d,ys,rfl,X,hd⟩:=hd;unfold ah at hd;obtain⟨a,ys,rfl,c,hd⟩:=hd;unfold ah at hd;subst hd;exact⟨G.S nb false,p,d,a,prs,wd,by rw[d1.cP];rfl,X,c,h1,h2,h3,z true _ H1 _ q s1 (.int _)⟩
theorem Ev.whole(h:Ev G ρ te λ_ x=>∃n,x= .int n/\Φ true (.bool true)):Ev G ρ (gm Hi [] E0 (bz te bM)) Φ:=λnb σ H Q W z=>
 h nb σ H _ W λf v H1 d ⟨n,e,q⟩ s1 hv=>by subst e;exact⟨n,by rw[hv.cP];rfl,z true _ H1 _ q s1 (.bl _)⟩
namespace Gv
variable{Θ:Rh->Prop}
theorem name(h:Θ (ρ.set i (.d f d))):Gv G ρ (ic i) f d Θ:=λnb σ H v Q W hv z=>z _ _ h (W.nh hv)
theorem VS(h:Θ (ρ.set i (.d true d))):Gv G ρ (ic i) true d Θ:=name h
theorem kW(h:Θ (ρ.set i (.d false d))):Gv G ρ (ic i) f d Θ:=λnb σ H v Q W hv z=>z _ _ h (W.nh (hv.av (bZ (λz=>by cases z) λ_ z=>z)))
theorem BG(hs:jH d=true)(h:Θ (ρ.set i (.d true d))):Gv G ρ (ic i) f d Θ:=λnb σ H v Q W hv z=>z _ _ h (W.nh (hv.lU hs))
theorem qm{n:Int}(h:Θ (ρ.set i (.d true (.int n)))):Gv G ρ (ic i) f (.int n) Θ:=BG rfl h
theorem Yd{n:Bool}(h:Θ (ρ.set i (.d true (.bool n)))):Gv G ρ (ic i) f (.bool n) Θ:=BG rfl h
theorem Rm(h:Θ (ρ.set i (.d true .none))):Gv G ρ (ic i) f .none Θ:=BG rfl h
theorem tup{n:Nat}{u:jb}(hl:ds.length=n)(h:mW G ρ u f ds Θ):Gv G ρ (AB K n u) f (.tuple ds) Θ:=λnb σ H v Q W hv z=>by
 obtain⟨a,xs,rfl,m,hx,hd⟩:=hv.ofT;exact⟨a,xs,rfl, .of hx,by rw[hd.length];exact hl,h nb σ H xs Q W hd z⟩
theorem Xv(h:Θ ρ):mW G ρ Dj f [] Θ:=λnb σ H vs Q W hv z=>by unfold ah at hv;exact⟨hv,z _ _ h W⟩
theorem So{u:TG}{us:jb}(h:Gv G ρ u f d λc=>mW G c us f ds Θ):mW G ρ (B3 u us) f (d::ds) Θ:=λnb σ H vs Q W hv z=>by
 unfold ah at hv;obtain⟨y,ys,rfl,h1,h2⟩:=hv;exact⟨y,ys,rfl,h nb σ H y _ W h1 λL C q W'=>q nb L H ys Q W' h2 z⟩
end Gv
namespace Sv
variable{E:DE}{s u:TS}
theorem seq(h:Sv G ρ s {E with nx:=λc=>Sv G c u E}):Sv G ρ (pD s u) E:=λnb σ H D W K=>h nb σ H _ W ⟨λaN C L H' q W'=>q aN L H' D W' K,K.bk,K.ct,K.rt,K.rw⟩
theorem next(h:E.nx ρ):Sv G ρ FW E:=λnb σ H D W K=>K.nx nb ρ σ H h W
theorem brk(h:E.bk ρ):Sv G ρ Jn E:=λnb σ H D W K=>K.bk nb ρ σ H h W
theorem cont(h:E.ct ρ):Sv G ρ VJ E:=λnb σ H D W K=>K.ct nb ρ σ H h W
theorem asg{g:TG}(h:Ev G ρ te λf d=>Gv G ρ g f d E.nx):Sv G ρ (gE te g) E:=λnb σ H D W K=>h nb σ H _ W λf v H1 d q s1 hv=>q nb σ H1 v _ (W.step s1) hv λL C p W'=>K.nx nb C L H1 p W'
theorem setC(h:Ev G ρ te λf d=>E.nx (ρ.set i (.d f d))):Sv G ρ (xP i te) E:=λnb σ H D W K=>h nb σ H _ W λf v H1 d q s1 hv=>K.nx nb _ _ H1 q ((W.step s1).nh hv)
theorem B2(h:Ev G ρ te λ_ d=>E.nx (ρ.set i (.d false d))):Sv G ρ (xP i te) E:=λnb σ H D W K=>h nb σ H _ W λf v H1 d q s1 hv=>K.nx nb _ _ H1 q ((W.step s1).nh (hv.av (bZ (λz=>by cases z) λ_ z=>z)))
theorem drop(h:Ev G ρ te λ_ _=>E.nx ρ):Sv G ρ (q9 te) E:=λnb σ H D W K=>h nb σ H _ W λf v H1 d q s1 hv=>K.nx nb ρ σ H1 q (W.step s1)
theorem ret(h:Ev G ρ te E.rt):Sv G ρ (kY te) E:=λnb σ H D W K=>h nb σ H _ W λf v H1 d q s1 hv=>K.rt nb ρ σ f v H1 d q (W.step s1) (hv.av (bZ (λz=>z) λ_ z=>z.elim))
theorem kP{c:TT}(h:Tv G ρ c λb=>if b=true then Sv G ρ s E else Sv G ρ u E):Sv G ρ (vE c s u) E:=λnb σ H D W K=>h nb σ H _ W λb H1 q s1=>by
 cases b with
 |true=>rw[if_pos rfl] at q⊢;exact q nb σ H1 D (W.step s1) K
 |false=>rw[if_neg cO] at q⊢;exact q nb σ H1 D (W.step s1) K
theorem vg{nb:ax->Prop}{σ:qg}{H H1:Hp}{a:ax}{xs:List V}(W:Wd G nb ρ σ H)(s1:Step G.B H H1)(ha:H a=none)(e:H1 a=some (.lst xs))(hd:ah (λx=>G.S nb f x\/x=a) H1 ds xs):
    Wd G (λx=>nb x\/x=a) (ρ.set i (.own a f ds)) (σ.set i (some (.ref a))) H1:=by
  have hN:NB G.B a:=λb l e z=>by
    subst z;obtain⟨_,_,_,_,_,h1,_⟩:=W.az _ _ e;rw[h1] at ha;cases ha
  have hA:∀f x,G.S (λx=>nb x\/x=a) f x->(G.S nb f x\/x=a):=λf x z=>by
    rcases z with (z|z)|z|z|z
    · exact .inl (.inl z)
    · exact .inr z
    · exact .inl (.inr (.inl z))
    · exact .inl (.inr (.inr (.inl z)))
    · exact .inl (.inr (.inr (.inr z)))
  have W1:=W.step s1;have W2:Wd G (λx=>nb x\/x=a) ρ σ H1:=by
    refine⟨W1.az,λx n=>?_,W1.old,λx n q=>?_,W.gA,W.len,W.gB,λh m=>(((W.eu h m).fresh ha).keep (s1.but λx z=> .inl (.inr (.inr (.inl z))))).av (hA h.1),λj s e'=>?_,W.apart,W.gJ,W.eG⟩
    · rcases n with n|n
      · exact W1.live x n
      · subst n;rw[e];exact ie _
    · rcases n with n|n
      · exact W.dg x n q
      · subst n
        cases z:G.H0 x with
        |none=>rfl
        |some o=>rw[W.old x o q z] at ha;cases ha
    · obtain⟨x,e1,h⟩:=W.ok j s e'
      refine⟨x,e1,?_⟩;cases s with
      |no=>trivial
      |d f d=>obtain⟨v,e,h⟩:=h;exact⟨v,e,((h.fresh ha).keep (s1.but λx z=> .inl (.inr (.inr (.inl z))))).av (hA f)⟩
      |own c f es=>obtain⟨e,n,q,xs,hx,hd⟩:=h;exact⟨e, .inl n,q,xs,s1.1 _ _ q hx,((hd.fresh ha).keep (s1.but λx z=> .inl (.inr (.inr (.inl z))))).av (hA f)⟩
      |az=>exact h
      |raw v=>exact h
      |bR c f es=>obtain⟨e,n,q,xs,hx,hd⟩:=h;exact⟨e, .inl n,q,xs,s1.1 _ _ q hx,((hd.fresh ha).keep (s1.but λx z=> .inl (.inr (.inr (.inl z))))).av (hA f)⟩
      | cu c =>
        obtain⟨e,n,q⟩:=h;refine⟨e,λa ha=>⟨.inl (n a ha).1,(n a ha).2⟩,c.av (hA c.f) (c.keep (.of λx o hx e=>s1.1 x o ?_ e) (c.fresh ha q))⟩;rcases hx with hx|hx
        · exact jS λz=>hx (.inl (.inr (.inr (.inl z))))
        · exact(n x hx).2
  refine W2.set ⟨rfl, .inr rfl,hN,xs,e,hd.av (hA f)⟩ ?_ (λ_ _ _ z=>by cases z) (λx hx j t hj ht hc=>?_)
  rotate_left
  · have hx:x=a:=br.mp hx
    subst hx;rcases hc with ⟨c,z⟩|⟨c,rfl⟩
    · cases z
    · exact λz=>W.live x ((W.ok j _ ht).choose_spec.2.2.1 x z).1 ha
  rintro a' f' ds' ⟨rfl,rfl,rfl⟩ j c g cs hj hc z;subst z;obtain⟨x,e1,h1,h2,h3,ys,hy,_⟩:=W.ok j _ hc;rw[hy] at ha;cases ha
theorem uJ(h:aq G ρ te λf ds=>∀a,E.nx (ρ.set i (.own a f ds))):Sv G ρ (gE te (ic i)) E:=λnb σ H D W K=>h nb σ H _ W λf a xs H1 ds q s1 ha e hd=>K.nx _ _ _ H1 (q a) (vg W s1 ha e hd)
theorem TH(h:aq G ρ te λf ds=>∀a,E.nx (ρ.set i (.own a f ds))):Sv G ρ (xP i te) E:=λnb σ H D W K=>h nb σ H _ W λf a xs H1 ds q s1 ha e hd=>K.nx _ _ _ H1 (q a) (vg W s1 ha e hd)
theorem ED{nb:ax->Prop}{σ:qg}{H:Hp}{a:ax}{xs:List V}(W:Wd G nb ρ σ H)(e:ρ[i]?=some (.own a f ds))(hd:ah (G.S nb g) H es xs):Wd G nb (ρ.set i (.own a g es)) σ (upd H a (.lst xs)):=by
  obtain⟨x,e1,h1,h2,h3,ys,hy,_⟩:=W.ok i _ e;subst h1;have hil:i<ρ.length:=(bT.mp e).1;have W0:Wd G nb (ρ.set i .no) (σ.set i (some (.ref a))) H:=W.set trivial λ_ _ _ z=>by cases z
  have W1:Wd G nb (ρ.set i .no) (σ.set i (some (.ref a))) (upd H a (.lst xs)):=W0.write h2 h3 (λj c d cs hc=>by
    by_cases hij:i=j;· subst hij;rw[cW hil] at hc;cases hc
    · rw[bO hij] at hc
      exact(W.apart i j _ _ _ _ _ _ hij e hc).symm
   ) (λj c d cs hc z => by
      subst z;have hij:i≠j:=λz=>by subst z;rw[cW hil] at hc;cases hc
      rw[bO hij] at hc;obtain⟨_,_,_,_,_,ps,hp,_⟩:=W.ok j _ hc;rw[hy] at hp;cases hp) (λj c hc z=>by
      have hij:i≠j:=λz=>by subst z;rw[cW hil] at hc;cases hc
      rw[bO hij] at hc;exact W.eG j i c _ (cB hij) hc e a z (br.mpr rfl))
  have W2:=W1.set (i:=i) (s:= .own a g es) (x:=some (.ref a)) ⟨rfl,h2,h3,xs,bx,hd.keep (aY.set (.inl h2))⟩ (by
    rintro a' d ds' ⟨rfl,rfl,rfl⟩ j c g' cs hj hc;rw[bO (cB hj)] at hc;exact W.apart i j _ _ _ _ _ _ (cB hj) e hc) (λ_ _ _ z=>by cases z) (λx hx j t hj ht hc z=>by
    rw[bO (cB hj)] at ht;have hx:x=a:=br.mp hx;subst hx;rcases hc with ⟨c,q⟩|⟨c,rfl⟩
    · cases q
    · exact W.eG j i c _ hj ht e x z (br.mpr rfl))
  rw[lQ,lQ] at W2;have:σ.set i (some (.ref a))=σ:=by
    apply qU;intro j;by_cases hij:i=j;· subst hij;rw[cW (by rw[W.len];exact hil),e1]
    · rw[bO hij]
  rwa[this] at W2
theorem append{a:ax}(e:ρ[i]?=some (.own a f ds))(h:Ev G ρ te λg d=>ds.length<10000/\E.nx (ρ.set i (.own a (f && g) (ds++[d])))):Sv G ρ (q9 (lX K "list" D7 (cH i) (bz te bM))) E:=λnb σ H D W KK=>by
 obtain⟨x,e1,h1,h2,h3,xs,hx,hd⟩:=W.ok i _ e;subst h1;refine⟨.ref a,e1, .inl ⟨rfl,_,aZ.of hx⟩,h nb σ H _ W λg v H1 d ⟨hl,q⟩ s1 hv=>?_⟩;have W1:=W.step s1;have nE:=s1.1 _ _ h3 hx;refine⟨a,xs,v,rfl,rfl,nE,eK (by rw[hd.length];exact hl) ⋯,KK.nx nb _ _ _ q (ED W1 e ?_)⟩;exact ah.snoc (hv.av (bZ (λz=>(eY _ _▸z).2) λ_ z=>z)) ((hd.keep s1.dJ).av (bZ (λz=>(eY _ _▸z).1) λ_ z=>z))
theorem ah.set'{nb:ax->Prop}{H:Hp}{x:V}(hd:ai nb H d x):∀{ds:List PyData} {xs:List V} (j:Nat),ah nb H ds xs->ah nb H (ds.set j d) (xs.set j x)
 |[],_,j,h=>by unfold ah at h;subst h;exact .nil
 |e::ds,_,0,h=>by unfold ah at h;obtain⟨y,ys,rfl,h1,h2⟩:=h;exact .cons hd h2
 |e::ds,_,j+1,h=>by unfold ah at h;obtain⟨y,ys,rfl,h1,h2⟩:=h;exact .cons h1 (ah.set' hd j h2)
theorem K8{a:ax}(e:ρ[i]?=some (.own a f ds))(h:Ev G ρ te λg d=>Ev G ρ tb λ_ y=>∃k j,y= .int k/\ir ds.length k=some j/\E.nx (ρ.set i (.own a (f && g) (ds.set j d)))):Sv G ρ (gE te (pO (cH i) tb tF)) E:=λnb σ H D W KK=>
 h nb σ H _ W λg v H1 d q s1 hv=>by
  obtain⟨x,e1,h1,h2,h3,xs,hx,hd⟩:=(W.step s1).ok i _ e;subst h1;refine⟨.ref a,e1,q nb σ H1 _ (W.step s1) λg' u H2 y ⟨k,j,o,hj,p⟩ s2 hu=>?_⟩;subst o;have W2:=(W.step s1).step s2;refine⟨a,xs,k,j,rfl,hu.cP,s2.1 _ _ h3 hx,by rw[hd.length];exact hj,KK.nx nb _ _ _ p (ED W2 e ?_)⟩;exact ah.set' ((hv.keep s2.dJ).av (bZ (λz=>(eY _ _▸z).2) λ_ z=>z)) j ((hd.keep s2.dJ).av (bZ (λz=>(eY _ _▸z).1) λ_ z=>z))
theorem share{nb:ax->Prop}{σ:qg}{H:Hp}{a:ax}(W:Wd G nb ρ σ H)(e:ρ[i]?=some (.own a f ds)):Wd G (λx=>nb x/\x≠a) (ρ.set i (.d f (.list ds))) σ H:=by
  obtain⟨x,e1,h1,h2,h3,xs,hx,hd⟩:=W.ok i _ e;subst h1;have hil:i<ρ.length:=(bT.mp e).1;have W0:Wd G nb (ρ.set i .no) (σ.set i (some (.ref a))) H:=W.set trivial λ_ _ _ z=>by cases z
  have W1:Wd G (λx=>nb x/\x≠a) (ρ.set i .no) (σ.set i (some (.ref a))) H:=by
    refine⟨W0.az,λx n=>W0.live x n.1,W0.old,λx n=>W0.dg x n.1,W0.gA,W0.len,W0.gB,λh m=>(W0.eu h m).av (bZ (λz=>z) λ_ z=>z.1),λj s e'=>?_,W0.apart,W0.gJ,W0.eG⟩;obtain⟨x,mJ,h⟩:=W0.ok j s e';refine⟨x,mJ,?_⟩;have hij:s≠ .no->i≠j:=λn z=>by subst z;rw[cW hil] at e';cases e';exact n rfl
    cases s with
    |no=>trivial
    |d f d=>obtain⟨v,e,h⟩:=h;exact⟨v,e,h.av (bZ (λz=>z) λ_ z=>z.1)⟩
    | own c f es =>
      obtain⟨e2,n,q,xs,hx,hd⟩:=h;have hij:=hij (by intro z;cases z);rw[bO hij] at e';exact⟨e2,⟨n,(W.apart i j _ _ _ _ _ _ hij e e').symm⟩,q,xs,hx,hd.av (bZ (λz=>z) λ_ z=>z.1)⟩
    |az=>exact h
    |raw v=>exact h
    | bR c f es =>
      obtain⟨e2,n,q,ps,hp,hd⟩:=h;have b:c≠a:=λz=>by subst z;rw[hx] at hp;cases hp
      exact⟨e2,⟨n,b⟩,q,ps,hp,hd.av (bZ (λz=>z) λ_ z=>z.1)⟩
    | cu c =>
      obtain⟨e2,n,q⟩:=h;have hij:=hij (by intro z;cases z);rw[bO hij] at e';exact⟨e2,λx hx=>⟨⟨(n x hx).1,λz=>W.eG j i c _ (cB hij) e' e x hx (by rw[z];exact br.mpr rfl)⟩,(n x hx).2⟩,c.av (bZ (λz=>z) λ_ z=>z.1) q⟩
  have W2:=W1.nh (i:=i) (f:=f) (d:= .list ds) (v:= .ref a) (.lst (λz=>by
    rcases z with z|z|z|z
    · exact z.2 rfl
    · exact W.gA a z (W.dg a h2 h3)
    · exact z h3
    · exact z.2 (W.dg a h2 h3)) hx (hd.av (bZ (λz=>z) λ_ z=>z.1)))
  rw[lQ,lQ] at W2;have:σ.set i (some (.ref a))=σ:=by
    apply qU;intro j;by_cases hij:i=j;· subst hij;rw[cW (by rw[W.len];exact hil),e1]
    · rw[bO hij]
  rwa[this] at W2
theorem qR{a:ax}(i:Nat)(e:ρ[i]?=some (.own a f ds))(h:Sv G (ρ.set i (.d f (.list ds))) s E):Sv G ρ s E:=λnb σ H D W K=>h _ σ H D (share W e) K
theorem wk{C:Rh}(w:Wk C ρ)(h:Sv G C s E):Sv G ρ s E:=λnb σ H D W K=>h nb σ H D (W.wk w) K
end Sv
end
noncomputable abbrev Gx.hd(G:Gx)(f:Bool)(d:PyData)(v:V):Gx:={G with hold:=(f, .d d,v)::G.hold}
section
variable{G:Gx}{ρ bU:Rh}{Φ Ψ:Pd}{ta tb te:TE}{t:TA}{i:Nat}{f g:Bool}{d e:PyData}{ds es:List PyData}{K:PySem.W.Frag}
theorem Wd.hd{nb:ax->Prop}{σ:qg}{H:Hp}{v:V}(W:Wd G nb ρ σ H)(h:ai (G.S nb f) H d v):Wd (G.hd f d v) nb ρ σ H:=
 ⟨W.az,W.live,W.old,W.dg,W.gA,W.len,W.gB,λx m=>by
  rcases aK.mp m with e|m
  .subst e;exact h
  .exact W.eu x m,λi s e=>by
   obtain⟨x,e1,h⟩:=W.ok i s e;refine⟨x,e1,?_⟩;cases s<;>exact h,W.apart,W.gJ,W.eG⟩
theorem Wd.jD{nb:ax->Prop}{σ:qg}{H:Hp}{v:V}(W:Wd (G.hd f d v) nb ρ σ H):Wd G nb ρ σ H/\ai (G.S nb f) H d v:=
 ⟨⟨W.az,W.live,W.old,W.dg,W.gA,W.len,W.gB,λx m=>W.eu x (cS _ m),λi s e=>by
   obtain⟨x,e1,h⟩:=W.ok i s e;refine⟨x,e1,?_⟩;cases s<;>exact h,W.apart,W.gJ,W.eG⟩,W.eu _ (dj ..)⟩
namespace Sv
variable{E:DE}{s:TS}{gt:TG}
def yX(G:Gx)(ρ:Rh)(n:Nat)(it:Nat->PyData->Prop)(fi:Bool)(gt:TG)(s:TS)(E:DE):Prop:=
 ∃I:Nat->Rh->Prop,I 0 ρ/\(∀i d C,it i d->I i C->Gv G C gt fi d λg=>Sv G g s {nx:=I (i+1),rt:=E.rt,bk:=E.nx,ct:=I (i+1),rw:=E.rw})/\∀C,I n C->E.nx C
theorem QM{lo:Int}{n:Nat}{nb:ax->Prop}{σ:qg}{H:Hp}{D:Ends}(W:Wd G nb ρ σ H)(KK:Cb G E D)(h:yX G ρ n (λi d=>i<n/\d= .int (lo+i)) true gt s E):
  ∃W:Nat->Nat->qg->Hp->Prop,(∃m,W 0 m σ H)/\∀i m σ H,W i m σ H->
   ((ji lo n).stop i H/\D.nx σ H)\/((ji lo n).go i H/\∃N:qg->Hp->Prop,(∀L H',N L H'->∃m',m'<m/\W (i+1) m' L H')/\∀x H',(ji lo n).pJ i H x H'->gt x σ H' λk H2=>s {D with nx:=N,ct:=N,bk:=D.nx} k H2):=by
 obtain⟨I,h0,ht,he⟩:=h;refine Gp (λi σ H=>∃nb ρ',I i ρ'/\Wd G nb ρ' σ H) ⟨nb,ρ,h0,W⟩ ?_ ?_
 .rintro i σ H hi ⟨nb,ρ',hI,W⟩;refine ht i _ ρ' ⟨hi,rfl⟩ hI nb σ H _ _ W (.int _) λk g q W2=>q nb k H _ W2 ?_;exact⟨λnb ρ σ H q W=>⟨nb,ρ,q,W⟩,KK.nx,λnb ρ σ H q W=>⟨nb,ρ,q,W⟩,KK.rt,KK.rw⟩
 .rintro σ H ⟨nb,ρ',hI,W⟩;exact KK.nx nb ρ' σ H (he ρ' hI) W
theorem qJ(h:Ev G ρ te λ_ x=>∃n:Int,x= .int n/\ -(2^62)<=n/\n<2^62/\yX G ρ n.toNat (λi d=>i<n.toNat/\d= .int (0+i)) true gt s E):Sv G ρ (qD (wc (bz te bM)) gt s) E:=λnb σ H D W KK=>
 h nb σ H _ W λf v H1 x ⟨n,ex,h1,h2,q⟩ s1 hv=>by
  subst ex;rw[hv.cP];exact⟨n,rfl,h1,h2,QM (W.step s1) KK q⟩
theorem forL(h:Ev G ρ te λf x=>∃ds,x= .list ds/\∀v,yX (G.hd f (.list ds) v) ρ ds.length (λi d=>ds[i]?=some d) f gt s E):Sv G ρ (qD (oH K te) gt s) E:=λnb σ H D W KK=>
 h nb σ H _ W λf v H1 x ⟨ds,ex,q⟩ s1 hv=>by
  subst ex;obtain⟨I,h0,ht,he⟩:=q v;have W1:=(W.step s1).hd hv;obtain⟨a,xs,rfl,n,hx,hd⟩:=hv.eN;have key:∀{nb C σ H},Wd (G.hd f (.list ds) (.ref a)) nb C σ H->∃xs,H a=some (.lst xs)/\ah (G.S nb f) H ds xs:=λW=>by
   obtain⟨N,l,e',_,h',d'⟩:=W.jD.2.eN;cases e';exact⟨l,h',d'⟩
  refine⟨a,rfl,⟨xs, .of hx⟩,?_⟩;refine⟨λi m σ H=>m=ds.length-i/\i<=ds.length/\∃nb C,I i C/\Wd (G.hd f (.list ds) (.ref a)) nb C σ H,⟨ds.length,by simp,fj _,nb,ρ,h0,W1⟩,?_⟩;rintro i m σ H ⟨rfl,hi,nb,C,hI,W⟩;obtain⟨ys,hy,j⟩:=key W;have hl:=j.length;by_cases hlt:i<ds.length
  .refine .inr ⟨⟨ys,ys[i]'∅, .of hy,bw _⟩,λσ H=>∃nb C,I (i+1) C/\Wd (G.hd f (.list ds) (.ref a)) nb C σ H,λL H' q=>⟨ds.length-(i+1),∅,rfl,hlt,q⟩,λx H' y=>?_⟩;obtain⟨e,y⟩:=y;subst e;have hx:=y ys (.of hy);obtain⟨O,M,dx⟩:=j.get (bw hlt);rw[hx] at M;cases M
   refine ht i _ C (bw hlt) hI nb σ _ _ _ W dx λk g q W2=>q nb k _ _ W2 ?_;exact⟨λnb ρ σ H q W=>⟨nb,ρ,q,W⟩,λnb ρ σ H q W=>KK.nx nb ρ σ H q W.jD.1,λnb ρ σ H q W=>⟨nb,ρ,q,W⟩,λnb ρ σ f v H d q W hv=>KK.rt nb ρ σ f v H d q W.jD.1 hv,λnb ρ σ v H q W=>KK.rw nb ρ σ v H q W.jD.1⟩
  .have e:i=ds.length:=∅
   subst e;exact .inl ⟨⟨ys, .of hy,∅⟩,KK.nx nb C σ H (he C hI) W.jD.1⟩
theorem JH{c:TT}(I:Rh->Prop)(a:Rh->Nat)(h0:I ρ)(h:∀C,I C->Tv G C c λb=>if b=true then Sv G C s {nx:=λg=>I g/\a g<a C,rt:=E.rt,bk:=E.nx,ct:=λg=>I g/\a g<a C,rw:=E.rw} else E.nx C):Sv G ρ (Fv c s) E:=λnb σ H D W KK=>by
  refine⟨λm σ H=>∃nb C,I C/\Wd G nb C σ H/\m=a C,⟨_,nb,ρ,h0,W,rfl⟩,?_⟩;rintro m σ H ⟨nb,C,hI,W,rfl⟩;refine h C hI nb σ H _ W λb H1 q s1=>?_;cases b with
  | true =>
    rw[if_pos rfl] at q⊢;refine⟨λL H'=>∃nb g,(I g/\a g<a C)/\Wd G nb g L H',λL H' ⟨nb,g,⟨J,O⟩,W2⟩=>⟨a g,O,nb,g,J,W2,rfl⟩,q nb σ H1 _ (W.step s1) ?_⟩;exact⟨λnb ρ σ H q W=>⟨nb,ρ,q,W⟩,KK.nx,λnb ρ σ H q W=>⟨nb,ρ,q,W⟩,KK.rt,KK.rw⟩
  |false=>rw[if_neg cO] at q⊢;exact KK.nx nb C σ H1 q (W.step s1)
end Sv
noncomputable def kJ(mp:List (Option Nat))(ρ:Rh):Rh:=mp.map λo=>match o with|none=> .no|some j=>match ρ[j]? with|some s=>s|none=> .no
theorem Ei{mp:List (Option Nat)}(h:(mp.filterMap id).Nodup):∀{i j k:Nat},mp[i]?=some (some k)->mp[j]?=some (some k)->i=j:=by
  induction mp with
  |nil=>intro i j k e;simp at e
  | cons o r ih =>
    intro i j k e1 e2;have hr:(r.filterMap id).Nodup:=by
      cases o with
      |none=>simpa using h
      |some x=>rw[LD (by rfl)] at h;exact(kh.mp h).2
    have hn:∀{m:Nat},r[m]?=some (some k)->o≠some k:=λ{m} hm e=>by
      subst e;rw[LD (by rfl)] at h;exact(kh.mp h).1 (GK.mpr ⟨some k,fQ hm,rfl⟩)
    cases i with
    | zero =>
      cases j with
      |zero=>rfl
      |succ j=>simp at e1 e2;exact absurd e1 (hn e2)
    | succ i =>
      cases j with
      |zero=>simp at e1 e2;exact absurd e2 (hn e1)
      |succ j=>simp at e1 e2;rw[ih hr e1 e2]
theorem Wd.fU{nb:ax->Prop}{σ:qg}{H:Hp}{mp:List (Option Nat)}(W:Wd G nb ρ σ H)(hm:(mp.filterMap id).Nodup):Wd G nb (kJ mp ρ) (fU mp σ) H:=by
  have S:∀{i:Nat} {s:Sl},(kJ mp ρ)[i]?=some s->s= .no\/∃k,mp[i]?=some (some k)/\ρ[k]?=some s:=λ{i s} e=>by
    unfold kJ at e;rw[cY] at e;obtain⟨o,D,e⟩:=pF.mp e;cases o with
    |none=>exact .inl e.symm
    | some k =>
      cases hk:ρ[k]? with
      |none=>simp only[hk] at e;exact .inl e.symm
      |some s'=>simp only[hk] at e;subst e;exact .inr ⟨k,D,hk⟩
  refine⟨W.az,W.live,W.old,W.dg,W.gA,by unfold L2.fU kJ;rw[ak,ak],W.gB,W.eu,λi s e=>?_,λi j a f as c g cs hij e1 e2=>?_,λi j a f as c g cs hij e1 e2=>?_,λi j c t hij e1 e2 a ha=>?_⟩
  · have hi:i<mp.length:=by have:=(bT.mp e).1;unfold kJ at this;rwa[ak] at this
    rcases S e with rfl|⟨k,hk,hs⟩
    · exact⟨_,by unfold L2.fU;rw[cY,bw hi];rfl,trivial⟩
    · obtain⟨x,e1,h⟩:=W.ok k s hs
      refine⟨x,?_,h⟩;unfold L2.fU;rw[cY,hk];simp only[qx,e1]
  · rcases S e1 with z|⟨k,hk,hs⟩
    · cases z
    rcases S e2 with z|⟨k',hk',hs'⟩
    · cases z
    exact W.apart k k' a f as c g cs (λz=>by subst z;exact hij (Ei hm hk hk')) hs hs'
  · rcases S e1 with z|⟨k,hk,hs⟩
    · cases z
    rcases S e2 with z|⟨k',hk',hs'⟩
    · cases z
    exact W.gJ k k' a f as c g cs (λz=>by subst z;exact hij (Ei hm hk hk')) hs hs'
  · rcases S e1 with z|⟨k,hk,hs⟩
    · cases z
    rcases S e2 with z|⟨k',hk',hs'⟩
    · subst z;exact λz=>by cases z
    exact W.eG k k' c t (λz=>by subst z;exact hij (Ei hm hk hk')) hs hs' a ha
def NK(ρ:Rh)(acc:ax):Prop:=(∀(j:Nat) a f ds,ρ[j]?=some (.own a f ds)->a≠acc)/\∀(j:Nat) c,ρ[j]?=some (.cu c)->acc∉c.F
def g6(G:Gx)(bU:Rh)(n:Nat)(it:Nat->PyData->Prop)(fi:Bool)(gt:TG)(tc:TT)(te:TE)(Θ:Bool->List PyData->Prop):Prop:=
 ∃(fl:Bool) (I:Nat->List PyData->Prop),I 0 []/\(∀i d ds,it i d->ds.length<=i->I i ds->Gv G bU gt fi d λc=>Wk bU c/\Tv G c tc λb=>if b=true then Ev G c te λf e=>(fl=true->f=true)/\I (i+1) (ds++[e]) else I (i+1) ds)/\
  ∀ds,ds.length<=n->I n ds->Θ (fl||gh ds) ds
theorem uo{gt:TG}{tc:TT}{nb:ax->Prop}{acc:ax}{σ:qg}{H H1:Hp}{x:V}{fi fl:Bool}{I:Nat->List PyData->Prop}{xs:List V}{N:qg->Hp->Prop}{ds:List PyData}{n:Nat}(hn:n<=10000)(hi:i<n)
    (W:Wd G nb bU σ H) (ha:nb acc) (hN:NB G.B acc) (hno:NK bU acc) (st:Step G.B H1 H) (g:H1 acc=none) (hx:H acc=some (.lst xs)) (hd:ah (G.S nb fl) H ds xs) (hl:ds.length<=i) (r:ai (G.S nb fi) H d x)
    (h:Gv G bU gt fi d λc=>Wk bU c/\Tv G c tc λb=>if b=true then Ev G c te λf e=>(fl=true->f=true)/\I (i+1) (ds++[e]) else I (i+1) ds)
    (z:∀σ' H' ds' xs',Wd G nb bU σ' H'->Step G.B H1 H'->H' acc=some (.lst xs')->ah (G.S nb fl) H' ds' xs'->ds'.length<=i+1->I (i+1) ds'->N σ' H'):
    gt x σ H λk H2=>tc k H2 λb H3=>if b=true then te k H3 λv H4=>∃ys,H4 acc=some (.lst ys)/\ys.length<sizeLine/\N k (upd H4 acc (.lst (ys++[v]))) else N k H3:=by
  refine h nb σ H x _ W r λk c ⟨wk,q⟩ W2=>q nb k H _ W2 λb H3 Y s3=>?_;have MB:=s3.1 _ _ hN hx;have Nj:=hd.keep (s3.dJ (nb:=nb) (f:=fl));cases b with
  | false =>
    rw[if_neg cO] at Y⊢;exact z k H3 ds xs ((W2.step s3).wk wk) (st.trans s3) MB Nj ∅ Y
  | true =>
    rw[if_pos rfl] at Y⊢;refine Y nb k H3 _ (W2.step s3) λf v H4 e ⟨hf,hI⟩ s4 hv=>?_;have OH:=s4.1 _ _ hN MB;have W8:=Nj.keep (s4.dJ (nb:=nb) (f:=fl));have hlen:=hd.length;refine⟨xs,OH,eK (show xs.length<10001 by omega) ⋯,?_⟩;have l:Wd G nb bU k H4:=((W2.step s3).step s4).wk wk;have bt:aY (G.S nb fl) H4 (upd H4 acc (.lst (xs++[v]))):=aY.set (.inl ha)
    have m:Wd G nb bU k (upd H4 acc (.lst (xs++[v]))):=l.write ha hN hno.1 (λj a f ds e z=>by
      subst z;obtain⟨_,_,_,_,_,ps,hp,_⟩:=l.ok j _ e;rw[OH] at hp;cases hp) hno.2
    refine z k _ (ds++[e]) (xs++[v]) m ⟨λa o n q=>?_,m.az⟩ bx (ah.snoc ((hv.av (bZ hf λ_ z=>z)).keep bt) (W8.keep bt)) (by rw[cK,jn];omega) hI;have T:a≠acc:=λz=>by subst z;rw[g] at q;cases q
    rw[bq T];exact(st.trans (s3.trans s4)).1 a o n q
theorem tQ{nb:ax->Prop}{σ:qg}{H:Hp}{a:ax}(W:Wd G nb ρ σ H)(ha:H a=none):NK ρ a:=by
 refine⟨λj c f ds e z=>?_,λj c e z=>?_⟩
 .subst z;obtain⟨x,e1,h1,h2,h3,ys,hy,_⟩:=W.ok j _ e;rw[hy] at ha;cases ha
 .obtain⟨x,e1,h1,h2,h3⟩:=W.ok j _ e;exact W.live a (h2 a z).1 ha
theorem VV{nb:ax->Prop}{a:ax}{f:Bool}:∀x,(G.S nb f x\/x=a)->G.S (λx=>nb x\/x=a) f x:=λx z=>by
 rcases z with (z|z|z|z)|z
 .exact .inl (.inl z)
 .exact .inr (.inl z)
 .exact .inr (.inr (.inl z))
 .exact .inr (.inr (.inr z))
 .exact .inl (.inr z)
theorem uL{nb:ax->Prop}{acc:ax}{H H1 H':Hp}{σ:qg}{Q:VK}{Θ:Bool->List PyData->Prop}{xs:List V}{ds:List PyData}{fl:Bool}(W:Wd G nb ρ σ H)(s1:Step G.B H H1)(g:H1 acc=none)(s2:Step G.B H1 H')(hx:H' acc=some (.lst xs))(hd:ah (G.S (λx=>nb x\/x=acc) fl) H' ds xs)(p:Θ (fl||gh ds) ds)
  (z:∀f a xs H' ds,Θ f ds->Step G.B H H'->H a=none->H' a=some (.lst xs)->ah (λx=>G.S nb f x\/x=a) H' ds xs->Q (.ref a) H'):Q (.ref acc) H':=by
 refine z _ acc xs H' ds p (s1.trans s2) (W.none_of s1 g) hx ?_;cases hs:gh ds with
 |true=>exact ah.lU hs hd
 |false=>rw[p6];exact hd.av VV
theorem NB.new{B:Bg}{H:Hp}{a:ax}(h:j3 B H)(ha:H a=none):NB B a:=jS λz=>NB.nB h z ha
namespace aq
variable{Θ:Bool->List PyData->Prop}{gt:TG}{tc:TT}{mp:List (Option Nat)}
theorem G2{lo:Int}{n:Nat}{nb:ax->Prop}{σ:qg}{H H1:Hp}{Q:VK}(W:Wd G nb ρ σ H)(s1:Step G.B H H1)(hm:(mp.filterMap id).Nodup)(r:kJ mp ρ=bU)(hn:n<=10000)(h:g6 G bU n (λi d=>i<n/\d= .int (lo+i)) true gt tc te Θ)
  (z:∀f a xs H' ds,Θ f ds->Step G.B H H'->H a=none->H' a=some (.lst xs)->ah (λx=>G.S nb f x\/x=a) H' ds xs->Q (.ref a) H') (acc:ax) (g:H1 acc=none):nH (ji lo n) gt tc te acc (λH'=>Q (.ref acc) H') (fU mp σ) (upd H1 acc (.lst [])):=by
 obtain⟨fl,I,h0,ht,he⟩:=h;have W0:Wd G nb bU (L2.fU mp σ) H1:=by rw[<-r];exact(W.step s1).fU hm
 have W1:=W0.more g (o:= .lst []);have hN:=NB.new s1.2 g;have hno:=tQ W0 g;have dz:Step G.B H1 (upd H1 acc (.lst [])):= .same s1.2 (cL g);refine R.IT (λi σ H=>∃ds xs,Wd G (λx=>nb x\/x=acc) bU σ H/\Step G.B H1 H/\H acc=some (.lst xs)/\ah (G.S (λx=>nb x\/x=acc) fl) H ds xs/\ds.length<=i/\I i ds) ⟨[],[],W1,dz,bx, .nil,aH _,h0⟩ ?_ ?_
 .rintro i σ H hi ⟨ds,xs,W,st,hx,hd,hl,hI⟩;exact uo hn hi W (.inr rfl) hN hno st g hx hd hl (.int _) (ht i _ ds ⟨hi,rfl⟩ hl hI) λL H' k l W' st' M j hl' b=>⟨k,l,W',st',M,j,hl',b⟩
 .rintro σ H' ⟨ds,xs,W',st,hx,hd,hl,hI⟩;exact uL W s1 g st hx hd (he ds hl hI) z
theorem kI{t0:TE}(hm:(mp.filterMap id).Nodup)(r:kJ mp ρ=bU)(h:Ev G ρ t0 λ_ x=>∃n:Int,x= .int n/\ -10000<=n/\n<=10000/\g6 G bU n.toNat (λi d=>i<n.toNat/\d= .int (0+i)) true gt tc te Θ):aq G ρ (jK (wc (bz t0 bM)) gt tc te mp) Θ:=λnb σ H Q W z=>
 h nb σ H _ W λf v H1 x ⟨n,ex,h1,h2,q⟩ s1 hv=>by
  subst ex;rw[hv.cP];exact⟨n,rfl,∅,∅,G2 W s1 hm r ∅ q z⟩
theorem ju{t0:TE}(hm:(mp.filterMap id).Nodup)(r:kJ mp ρ=bU)(h:Ev G ρ t0 λfi x=>∃es,x= .list es/\es.length<=10000/\∀v,g6 (G.hd fi (.list es) v) bU es.length (λi d=>es[i]?=some d) fi gt tc te Θ):aq G ρ (jK (oH K t0) gt tc te mp) Θ:=λnb σ H Q W z=>
 h nb σ H _ W λfi v H1 x ⟨es,ex,hn,q⟩ s1 hv=>by
  subst ex;obtain⟨fl,I,h0,ht,he⟩:=q v;have W0:=(W.step s1).hd hv;obtain⟨a,xs,rfl,n,hx,hd⟩:=hv.eN;refine⟨a,rfl,⟨xs, .of hx⟩,λacc g=>?_⟩;have c:Wd (G.hd fi (.list es) (.ref a)) nb bU (L2.fU mp σ) H1:=by rw[<-r];exact W0.fU hm
  have W1:=c.more g (o:= .lst []);have hN:=NB.new s1.2 g;have hno:=tQ c g;have dz:Step G.B H1 (upd H1 acc (.lst [])):= .same s1.2 (cL g);have f:NB G.B a:=jS λz=>n (.inr (.inr (.inl z)));refine R.J9 (xs:=xs) (λi σ H=>∃ds ys,Wd (G.hd fi (.list es) (.ref a)) (λx=>nb x\/x=acc) bU σ H/\Step G.B H1 H/\H acc=some (.lst ys)/\ah (G.S (λx=>nb x\/x=acc) fl) H ds ys/\ds.length<=i/\I i ds) ⟨[],[],W1,dz,bx, .nil,aH _,h0⟩ ?_ ?_ ?_
  .rintro i σ H hi ⟨ds,ys,W,st,_⟩;exact .of (st.1 _ _ f hx)
  .rintro i x σ H hi ⟨ds,ys,W,st,hy,j,hl,hI⟩;obtain⟨N,l,e',_,h',d'⟩:=W.jD.2.eN;cases e';rw[st.1 _ _ f hx] at h';cases h'
   have hil:i<es.length:=by have:=(bT.mp hi).1;have:=d'.length;omega
   obtain⟨O,M,dx⟩:=d'.get (bw hil);rw[hi] at M;cases M
   exact uo (G:=G.hd fi (.list es) (.ref a)) hn hil W (.inr rfl) hN hno st g hy j hl dx (ht i _ ds (bw hil) hl hI) λL H' k l W' st' M j hl' b=>⟨k,l,W',st',M,j,hl',b⟩
  .rintro σ H' ⟨ds,ys,W',st,hy,j,hl,hI⟩;rw[hd.length] at hl hI;exact uL W s1 g st hy j (he ds hl hI) z
end aq
end
section
variable{ρ:Rh}{t:TS}{N:List Str}{vs:List V}{ds:List PyData}{nb:ax->Prop}{H:Hp}{Q:VK}{Φ:Pd}{b l:ax}
theorem lV{xs:List V}(h:ah nb H ds xs){i:Nat}{s:Sl}(e:(ds.map (Sl.d false))[i]?=some s):∃v d,xs[i]?=some v/\s= .d false d/\ai nb H d v:=by
 rw[cY] at e;obtain⟨d,hd,e⟩:=pF.mp e;obtain⟨v,hv,q⟩:=h.get hd;exact⟨v,d,hv,e.symm,q⟩
theorem Sv.fF(hl:iK nb H)(hd:ah nb H ds vs)(I:∀f d v H',Φ f d->cA H H'->ai (λa=>nb a\/(f=true/\H a≠none)) H' d v->Q v H')
  (r:ρ=ds.map (Sl.d false)++cf (N.length-ds.length) .no) (h:Sv ⟨none,H,nb,[]⟩ ρ t {nx:=λ_=>Φ true .none,rt:=Φ}):t {nx:=λ_ H'=>Q .aL H',rt:=Q} (start N vs) H:=by
 have hlen:=hd.length;have sm:∀{aN C L H'},Wd ⟨none,H,nb,[]⟩ aN C L H'->cA H H':=λW a o e=>W.old a o (λ_ _ z=>(by cases z)) e;refine h (λ_=>False) _ H _ ⟨λ_ _ z=>(by cases z),λ_ z=>z.elim,λ_ _ _ e=>e,λ_ z=>z.elim,hl,?_,λ_ _ z=>(by cases z),λ_ m=>(by cases m),λi s e=>?_,?_,?_,?_⟩ ⟨λaN C L H' q W=>I _ _ _ _ q (sm W) .aL,λ_ _ _ _ q _=>q.elim,λ_ _ _ _ q _=>q.elim,λaN C L f v H' d q W hv=>I f d v H' q (sm W) (hv.av λa z=>?_),λ_ _ _ _ _ q _=>q.elim⟩;·rw[r];unfold start;simp[hlen]
 .rw[r] at e;unfold start;by_cases hi:i<ds.length
  .rw[gQ (by rw[ak];exact hi)] at e;obtain⟨v,d,hv,rfl,q⟩:=lV hd e;refine⟨some v,?_,v,rfl,q.av λa z=>?_⟩;·rw[gQ (by rw[ak,hlen];exact hi),cY,hv];rfl
   .rcases z with z|z|z|z
    .exact z.elim
    .exact z
    .exact absurd (λ_ _ z=>(by cases z)) z
    .cases z.1
  .rw[iD (by rw[ak];omega),g8] at e;split at e
   .rename_i h'
    cases e;refine⟨none,?_,trivial⟩;rw[ak] at h';rw[iD (by rw[ak];omega),g8,if_pos (by rw[ak,hlen];exact h')]
   .cases e
 .intro i j a f as c g cs hij e1;rw[r] at e1;by_cases hi:i<ds.length
  .rw[gQ (by rw[ak];exact hi)] at e1;obtain⟨_,_,_,z,_⟩:=lV hd e1;cases z
  .rw[iD (by rw[ak];omega),g8] at e1;split at e1<;>cases e1
 .intro i j a f as c g cs hij e1;rw[r] at e1;by_cases hi:i<ds.length
  .rw[gQ (by rw[ak];exact hi)] at e1;obtain⟨_,_,_,z,_⟩:=lV hd e1;cases z
  .rw[iD (by rw[ak];omega),g8] at e1;split at e1<;>cases e1
 .intro i j c t hij e1;rw[r] at e1;by_cases hi:i<ds.length
  .rw[gQ (by rw[ak];exact hi)] at e1;obtain⟨_,_,_,z,_⟩:=lV hd e1;cases z
  .rw[iD (by rw[ak];omega),g8] at e1;split at e1<;>cases e1
 .rcases z with z|z
  .exact .inr (.inl z)
  .exact .inr (.inr (.inr z))
theorem Sv.mE(O:ez H b l)(hl:iK nb H)(hb:nb b)(hd:ah nb H ds vs)(I:∀f d v H',Φ f d->aY (Nb b) H H'->ez H' b l->ai (λa=>nb a\/(f=true/\H a≠none)) H' d v->Q v H')
    (r:ρ= .az::ds.map (Sl.d false)++cf (N.length-(ds.length+1)) .no) (h:Sv ⟨some (b,l),H,nb,[]⟩ ρ t {nx:=λ_=>Φ true .none,rt:=Φ}):t {nx:=λ_ H'=>Q .aL H',rt:=Q} (start N (.ref b::vs)) H:=by
  have hlen:=hd.length;have u:∀a,a≠b->NB (some (b,l)) a:=λa n w k e=>by cases e;exact n
  have p:∀a,¬NB (some (b,l)) a->a=b:=λa n=>jS λz=>n (u a z);have bt:∀{aN C L H'},Wd ⟨some (b,l),H,nb,[]⟩ aN C L H'->aY (Nb b) H H':=λW a o n e=>W.old a o (u a n) e;have x:∀{aN C L H'},Wd ⟨some (b,l),H,nb,[]⟩ aN C L H'->ez H' b l:=λW=>W.az b l rfl;refine h (λ_=>False) _ H _ ⟨λw k e=>(by cases e;exact O),λ_ z=>z.elim,λ_ _ _ e=>e,λ_ z=>z.elim,hl,?_,λw k e=>(by cases e;exact O),λ_ m=>(by cases m),λi s e=>?_,?_,?_,?_⟩ ⟨λaN C L H' q W=>I _ _ _ _ q (bt W) (x W) .aL,λ_ _ _ _ q _=>q.elim,λ_ _ _ _ q _=>q.elim,λaN C L f v H' d q W hv=>I f d v H' q (bt W) (x W) (hv.av λa z=>?_),λ_ _ _ _ _ q _=>q.elim⟩;· rw[r];unfold start;simp[hlen]
  · rw[r] at e
    unfold start;cases i with
    |zero=>simp at e;subst e;exact⟨some (.ref b),by simp,b,l,rfl,rfl⟩
    | succ i =>
      simp only[kU,lO,bN,eB] at e⊢;by_cases hi:i<ds.length
      · rw[gQ (by rw[ak];exact hi)] at e
        obtain⟨v,d,hv,rfl,q⟩:=lV hd e;refine⟨some v,?_,v,rfl,q.av λa z=>?_⟩;· rw[gQ (by rw[ak,hlen];exact hi),cY,hv];rfl
        · rcases z with z|z|z|z
          · exact z.elim
          · exact z
          · rw[p a z];exact hb
          · cases z.1
      · rw[iD (by rw[ak];omega),g8] at e
        split at e
        · rename_i h'
          cases e;refine⟨none,?_,trivial⟩;rw[ak] at h';rw[iD (by rw[ak];omega),g8,if_pos (by rw[ak,hlen];exact h')]
        · cases e
  · intro i j a f as c g cs hij e1
    rw[r] at e1;cases i with
    |zero=>simp at e1
    | succ i =>
      simp only[kU,lO] at e1;by_cases hi:i<ds.length
      · rw[gQ (by rw[ak];exact hi)] at e1
        obtain⟨_,_,_,z,_⟩:=lV hd e1;cases z
      · rw[iD (by rw[ak];omega),g8] at e1
        split at e1<;>cases e1
  · intro i j a f as c g cs hij e1
    rw[r] at e1;cases i with
    |zero=>simp at e1
    | succ i =>
      simp only[kU,lO] at e1;by_cases hi:i<ds.length
      · rw[gQ (by rw[ak];exact hi)] at e1
        obtain⟨_,_,_,z,_⟩:=lV hd e1;cases z
      · rw[iD (by rw[ak];omega),g8] at e1
        split at e1<;>cases e1
  · intro i j c t hij e1
    rw[r] at e1;cases i with
    |zero=>simp at e1
    | succ i =>
      simp only[kU,lO] at e1;by_cases hi:i<ds.length
      · rw[gQ (by rw[ak];exact hi)] at e1
        obtain⟨_,_,_,z,_⟩:=lV hd e1;cases z
      · rw[iD (by rw[ak];omega),g8] at e1
        split at e1<;>cases e1
  · rcases z with z|z
    · exact .inr (.inl z)
    · exact .inr (.inr (.inr z))
noncomputable def FJ(b l:ax)(H:Hp):Gx:=⟨some (b,l),H,λ_=>False,[]⟩
theorem Q8{a:ax}{m:Nat}(O:ez H b l):Wd (FJ b l H) (λ_=>False) (.raw (.ref a):: .az::cf m .no) (some (.ref a)::some (.ref b)::cf m none) H:=by
  refine⟨λw k e=>(by cases e;exact O),λ_ z=>z.elim,λ_ _ _ e=>e,λ_ z=>z.elim,λ_ z=>z.elim,by simp,λw k e=>(by cases e;exact O),λ_ m=>(by cases m),λi s e=>?_,?_,?_,?_⟩
  · match i with
    |0=>simp at e;subst e;exact⟨_,rfl,rfl⟩
    |1=>simp at e;subst e;exact⟨some (.ref b),rfl,b,l,rfl,rfl⟩
    | i + 2 =>
      simp only[lO,g8] at e⊢;split at e;· rename_i h;cases e;exact⟨none,if_pos h,trivial⟩
      · cases e
  · intro i j a f as c g cs hij e1
    match i with
    |0=>simp at e1
    |1=>simp at e1
    | i + 2 =>
      simp only[lO,g8] at e1;split at e1<;>cases e1
  · intro i j a f as c g cs hij e1
    match i with
    |0=>simp at e1
    |1=>simp at e1
    | i + 2 =>
      simp only[lO,g8] at e1;split at e1<;>cases e1
  · intro i j c t hij e1
    match i with
    |0=>simp at e1
    |1=>simp at e1
    | i + 2 =>
      simp only[lO,g8] at e1;split at e1<;>cases e1
theorem IS{D:Ends}(h2:∀H,D.rt (.bl true) H):Cb (FJ b l H) {nx:=λ_=>False,rt:=λ_ d=>d= .bool true} D:=
 ⟨λ_ _ _ _ q _=>q.elim,λ_ _ _ _ q _=>q.elim,λ_ _ _ _ q _=>q.elim,λ_ _ _ f v H d q _ hv=>by subst q;unfold ai at hv;subst hv;exact h2 H,λ_ _ _ _ _ q _=>q.elim⟩
end
namespace R
theorem di{P:Int->Prop}{i:Int}(h:P i):∃j,a4 i= .int j/\P j:=⟨i,rfl,h⟩
theorem db{P:Bool->Prop}{i:Bool}(h:P i):∃j,mi i= .bool j/\P j:=⟨i,rfl,h⟩
theorem dl{P:List PyData->Prop}{i:List PyData}(h:P i):∃j,fI i= .list j/\P j:=⟨i,rfl,h⟩
theorem dt{P:List PyData->Prop}{i:List PyData}(h:P i):∃j,eA i= .tuple j/\P j:=⟨i,rfl,h⟩
theorem Cf{P:List PyData->Prop}{i:List PyData}(h:P i):∃j,(fI i= .list j\/fI i= .tuple j)/\P j:=⟨i, .inl rfl,h⟩
theorem VW{P:List PyData->Prop}{i:List PyData}(h:P i):∃j,(eA i= .list j\/eA i= .tuple j)/\P j:=⟨i, .inr rfl,h⟩
theorem Gf{P:Bool->Prop}{i j:Int}(h:P (decide (i=j))):∃b,iC (.int i) (.int j) b/\P b:=⟨_, .ii i j,h⟩
theorem LG{P:Bool->Prop}{x y:Bool}(h:P (x==y)):∃b,iC (.bool x) (.bool y) b/\P b:=⟨_, .bb x y,h⟩
theorem at_{ds:List PyData}{k:Int}{e:PyData}{P:PyData->Prop}(h:bC ds k=some e)(q:P e):∃e,bC ds k=some e/\P e:=⟨e,h,q⟩
theorem C5{A:Prop}(q:A):([]:List Fd).length<=10000/\A:=⟨⋯,q⟩
theorem Wz{C A:Prop}(c:C)(q:A):C/\A:=⟨c,q⟩
end R
theorem fL{n:Nat}{F:DF}{vs:List V}{H:Hp}{Q:VK}{E:XK}(h:aU n F vs H Q E):∃(nb:ax->Prop) (ds:List PyData) (Φ:Pd),iK nb H/\ah nb H ds vs/\(∀f d v H',Φ f d->cA H H'->ai (λa=>nb a\/(f=true/\H a≠none)) H' d v->Q v H')/\F ds Φ:=by
 obtain⟨_,nb,ds,h1,h2,h3⟩:=h;exact⟨nb,ds,_,h1,h2,λf d v H' q=>q v H',h3⟩
theorem mK{n:Nat}{F:DF}{vs:List V}{H:Hp}{Q:VK}{E:XK}(h:fP n F vs H Q E):∃(b l:ax) (ws:List V) (nb:ax->Prop) (ds:List PyData) (Φ:Pd),vs= .ref b::ws/\ez H b l/\iK nb H/\nb b/\ah nb H ds ws/\(∀f d v H',Φ f d->aY (Nb b) H H'->ez H' b l->ai (λa=>nb a\/(f=true/\H a≠none)) H' d v->Q v H')/\F ds Φ:=by
 obtain⟨_,b,l,ws,nb,ds,e,O,h1,hb,h2,h3⟩:=h;exact⟨b,l,ws,nb,ds,_,e,O,h1,hb,h2,λf d v H' q=>q v H',h3⟩
noncomputable abbrev aA:=List (Int×Int)
noncomputable abbrev Wo:=List (Option Int)
noncomputable abbrev e7(prs:aA):PyData:= .list (prs.map Bh)
noncomputable abbrev bI(wd:Wo):PyData:= .list (wd.map bS)
noncomputable abbrev bE(p n:Int)(cs:List aA):PyData:= .tuple [.int p, .int n, .list (cs.map e7)]
def qF(prs:aA)(m:Nat):Prop:=∀pr∈prs,0<=pr.1/\pr.1<m/\Sm pr.2
def dU(wd:Wo):Prop:=∀x,some x∈wd->Sm x
theorem uI{α c:Type}{xs:List α}(φ:α->c){k:Int}{m:Nat}(h0:0<=k)(h1:k<m)(hm:m=xs.length):∃x,xs[k.toNat]?=some x/\bC (xs.map φ) k=some (φ x):=by
 have hk:k.toNat<xs.length:=∅
 exact⟨xs[k.toNat],bw hk,iE h0 (by rw[cY,bw hk];rfl)⟩
theorem fB{α c:Type}{xs:List α}{φ:α->c}{i:Nat}{d:c}(h:(xs.map φ)[i]?=some d):∃x,xs[i]?=some x/\d=φ x:=by
 rw[cY] at h;obtain⟨x,hx,e⟩:=pF.mp h;exact⟨x,hx,e.symm⟩
theorem Bf{α:Type}{xs:List α}{i:Nat}{x:α}(h:xs[i]?=some x):xs.take (i+1)=xs.take i++[x]:=by
 rw[DH,h];rfl
theorem rM(o:Option Int):uf (bS o)=o.isNone:=by cases o<;>rfl
structure Eu(p b L lt r t:Int):Prop where
 l0:0<L
 r0:0<=r
 lp:L<=p
 rp:r<=p
 lc:∃k,L=lt*b+p*k
 rc:∃k,r=t*b+p*k
 dv:∀d,d∣L->d∣r->d∣p/\d∣b%p
 sz:(t.natAbs:Int)*L+(lt.natAbs:Int)*r<=p
theorem Eu.start{p b:Int}(hp:2<=p):Eu p b p 0 (b%p) 1:=by
 have m1:=i8 b (show p≠0 by omega);have m2:=i6 b (show 0<p by omega);refine⟨∅,m1,Int.le_refl _,∅,⟨1,by rw[qh,Int.zero_add,vm]⟩,⟨-(b/p),?_⟩,λd h1 h2=>⟨h1,h2⟩,?_⟩
 .have:=nk b p;rw[xv,xw];omega
 .show(1:Int)*p+0*(b%p)<=p;rw[xv,qh];omega
theorem Eu.tb{p b L lt r t:Int}(h:Eu p b L lt r t): -p<=t/\t<=p:=by
 have h1:(t.natAbs:Int)*1<=(t.natAbs:Int)*L:=u0 (by have:=h.l0;omega) ∅;have h2:0<=(lt.natAbs:Int)*r:=CB ∅ h.r0;have:=h.sz;omega
theorem Eu.next{p b L lt r t:Int}(h:Eu p b L lt r t)(hr:0<r):Eu p b r t (L-L/r*r) (lt-L/r*t)/\L-L/r*r<r:=by
 have e:=nk L r;have m1:=i8 L (show r≠0 by omega);have m2:=i6 L hr;have e':L-L/r*r=L%r:=by rw[nK (L/r) r];omega
 have q0:0<=L/r:=AW (by have:=h.l0;omega) ∅;obtain⟨k1,c1⟩:=h.lc;obtain⟨k2,c2⟩:=h.rc;refine⟨⟨hr,∅,h.rp,by have:=h.rp;omega,h.rc,⟨k1-L/r*k2,?_⟩,λd d1 X=>?_,?_⟩,∅⟩
 .rw[vL,mR];generalize L/r=q at*;have z:q*r=q*(t*b)+q*(p*k2):=by rw[<-wI,<-c2]
  have G:q*(t*b)=q*t*b:=(jI q t b).symm;have z2:q*(p*k2)=p*(q*k2):=by rw[<-jI,nK q p,jI]
  omega
 .have a:d∣L:=by
   have z:d∣(L-L/r*r)+L/r*r:=Int.dvd_add X (Int.dvd_mul_of_dvd_right d1);have z2:(L-L/r*r)+L/r*r=L:=∅
   rwa[z2] at z
  exact h.dv d a d1
 .generalize L/r=q at*;have a1:((lt-q*t).natAbs:Int)<=(lt.natAbs:Int)+q*(t.natAbs:Int):=by
   have b1:(lt-q*t).natAbs<=lt.natAbs+(q*t).natAbs:=∅
   have b2:((q*t).natAbs:Int)=q*(t.natAbs:Int):=by
    rw[BN];have:(q.natAbs:Int)=q:=∅
    rw[q3,this]
   omega
  have a2:((lt-q*t).natAbs:Int)*r<=((lt.natAbs:Int)+q*(t.natAbs:Int))*r:=Int.mul_le_mul_of_nonneg_right a1 ∅;have g:((lt.natAbs:Int)+q*(t.natAbs:Int))*r=(lt.natAbs:Int)*r+q*(t.natAbs:Int)*r:=Int.add_mul _ _ _;have m:(t.natAbs:Int)*(L-q*r)=(t.natAbs:Int)*L-q*(t.natAbs:Int)*r:=by
   rw[mR,<-jI,nK (t.natAbs:Int) q]
  have:=h.sz;omega
theorem Nk{α:Type}{us:List α}(h:us.length=1):∃a,us=[a]:=by
  cases us with
  |nil=>cases h
  | cons a us =>
    cases us with
    |nil=>exact⟨a,rfl⟩
    |cons _ _=>cases h
theorem ln2{α:Type}{us:List α}(h:us.length=2):∃a b,us=[a,b]:=by
  cases us with
  |nil=>cases h
  | cons a us =>
    obtain⟨b,rfl⟩:=Nk (us:=us) (zb h);exact⟨a,b,rfl⟩
theorem La{α:Type}{us:List α}(h:us.length=3):∃a b c,us=[a,b,c]:=by
  cases us with
  |nil=>cases h
  | cons a us =>
    obtain⟨b,c,rfl⟩:=ln2 (us:=us) (zb h);exact⟨a,b,c,rfl⟩
theorem Ib{α:Type}{us:List α}(h:us.length=4):∃a b c d,us=[a,b,c,d]:=by
  cases us with
  |nil=>cases h
  | cons a us =>
    obtain⟨b,c,d,rfl⟩:=La (us:=us) (zb h);exact⟨a,b,c,d,rfl⟩
theorem QE{α:Type}{us:List α}(h:us.length=5):∃a b c d e,us=[a,b,c,d,e]:=by
  cases us with
  |nil=>cases h
  | cons a us =>
    obtain⟨b,c,d,e,rfl⟩:=Ib (us:=us) (zb h);exact⟨a,b,c,d,e,rfl⟩
def kF(xs:Array Nat):Prop:=∀(i j x y:Nat),i<j->xs[i]?=some x->xs[j]?=some y->x<y
theorem NO{xs:Array Nat}{q:Nat}(hr:kF xs):∀(f lo hi:Nat),hi<=xs.size->lo<=hi->hi-lo<=f->(∀i x,i<lo->xs[i]?=some x->x<q)->(∀i x,hi<=i->xs[i]?=some x->q<=x)->
    lo<=fw xs q f lo hi/\fw xs q f lo hi<=hi/\(∀i x,i<fw xs q f lo hi->xs[i]?=some x->x<q)/\(∀i x,fw xs q f lo hi<=i->xs[i]?=some x->q<=x):=by
  intro f;induction f with
  | zero =>
    intro lo hi h1 h2 h3 h4 h5;have e:lo=hi:=∅
    subst e;exact⟨aH _,aH _,h4,h5⟩
  | succ f ih =>
    intro lo hi h1 h2 h3 h4 h5;unfold fw;by_cases hlt:lo<hi
    · rw[if_pos hlt]
      have hm:(lo+hi)/2<xs.size:=∅
      have hg:xs[(lo+hi)/2]?=some xs[(lo+hi)/2]:=lH hm;have a:xs.getD ((lo+hi)/2) q=xs[(lo+hi)/2]:=by rw[BS,hg];rfl
      dsimp only;rw[a];by_cases hc:xs[(lo+hi)/2]<q
      · rw[if_pos hc]
        obtain⟨a1,a2,g,m⟩:=ih ((lo+hi)/2+1) hi h1 ∅ ∅ (λi x c e=>by
          rcases vy i ((lo+hi)/2) with z|z
          · exact t6 (hr i _ x _ z e hg) hc
          · have:i=(lo+hi)/2:=∅
            subst this;rw[hg] at e;cases e;exact hc) h5
        exact⟨∅,a2,g,m⟩
      · rw[if_neg hc]
        obtain⟨a1,a2,g,m⟩:=ih lo ((lo+hi)/2) ∅ ∅ ∅ h4 (λi x c e=>by
          rcases vy ((lo+hi)/2) i with z|z
          · exact kK (zJ (EL hc) (hr _ i _ x z hg e))
          · have:i=(lo+hi)/2:=∅
            subst this;rw[hg] at e;cases e;exact EL hc)
        exact⟨a1,∅,g,m⟩
    · rw[if_neg hlt]
      have e:lo=hi:=∅
      subst e;exact⟨aH _,aH _,h4,h5⟩
theorem below_at{xs:Array Nat}{q:Nat}(hr:kF xs):SetTable.below xs q<=xs.size/\(∀i x,i<SetTable.below xs q->xs[i]?=some x->x<q)/\(∀i x,SetTable.below xs q<=i->xs[i]?=some x->q<=x):=by
 obtain⟨_,h2,h3,h4⟩:=NO (q:=q) hr xs.size 0 xs.size (aH _) (fj _) ∅ (λi x h=>absurd h (Nat.not_lt_zero _)) (λi x h e=>by
  have:=(qo.mp e).1;omega)
 exact⟨h2,h3,h4⟩
theorem Qt{α:Type}{xs:Array α}{p:Nat}{x:α}(hp:p<=xs.size)(i:Nat):(ke xs p x)[i]?=if i<p then xs[i]? else if i=p then some x else xs[i-1]?:=by
 unfold ke;rw[Pf];have e1:((xs.extract 0 p).push x).size=p+1:=by rw[ur,gn];omega
 rw[e1];by_cases h1:i<p
 .rw[if_pos (show i<p+1 by omega),if_pos h1,Gq,if_neg (by rw[gn];omega),Qm ∅];simp
 .rw[if_neg h1];by_cases h2:i=p;·rw[if_pos (show i<p+1 by omega),if_pos h2,Gq,if_pos (by rw[gn];omega)]
  .rw[if_neg (show¬i<p+1 by omega),if_neg h2];by_cases h3:i-(p+1)<xs.size-p;·rw[Qm ∅,<-lH,show p+(i-(p+1))=i-1 by omega]
   .rw[BV (by rw[gn];omega),BV ∅]
theorem kF.insert{xs:Array Nat}{q:Nat}(hr:kF xs)(hq:xs[SetTable.below xs q]?≠some q):kF (ke xs (SetTable.below xs q) q):=by
 obtain⟨h1,h2,h3⟩:=below_at (q:=q) hr;have d:∀i x,SetTable.below xs q<=i->xs[i]?=some x->q<x:=λi x hi e=>by
  rcases qN (h3 i x hi e) with z|z
  .exact z
  .subst z;rcases qN hi with z|z
   .have hb:SetTable.below xs q<xs.size:=eK z (kK (qo.mp e).1);have hg:xs[SetTable.below xs q]?=some xs[SetTable.below xs q]:=lH hb;have:=hr _ i _ q z hg e;have:=h3 _ _ (aH _) hg;omega
   .rw[<-z] at e;exact absurd e hq
 intro i j x y hij ex o;rw[Qt h1] at ex o;by_cases a:i<SetTable.below xs q
 .rw[if_pos a] at ex;by_cases b:j<SetTable.below xs q;·rw[if_pos b] at o;exact hr i j x y hij ex o
  .rw[if_neg b] at o;by_cases c:j=SetTable.below xs q;·rw[if_pos c] at o;cases o;exact h2 i x a ex
   .rw[if_neg c] at o;exact hr i (j-1) x y ∅ ex o
 .rw[if_neg a] at ex;by_cases c:i=SetTable.below xs q
  .rw[if_pos c] at ex;cases ex
   rw[if_neg ∅,if_neg ∅] at o;exact d (j-1) y ∅ o
  .rw[if_neg c] at ex;rw[if_neg ∅,if_neg ∅] at o;exact hr (i-1) (j-1) x y ∅ ex o
theorem Um{t:eF}{ha:Nat->Int}{h:Int}:∀(f:Nat) (p:sk) (j:Nat) (a:Option Nat),(∀d,p.dummy=some d->t.slot d= .dummy)->kf t ha h f p=some (.empty j a)->t.slot j= .empty/\∀d,a=some d->t.slot d= .dummy:=by
  intro f;induction f with
  |zero=>intro p j a _ e;unfold kf at e;cases e
  | succ f ih =>
    intro p j a hd e;have b:∀p:sk,(t.advance p).dummy=p.dummy:=λp=>by unfold SetTable.advance;split<;>rfl
    unfold kf at e;cases hs:t.slot p.j with
    |empty=>rw[hs] at e;cases e;exact⟨hs,hd⟩
    |dummy=>rw[hs] at e;exact ih _ j a (λd h'=>by rw[b] at h';cases h';exact hs) e
    | live i =>
      rw[hs] at e;dsimp only at e;split at e;· cases e
      · exact ih _ j a (λd h'=>by rw[b] at h';exact hd d h') e
theorem Ny{t:eF}{h:Int}{j:Nat}{wd:Bool}(e:t.freeSlot h=some (j,wd)):∀i,t.slot j≠ .live i:=by
 unfold SetTable.freeSlot SetTable.probe at e;intro i z;split at e
 .rename_i j0 dm he
  obtain⟨h1,h2⟩:=Um (10*SetTable.turns t.mask) (t.probeStart h) j0 dm (λd h'=>by unfold SetTable.probeStart at h';cases h') he;cases dm with
  |none=>cases e;simp at z;rw[h1] at z;cases z
  |some d=>cases e;simp at z;rw[h2 d rfl] at z;cases z
 .cases e
structure eZ(bt:Bool)(t:eF):Prop where
 led:bt=false->t.led=true
 Ex:t.plain=true->kF t.place
theorem eZ.standIn{bt:Bool}{t:eF}(h:eZ bt t)(n:Nat):eZ bt (t.standIn n):=⟨h.led,λz=>by cases z⟩
theorem eZ.off{bt:Bool}{t:eF}(h:eZ bt t):eZ bt {t with plain:=false}:=⟨h.led,λz=>by cases z⟩
theorem eZ.put{bt:Bool}{t:eF}{j:Nat}(h:eZ bt t)(hj:∀i,t.slot j≠ .live i):eZ bt (t.put j).1:=by
 refine⟨h.led,λz=>?_⟩;refine kF.insert (h.Ex z) λe=>hj (SetTable.below t.place j) ?_;unfold SetTable.slot;dsimp only;rw[if_pos (by rw[e];exact beq_self_eq_true _)]
theorem eZ.layNew{bt:Bool}{t:eF}{es:Array (Int×ag)}{h:Int}{x:ag}(ok:eZ bt t):eZ bt (layNew t es h x).2.1:=by
 unfold PySem.layNew;split
 .rename_i slot wd e
  dsimp only;unfold SetTable.orStandIn;split;·exact ok.put (Ny e)
  .exact(ok.put (Ny e)).standIn _
 .exact ok.standIn _
theorem XN(n:Nat)(φ:Nat->Option Nat):kF (((bo n).filterMap λj=>(φ j).map (j,·)).map (·.1)).toArray:=by
  have hp:(((bo n).filterMap λj=>(φ j).map (j,·)).map (·.1)).Pairwise (· < ·):=by
    have hs:List.Sublist (((bo n).filterMap λj=>(φ j).map (j,·)).map (·.1)) (bo n):=by
      induction bo n with
      |nil=>simp
      | cons a r ih =>
        rw[sy];cases φ a with
        |none=>exact ih.cons a
        |some y=>exact ih.cons₂ a
    exact List.pairwise_lt_range.sublist hs
  intro i j x y hij ex ey;rw[L3] at ex ey;obtain⟨hi,rfl⟩:=bT.mp ex;obtain⟨hj,rfl⟩:=bT.mp ey;exact C0.mp hp i j hi hj hij
theorem eZ.Q0{bt:Bool}{t:eF}{es:Array (Int×ag)}{n:Nat}(ok:eZ bt t):eZ bt (my t es n).2.1:=by
  unfold my;split
  · rename_i t' order e
    dsimp only;split
    · unfold SetTable.relaid SetTable.laid at e
      cases hl:SetTable.layClean (SetTable.sizeAbove n-1) (es.map (·.1)) with
      |none=>rw[hl] at e;cases e
      | some owner =>
        rw[hl] at e;cases e;exact⟨ok.led,λ_=>XN _ _⟩
    · exact ok.standIn _
  · exact ok.standIn _
theorem eZ.fresh{bt:Bool}:eZ bt (.fresh 0 0 (!bt)):=⟨λh=>by rw[h];rfl,λ_ i j x y _ e=>by simp[SetTable.fresh] at e⟩
def gX(bt:Bool)(h:eC)(a:ax):Prop:=∀o es ep t,h.get? a=some o->o.data= .set es ep t->eZ bt t
theorem gX.of{bt:Bool}{h:eC}{a:ax}{o:Obj}{es:Array (Int×ag)}{ep:Nat}{t:eF}(e:h.get? a=some o)(d:o.data= .set es ep t)(k:eZ bt t):gX bt h a:=λo' es' f t' e' d'=>by
 rw[e] at e';cases e';rw[d] at d';cases d';exact k
theorem gX.keep{bt:Bool}{h h':eC}{a:ax}{o:Obj}(k:gX bt h a)(e:h.get? a=some o)(e':h'.get? a=some o):gX bt h' a:=λo1 es ep t x d=>by
 rw[e'] at x;cases x;exact k o es ep t e d
section
variable{prog:bg}{w:cq}{A:cx}{E:ag->ar->Prop}{s:ar}{a:ax}{bt:Bool}
noncomputable abbrev IK(prog:bg)(w:cq):=intKind prog w
theorem M3{o:Obj}{es es':Array (Int×ag)}{ep:Nat}{t t':eF}{T:Int->Bool}{h:eC}(g1:h.get? a=some o)(g2:o.ExactSet)(N:o.data= .set es ep t)(F:ElemsOf (IK prog w) es'.toList)
  (V:∀k,T k=true↔∃e∈es'.toList,(IK prog w).is k e.2=true) (y:es'.size<gd) (i:t'.fits es'.size=true) (tk:eZ bt t'):
  (∃o',(h.update a (nC es' t')).get? a=some o'/\o'.ExactSet/\o'.data= .set es' (ep+1) t')/\(h.update a (nC es' t')).SetOf (IK prog w) a T es'.size/\gX bt (h.update a (nC es' t')) a:=by
 obtain⟨J,O⟩:=SetOf_store (knd:=IK prog w) (es':=es') (t':=t') (S':=T) g1 g2 N F V y i;exact⟨⟨_,J,g2,rfl⟩,O, .of J rfl tk⟩
theorem Js{h:Bool->Sem Unit}(f:∀(b:Bool) (s₁:ar) (Q₁:Unit->ar->Prop),Q₁ () s₁->wpAny (be prog w) A (h b) Q₁ E s₁){o:Obj}{es:Array (Int×ag)}{ep:Nat}{t:eF}
    (g1:s.heap.get? a=some o) (g2:o.ExactSet) (N:o.data= .set es ep t) {d:Array (Int×ag)} {S:eF} {T:Int->Bool} (F:ElemsOf (IK prog w) d.toList) (V:∀k,T k=true↔∃e∈d.toList,(IK prog w).is k e.2=true)
    (y:d.size<gd) (i:S.fits d.size=true) (tk:eZ bt S) {wd:Bool} {R:Option Bool->ar->Prop}
    (fin:∀h',e6 a s.heap h'->h'.SetOf (IK prog w) a T d.size->gX bt h' a->R (some true) {s with heap:=h'}):
    wpAny (be prog w) A (do storeSet a d S
                               if(!wd && S.tooFull)=true then do
                                 h (my S d (eR d.size)).2.2
                                 storeSet a (my S d (eR d.size)).1 (my S d (eR d.size)).2.1
                                 pure (some true)
                               else pure (some true)) R E s:=by
  obtain⟨⟨o1,k1,k2,k3⟩,J,O⟩:=M3 (T:=T) g1 g2 N F V y i tk;have sb:=ml s.heap a (nC d S);refine ae (nL g1 N ?_ (gU y));by_cases c:(!wd && S.tooFull)=true
  · rw[if_pos c]
    have pp:=relayAll_perm S d (eR d.size);have pf:=relayAll_fits S d (eR d.size);have pt:=tk.Q0 (es:=d) (n:=eR d.size);generalize my S d (eR d.size)=Z at pp pf pt⊢;obtain⟨g,Q,v⟩:=Z;dsimp only at pp pf pt⊢;have sz:g.size=d.size:=by have:=pp.length_eq;rwa[dI,dI] at this
    have j:∀k,T k=true↔∃e∈g.toList,(IK prog w).is k e.2=true:=λk=>(V k).trans ⟨λ⟨e,m,z⟩=>⟨e,pp.mem_iff.mpr m,z⟩,λ⟨e,m,z⟩=>⟨e,pp.mem_iff.mp m,z⟩⟩;obtain⟨_,C,U⟩:=M3 (T:=T) k1 k2 k3 (F.perm pp) j (by rw[sz];exact y) pf pt;refine ae (f _ _ _ (ae (nL k1 k3 ?_ (gU (by rw[sz];exact y)))));rw[sz] at C;exact aw (fin _ (sb.trans (ml _ a _)) C U)
  · rw[if_neg c]
    exact aw (fin _ sb J O)
theorem E6{S:Int->Bool}{n:Nat}{k:Int}{x:ag}{Q:Bool->ar->Prop}(hx:(IK prog w).is k x=true)(sc:x.scannable=true)(U:s.heap.SetOf (IK prog w) a S n)(hT:gX bt s.heap a)(f:n+1<gd)
    (fin:∀h',e6 a s.heap h'->h'.SetOf (IK prog w) a (λj=>S j||decide (j=k)) (if S k then n else n+1)->gX bt h' a->Q (!S k) {s with heap:=h'}):
    wpAny (be prog w) A (setAddHashed a x ((IK prog w).hash k)) Q E s:=by
  obtain⟨o,es,ep,t,g1,g2,N,F,V,y,i,sz⟩:=U;have tk:=hT o es ep t g1 N;unfold setAddHashed setAddHashedIn;refine du (ae (ec g1 N i ?_));dsimp only;rw[if_pos (byScan_of sc y F)];unfold setAddByScan;refine ae (ae (eP (ae (wpAny_setScan_of hx g1 N i F ?_))));cases r:List.findIdx? (λe=>(IK prog w).is k e.2) es.toList with
  | some j =>
    obtain⟨hj,pj,_⟩:=List.findIdx?_eq_some_iff_getElem.mp r;have g:S k=true:=(V k).mpr ⟨_,fZ hj,pj⟩
    have z:=fin s.heap (.refl a s.heap) ⟨o,es,ep,t,g1,g2,N,F,λj=>by
      rw[Bool.or_eq_true,decide_eq_true_eq,<-V j];exact⟨λq=>q.elim id λe=>e▸g, .inl⟩,y,i,by rw[if_pos g];exact sz⟩ hT
    rw[g] at z;exact aw (aw z)
  | none =>
    have no:S k=false:=by
      cases q:S k with
      |false=>rfl
      | true =>
        obtain⟨e,m,p⟩:=(V k).mp q;rw[List.findIdx?_eq_none_iff.mp r e m] at p;cases p
    have pp:=layNew_perm t es ((IK prog w).hash k) x;have pf:=layNew_fits t es ((IK prog w).hash k) x;have pt:=tk.layNew (es:=es) (h:=(IK prog w).hash k) (x:=x);dsimp only;generalize layNew t es ((IK prog w).hash k) x=Z at pp pf pt⊢;obtain⟨d,Y,wd,v⟩:=Z;dsimp only at pp pf pt⊢;rw[kL] at pp;have u:d.size=n+1:=by have:=pp.length_eq;rw[cK,dI,dI,sz] at this;exact this
    have c:∀h',e6 a s.heap h'->h'.SetOf (IK prog w) a (λj=>S j||decide (j=k)) d.size->gX bt h' a->Q true {s with heap:=h'}:=λh' x1 x2 x3=>by
      have:=fin h' x1;rw[no,if_neg cO] at this;rw[u] at x2;exact this x2 x3
    have l:∀(b:Bool) (s₁:ar) (Q₁:Unit->ar->Prop),Q₁ () s₁->wpAny (be prog w) A (match b with|true=>rule "set.scan.the-table-gave-way" |false=>pure ()) Q₁ E s₁:=λb s₁ Q₁ q=>by
      cases b;· exact aw q
      · exact eP q
    refine ae (l _ _ _ ?_);have e1:=(F.push hx sc).perm pp;have e2:=mem_push_iff hx V pp;have e3:d.size<gd:=by rw[u];exact f
    by_cases pl:Y.plain=true
    · rw[if_pos pl,hashByValue_scannable 8 sc]
      refine ae (aw ?_);refine Js l g1 g2 N e1 e2 e3 ?_ ?_ λh' x1 x2 x3=>aw (c h' x1 x2 x3)
      · split
        · exact pf
        · exact SetTable.fits_plain_off pf
      · split
        · exact pt
        · exact pt.off
    · rw[if_neg pl]
      refine ae (aw ?_);rw[if_pos rfl];exact Js l g1 g2 N e1 e2 e3 pf pt λh' x1 x2 x3=>aw (c h' x1 x2 x3)
end
section
variable{prog:bg}{w:cq}{A:cx}{R:Result->ar->Prop}{I:ax}{fp wr:List ax}{G:Array p3->Array p3->Prop}{n:Nat}{P:Nat->ag->Prop}{qg:Nat->ar->Prop}{bt:Bool}
noncomputable abbrev met(val:Nat->Int)(i:Nat):Int->Bool:=λk=>(gg val i).any (· ==k)
theorem R4(W:WalksS prog w A.in1 I fp wr G n P qg)(C:ax)(p:C∉fp)(val:Nat->Int)(hv:∀i v,P i v->∃t,v= .int (val i) t)(f:n+1<gd)(c:Nat):
    ∀(i:Nat) (s:Shared),n-i=c->i<=n->qg i s->s.heap.SetOf (IK prog w) C (met val i) (firstMet val i).length->gX bt s.heap C->
      (∀s',Moved (C::wr) G s s'->s'.heap.SetOf (IK prog w) C (met val n) (gg val n).length->gX bt s'.heap C->R (.ok (.ret .none)) s')->
      codeAny (be prog w) A (.builtin "set.update.loop" ⟨[.ref C, .ref I],[]⟩) R s:=by
  have l:C∉wr:=λz=>p (W.sub _ z);have up:∀b∈wr,b∈C::wr:=λb z=>cS _ z;have h:∀{s s':ar} {T:Int->Bool} {m:Nat},Moved wr G s s'->s.heap.SetOf (IK prog w) C T m->gX bt s.heap C->s'.heap.SetOf (IK prog w) C T m/\gX bt s'.heap C:=λd q a=>by
    obtain⟨o,es,ep,t,D,r⟩:=q;exact⟨⟨o,es,ep,t,d.heap C _ l D,r⟩,a.keep D (d.heap C _ l D)⟩
  induction c with
  | zero =>
    intro i s e1 e2 st q a fin;obtain rfl:i=n:=∅
    refine ee kO ?_;rw[pI Fg _];refine ae (W.done s _ _ st λs' d=>?_);exact aw (fin s' (d.mono up) (h d q a).1 (h d q a).2)
  | succ c ih =>
    intro i s e1 e2 st q a fin;have lt:i<n:=∅
    refine ee kO ?_;rw[pI Fg _];refine ae (W.item i s _ _ lt st λv s' Z st' d=>?_);obtain⟨tok,rfl⟩:=hv i v Z;obtain⟨B,g⟩:=h d q a;show wpAny _ A.in1 (holding [js (val i) tok] (setAdd C (.int (val i) tok))>>=_) _ _ s';unfold setAdd;refine ae (du (du (ae ((IK prog w).pyHash (k:=val i) (tW _ _ _ _) ?_))));refine E6 (bt:=bt) (s:={s' with toks:=s'.toks+1}) (tW _ _ _ _) rfl B g (by have:=firstMet_length_le val i;omega) λh' sb O E=>?_;have Y:h'.SetOf (IK prog w) C (met val (i+1)) (gg val (i+1)).length:=SetOf_congr O (λj=>by unfold met;rw[mB,step_any]) (by rw[mB,step_length]);refine aw ⟨gq Fg _,ih (i+1) _ ∅ lt (W.frame _ s' _ _ st' (qS _) λb hb o e=>?_) Y E λs2 y u x=>?_⟩;· rw[sb.2 b λz:b=C=>p (z▸hb)];exact e
    · refine fin s2 (Moved.trans W.gtrans ((d.mono up).then_heap (qS _) λb o hb e=>?_) y) u x
      rw[sb.2 b λz:b=C=>hb (z▸dj)];exact e
end
section
variable{prog:bg}{w:cq}{A:cx}{E:ag->ar->Prop}{s:ar}
noncomputable abbrev gv(w:cq):Bool:=w.params.followText "set-order"
noncomputable abbrev lz(w:cq):Obj:={cls:= .type "set",dict:=none,data:= .set #[] 0 (.fresh 0 0 (!gv w))}
theorem YE(a:ag){Q₁:ag->ar->Prop}(fin:Q₁ (.ref s.heap.objs.size) {s with heap:=s.heap.push (lz w)}):codeAny (be prog w) A (.call (.builtin "set.__new__") ⟨[.type "set",a],[]⟩) (wants Q₁ E) s:=by
 refine q4 ?_;show wpAny _ A.in1 (do checkBuiltinCall "set.__new__" ⟨[.type "set",a],[]⟩;again (.builtin "set.__new__" ⟨[.type "set",a],[]⟩)) _ _ s;refine ae (wpAny_of_eq (F.newCall_set_1 a) (aw ⟨gq q5 _,ee F.entry_set_new ?_⟩));rw[pI q5 _];unfold hZ.«set.__new__» r4;have hsub:=sub_set_self;obtain⟨hp,g,d,tk,os⟩:=s;dsimp only at fin⊢
 wp_walk
 refine eL (aw ?_);dsimp only;simp only[newObj];exact ae (wpAny_alloc (aw (aw fin)))
theorem WS{l:ax}{items:Array ag}{ns:List Int}{Q:ag->ar->Prop}(L:A.handled=none)(hl:s.heap.IsList l items)(hi:en items.toList ns)(f:items.size+1<gd)
    (fin:∀(h':eC) (tk:Nat),h'.SetOf (IK prog w) s.heap.objs.size (met (λi=>ns.getD i 0) items.size) (gg (λi=>ns.getD i 0) items.size).length->gX (gv w) h' s.heap.objs.size->
      (∀b o,b<s.heap.objs.size->s.heap.get? b=some o->h'.get? b=some o)->Q (.ref s.heap.objs.size) {s with heap:=h',toks:=tk}):wpAny (be prog w) A (call (.type "set") [.ref l]) Q E s:=by
  obtain⟨c,tl,G⟩:=ow.mro;have hmade:=ow.made;have hsub:=ow.sub;have h1:=ow.notType;have h2:=ow.canCreate;have hct:=F.typeCall_set_1 (.ref l);refine tJ (q4 ?_);show wpAny _ _ (callAny (.type "set") _) _ _ _;refine aw ⟨Code.quiet_builtin _ (by decide+kernel),ee F.entry_type_call ?_⟩;rw[Around.under_plain (weight_type_call_type "set" [.ref l] []) rfl]
  repeat (any_goals (first|assumption|wp_step))
  refine hF (YE (.ref l) (E:=E) (Q₁:=λobj s₁=>obj= .ref s.heap.objs.size/\s₁={s with heap:=s.heap.push (lz w)}) ⟨rfl,rfl⟩) λr s₁ hr=>?_;cases r with
  |error e=>exact hr
  | ok fl =>
    cases fl with
    | ret obj =>
      obtain⟨rfl,rfl⟩:=hr;have U:(s.heap.push (lz w)).get? s.heap.objs.size=some (lz w):=fT _ rfl;have hT:Shared.TypeIs {s with heap:=s.heap.push (lz w)} (.ref s.heap.objs.size) "set":=⟨_,U,rfl⟩;have hli:=ow.init.lookup;have hbi:=ow.init.bind (.ref s.heap.objs.size)
      repeat (any_goals (first|assumption|wp_step))
      refine hF (codeAny_call_builtin (R:=wants (λr d=>r= .none/\∃h' tk,d={s with heap:=h',toks:=tk}/\h'.SetOf (IK prog w) s.heap.objs.size (met (λi=>ns.getD i 0) items.size) (gg (λi=>ns.getD i 0) items.size).length/\gX (gv w) h' s.heap.objs.size/\
          (∀b o,b<s.heap.objs.size->s.heap.get? b=some o->h'.get? b=some o)) E) ow.init.plain F.entry_set_init (check_set_init_1 hT ?_)) λk d n=>?_
      · obtain⟨B,Z,hcl,p,m⟩:=hl
        obtain⟨D,x,t,C⟩:=B;simp only at hcl m;subst hcl;subst m;have acu:=bW (lz w) Z;have adL:=F.sub_list_set;have adK:=F.sub_list_frozenset;have T:(ej "list"==ej "dict")=false:=⋯
        have hl1:(s.heap.push (lz w)).IsList l items:=⟨_,acu,rfl,p,rfl⟩;unfold hZ.«set.__init__» noKeywords p4;generalize y:yd=PI
        wp_walk
        subst y;refine j1 hl1 (ae (md ?_));have h:l<s.heap.objs.size:=bP Z;have u:(s.heap.push (lz w)).objs.size=s.heap.objs.size+1:=lE ..;have n1:l≠(s.heap.push (lz w)).objs.size:=by rw[u];exact dN (nM h)
        have n2:s.heap.objs.size∉[(s.heap.push (lz w)).objs.size,l]:=by
          rw[u];intro z;rcases aK.mp z with z|z
          · exact absurd z (dN (oJ _))
          · exact absurd (br.mp z) (qw h)
        have h3:A.in1.in1.in1.handled=none:=by simp[L]
        have hS':=bW ({cls:= .type "list_iterator",data:= .fields #[.ref l, .int 0 0]}:Obj) U
        refine R4 (bt:=gv w) ((y6 h3 _ l n1 items).toS) s.heap.objs.size n2 (λi=>ns.getD i 0) (λi v e=>IntsAre.int_at hi i v (by rw[jj];exact e)) f (items.size-0) 0 _ ∅ (fj _)
          ⟨⟨_,fT _ rfl,rfl,rfl⟩,(hl1.push _)⟩ (SetOf_congr ((setObjOf_fresh (knd:=IK prog w) (!gv w)).setOf hS' (by unfold gd;omega)) (λ_=>rfl) rfl) (.of hS' rfl .fresh) ?_
        intro s' mo q tt;obtain⟨h',g',d',j,a⟩:=s';obtain rfl:g'=s.gens:=mo.gens;obtain rfl:d'=s.drawn:=mo.drawn;obtain rfl:a=s.os:=mo.os;refine aw (aw ⟨rfl,h',j,rfl,q,tt,λb o hb e=>?_⟩);refine mo.heap b o (λz=>?_) (bW _ (bW _ e));rcases aK.mp z with z|z
        · exact absurd z (dN hb)
        · rw[u] at z;exact absurd (br.mp z) (dN (nM hb))
      · cases k with
        |error e=>exact n
        | ok g =>
          cases g with
          | ret r =>
            obtain⟨rfl,h',tk,rfl,J,O,Y⟩:=n
            repeat (any_goals (first|assumption|wp_step))
            exact fin _ _ J O Y
          |_=>exact n.elim
    |_=>exact hr.elim
end
theorem jz:Slot "set_iterator" "__next__" "set_iterator.__next__":= .of (owner:="set_iterator") (n:="__next__") (by rw[l3,hH];kernel_rfl) (by decide+kernel) (by decide+kernel) (by decide+kernel) (by first|exact .inl (by decide+kernel)|exact .inr (by decide+kernel)) (by rw[iY];kernel_rfl)
theorem vN:y0 table "set_iterator.__next__"=some hZ.«set_iterator.__next__» :=entryFor_of_tree (by kernel_rfl)
theorem xB(a:ag):vB "set_iterator.__next__" ⟨[a],[]⟩:=by unfold vB;kernel_rfl
theorem MJ:Slot "set" "__iter__" "set.__iter__":= .of (owner:="set") (n:="__iter__") (by rw[l3,hH];kernel_rfl) (by decide+kernel) (by decide+kernel) (by decide+kernel) (by first|exact .inl (by decide+kernel)|exact .inr (by decide+kernel)) (by rw[iY];kernel_rfl)
theorem SG:y0 table "set.__iter__"=some hZ.«frozenset.__iter__» :=so (id':="frozenset.__iter__") (by kernel_rfl) rfl (by decide+kernel) (by kernel_rfl)
theorem Rt(a:ag):vB "set.__iter__" ⟨[a],[]⟩:=by unfold vB;kernel_rfl
theorem qZ:Slot "set_iterator" "__iter__" "set_iterator.__iter__":= .of (owner:="set_iterator") (n:="__iter__") (by rw[l3,hH];kernel_rfl) (by decide+kernel) (by decide+kernel) (by decide+kernel) (by first|exact .inl (by decide+kernel)|exact .inr (by decide+kernel)) (by rw[iY];kernel_rfl)
theorem Cj:y0 table "set_iterator.__iter__"=some hZ.«dict_keyiterator.__iter__» :=so (id':="dict_keyiterator.__iter__") (by kernel_rfl) rfl (by decide+kernel) (by kernel_rfl)
theorem Fj(a:ag):vB "set_iterator.__iter__" ⟨[a],[]⟩:=by unfold vB;kernel_rfl
section
variable{prog:bg}{w:cq}{A:cx}{E:ag->ar->Prop}{s:ar}{a it tp:ax}{o:Obj}{es:Array (Int×ag)}{ep:Nat}{t:eF}
theorem Bx{α:Type}:∀{l:List α} {i:Nat} (h:i<l.length),(l[i]::l.eraseIdx i).Perm l
  |b::r,0,_=>by simp
  | b :: r, i + 1, h => by
    have:=Bx (l:=r) (i:=i) (by simpa using h);simp only[List.getElem_cons_succ,List.eraseIdx_cons_succ];exact(AV b _ _).trans (this.cons b)
theorem FF{α:Type}(nx:Nat->Nat):∀(f k:Nat) (l:List α) (out:Array α),l.length<=f->(oT nx f k l out).toList.Perm (out.toList++l):=by
  intro f;induction f with
  | zero =>
    intro k l out h;have:l=[]:=nA.mp ∅;subst this;unfold oT;simp
  | succ f ih =>
    intro k l out h;unfold oT;cases l with
    |nil=>simp
    | cons b r =>
      have hlt:nx k%(b::r).length<(b::r).length:=rG _ (by simp);rw[bw hlt];dsimp only;refine(ih (k+1) _ _ (by rw[Dw hlt];omega)).trans ?_;rw[kL,fS];refine lR _ ?_;exact Bx hlt
theorem Jj(bt:gv w=true)(g1:s.heap.get? a=some o)(N:o.data= .set es ep t)(g:t.fits es.size=true){i sl:Nat}{Q:Option (ag×Nat)->ar->Prop}
  (h:Q (((eo (w.params.setOrder a ep) es)[i]?).map λe=>(e.2,sl)) s):wpAny (be prog w) A (nT a sl i ep) Q E s:=by
 unfold nT;refine ae (ec g1 N g ?_);dsimp only;unfold n3;refine ae (ae (eL (aw ?_)));show wpAny _ _ (if gv w=true then _ else _) _ _ _;rw[if_pos bt];rw[if_neg (by simp)];refine ae ?_;unfold setWalk;refine ae (ec g1 N g ?_);dsimp only;unfold n3;refine ae (ae (eL (aw ?_)));show wpAny _ _ (if gv w=true then _ else _) _ _ _;rw[if_pos bt];refine ae (eL (aw ?_));exact aw h
theorem Qc(bt:gv w=false)(g1:s.heap.get? a=some o)(N:o.data= .set es ep t)(g:t.fits es.size=true)(tk:eZ (gv w) t)(pl:t.plain=true\/es.size<=1){i sl:Nat}{Q:Option (ag×Nat)->ar->Prop}
  (h:Q (match es[SetTable.below t.place sl]?,t.place[SetTable.below t.place sl]? with|some (_,x),some j=>some (x,j+1)|_,_=>none) s):wpAny (be prog w) A (nT a sl i ep) Q E s:=by
 unfold nT;refine ae (ec g1 N g ?_);dsimp only;unfold n3;refine ae (ae (eL (aw ?_)));show wpAny _ _ (if gv w=true then _ else _) _ _ _;rw[bt,if_neg cO];show wpAny _ _ (if(!t.plain && decide (es.size>1))=true then _ else _) _ _ _
 rw[if_neg (by
  intro z;rw[eY,n4,decide_eq_true_eq] at z;rcases pl with p|p
  .rw[p] at z;cases z.1
  .omega)]
 refine ae ?_;show wpAny _ _ (if(!t.led && !es.isEmpty)=true then _ else _) _ _ _;rw[if_neg (by rw[tk.led bt];simp)];refine aw ?_;exact aw h
theorem WN(g1:s.heap.get? a=some o)(N:o.data= .set es ep t)(g:t.fits es.size=true){pl:Nat}{hx:Int}{x:ag}{Q:ag->ar->Prop}(e:es[pl]?=some (hx,x))(h:Q x s):wpAny (be prog w) A (o3 a pl ep) Q E s:=by
 unfold o3;refine ae (ec g1 N g ?_);dsimp only;rw[if_neg (by simp)];rw[e];exact aw h
def kj(h:eC)(it a:ax)(first:ag)(i n ep:Nat):Prop:=∃o,h.get? it=some o/\o.cls= .type "set_iterator" /\o.data= .fields #[first, .int i 0, .ref a, .int n 0, .int ep 0]
theorem kj.ty{first:ag}{i n:Nat}(h:kj s.heap it a first i n ep):s.TypeIs (.ref it) "set_iterator":=let ⟨o,e,c,_⟩:=h;⟨o,e,c⟩
theorem yP{first:ag}{i n:Nat}{QQ:Fin->ar->Prop}{b:ag->ar->Prop}(c:kj s.heap it a first i n ep)(g1:s.heap.get? a=some o)(N:o.data= .set es ep t)(g:t.fits es.size=true)(hn:es.size=n)
    (h:wpAny (be prog w) A (match first with
      | .int slot _ => (do
        match<-nT a slot.toNat i ep with
        | some (x, next) => do
          mI (.ref it) 0 (cn next)
          mI (.ref it) 1 (cn ((i:Int)+1))
          ret x
        | none => do
          mI (.ref it) 2 .none
          va (<-newExc (.type "StopIteration") []))
      | _ => (do
        let some places<-seqItems? first|fg "internal:set_iterator"
        match places[i]? with
        | some (.int place _) => do
          let x<-o3 a place.toNat ep
          mI (.ref it) 1 (cn ((i:Int)+1))
          ret x
        |some _=>fg "internal:set_iterator"
        | none => do
          mI (.ref it) 0 (cn 0)
          mI (.ref it) 2 .none
          va (<-newExc (.type "StopIteration") []))) QQ b s):wpAny (be prog w) A (hZ.«set_iterator.__next__» ⟨[.ref it],[]⟩) QQ b s:=by
  obtain⟨J,D,hc,hd⟩:=c;unfold hZ.«set_iterator.__next__»;refine ae (aw ?_);refine ae (wpAny_fieldsOf D hd ?_);dsimp only;refine ae (mq g1 N g ?_);rw[if_neg (by rw[hn];simp)];cases first<;>exact h
theorem yH{h:eC}{first:ag}{i n k:Nat}{x:ag}{J:Obj}{vs:Array ag}(D:h.get? it=some J)(hc:J.cls= .type "set_iterator")(hd:J.data= .fields vs):
  (h.update it (kQ (·.setIfInBounds k x))).get? it=some (kQ (·.setIfInBounds k x) J)/\(kQ (·.setIfInBounds k x) J).cls= .type "set_iterator" /\(kQ (·.setIfInBounds k x) J).data= .fields (vs.setIfInBounds k x):=by
 refine⟨zp _ D (Obj.isFreed_of_fields (mM hd _)),(Obj.cls_mapFields ..).trans hc,mM hd _⟩
theorem NW{sl i n nx:Nat}{x:ag}{Q:Option ag->ar->Prop}(c:kj s.heap it a (.int sl 0) i n ep)(g1:s.heap.get? a=some o)(N:o.data= .set es ep t)(g:t.fits es.size=true)(hn:es.size=n)
  (hN:∀(Q:Option (ag×Nat)->ar->Prop) (E:ag->ar->Prop),Q (some (x,nx)) s->wpAny (be prog w) A.in1 (nT a sl i ep) Q E s)
  (G:∀h',kj h' it a (.int nx 0) (i+1) n ep->(∀b,b≠it->h'.get? b=s.heap.get? b)->Q (some x) {s with heap:=h'}):wpAny (be prog w) A (mc (.ref it)) Q E s:=by
 obtain⟨J,D,hc,hd⟩:=id c;unfold mc;refine ae (hQ (eI (name:=dA "__next__") c.ty jz (c5 jz c.ty vN ?_ (xB _))));refine yP c g1 N g hn ?_;dsimp only;refine ae (hN _ _ ?_);dsimp only;obtain⟨u1,u2,j⟩:=yH (first:= .none) (i:=0) (n:=0) (k:=0) (x:=cn nx) D hc hd;obtain⟨S,L,e⟩:=yH (first:= .none) (i:=0) (n:=0) (k:=1) (x:=cn ((i:Int)+1)) u1 u2 j;refine ae (fD D hd (by simp) ?_);refine ae (fD u1 j (by simp) ?_);refine aw ⟨x,rfl,aw (G _ ⟨_,S,L,?_⟩ λb hb=>?_)⟩;·rw[e];simp[cn]
 .exact((lW _ _ (cB hb))).trans (lW _ _ (cB hb))
theorem Qi{QQ:Fin->ar->Prop}{B:cx}{Q:Option ag->ar->Prop}(L:B.handled=none)(G:∀o1 o2,Q none {s with heap:=(s.heap.push o1).push o2}):wpAny (be prog w) B (do va (<-newExc (.type "StopIteration") [])) QQ
  (λe s'=>wpAny (be prog w) A (do if<-isInstance e (.type "StopIteration") then pure none else throw e) Q E s') s:=by
 refine ae ?_;simp only[newExc,newTuple];refine ae (c6 ?_ (by size_fits));refine ae (m:=sv _ _) (wpAny_of_eq (a:=gw) (by first|rfl|(simp only[sv];rfl)) (c6 ?_ (by size_fits)));simp only[va];refine ae (wpAny_handled ?_);rw[L];refine ae (aw (wpAny_throw ?_));refine ae (lr (b:=true) (T:="StopIteration") ⟨_,fT _ rfl,rfl⟩ isSubtype_stop ?_);exact aw (G _ _)
theorem OJ{sl i n:Nat}{Q:Option ag->ar->Prop}(L:A.handled=none)(c:kj s.heap it a (.int sl 0) i n ep)(g1:s.heap.get? a=some o)(N:o.data= .set es ep t)(g:t.fits es.size=true)(hn:es.size=n)
  (hN:∀(Q:Option (ag×Nat)->ar->Prop) (E:ag->ar->Prop),Q none s->wpAny (be prog w) A.in1 (nT a sl i ep) Q E s)
  (G:∀h',(∀b o,b≠it->s.heap.get? b=some o->h'.get? b=some o)->Q none {s with heap:=h'}):wpAny (be prog w) A (mc (.ref it)) Q E s:=by
 obtain⟨J,D,hc,hd⟩:=id c;unfold mc;refine ae (hQ (eI (name:=dA "__next__") c.ty jz (c5 jz c.ty vN ?_ (xB _))));refine yP c g1 N g hn ?_;dsimp only;refine ae (hN _ _ ?_);dsimp only;refine ae (fD D hd (by simp) ?_);exact Qi (B:=A.in1) L λo1 o2=>G _ λb o hb e=>bW _ (bW _ ((lW _ _ (cB hb)).trans e))
theorem Vv{i n pl:Nat}{hx:Int}{x:ag}{h:Array ag}{Q:Option ag->ar->Prop}(c:kj s.heap it a (.ref tp) i n ep)(g1:s.heap.get? a=some o)(N:o.data= .set es ep t)(g:t.fits es.size=true)(hn:es.size=n)
  (f:∃d m,s.heap.get? tp=some d/\d.data= .seq h m) (hp:h[i]?=some (.int pl 0)) (he:es[pl]?=some (hx,x))
  (G:∀h',kj h' it a (.ref tp) (i+1) n ep->(∀b,b≠it->h'.get? b=s.heap.get? b)->Q (some x) {s with heap:=h'}):wpAny (be prog w) A (mc (.ref it)) Q E s:=by
 obtain⟨J,D,hc,hd⟩:=id c;obtain⟨d,m,Y,S⟩:=f;unfold mc;refine ae (hQ (eI (name:=dA "__next__") c.ty jz (c5 jz c.ty vN ?_ (xB _))));refine yP c g1 N g hn ?_;dsimp only;refine ae (sI Y S ?_);dsimp only;rw[hp];dsimp only;refine ae (WN g1 N g (by simpa using he) ?_);obtain⟨w1,L,e⟩:=yH (first:= .none) (i:=0) (n:=0) (k:=1) (x:=cn ((i:Int)+1)) D hc hd;refine ae (fD D hd (by simp) (aw ⟨x,rfl,aw (G _ ⟨_,w1,L,?_⟩ λb hb=>lW _ _ (cB hb))⟩));rw[e];simp[cn]
theorem Dx{i n:Nat}{h:Array ag}{Q:Option ag->ar->Prop}(L:A.handled=none)(c:kj s.heap it a (.ref tp) i n ep)(g1:s.heap.get? a=some o)(N:o.data= .set es ep t)(g:t.fits es.size=true)(hn:es.size=n)
  (f:∃d m,s.heap.get? tp=some d/\d.data= .seq h m) (hp:h[i]?=none)
  (G:∀h',(∀b o,b≠it->s.heap.get? b=some o->h'.get? b=some o)->Q none {s with heap:=h'}):wpAny (be prog w) A (mc (.ref it)) Q E s:=by
 obtain⟨J,D,hc,hd⟩:=id c;obtain⟨d,m,Y,S⟩:=f;unfold mc;refine ae (hQ (eI (name:=dA "__next__") c.ty jz (c5 jz c.ty vN ?_ (xB _))));refine yP c g1 N g hn ?_;dsimp only;refine ae (sI Y S ?_);dsimp only;rw[hp];dsimp only;obtain⟨u1,u2,j⟩:=yH (first:= .none) (i:=0) (n:=0) (k:=0) (x:=cn 0) D hc hd;refine ae (fD D hd (by simp) (ae (fD u1 j (by simp) ?_)));exact Qi (B:=A.in1) L λo1 o2=>G _ λb o hb e=>bW _ (bW _ ((lW _ _ (cB hb)).trans ((lW _ _ (cB hb)).trans e)))
end
noncomputable def slotAt(xs:Array Nat):Nat->Nat
 |0=>0
 |i+1=>xs.getD i 0+1
theorem G6(xs:Array Nat):slotAt xs 0=0:=rfl
theorem Im(xs:Array Nat)(i:Nat):slotAt xs (i+1)=xs.getD i 0+1:=rfl
theorem Lb{xs:Array Nat}(hr:kF xs){i:Nat}(hi:i<=xs.size):SetTable.below xs (slotAt xs i)=i:=by
  obtain⟨h1,h2,h3⟩:=below_at (q:=slotAt xs i) hr;have g:∀{j:Nat},j<xs.size->∃y,xs[j]?=some y/\xs.getD j 0=y:=λ{j} hj=>⟨xs[j],lH hj,by rw[BS,lH hj];rfl⟩;rcases xD (SetTable.below xs (slotAt xs i)) i with z|z|z
  · obtain⟨y,e,_⟩:=g (eK z hi)
    have:=h3 _ y (aH _) e;cases i with
    |zero=>omega
    | succ i =>
      obtain⟨a,e',d'⟩:=g (j:=i) ∅;have es:=Im xs i;rw[d'] at es;rcases qN (Nat.le_of_lt_succ z) with z|z
      · have:=hr _ _ _ _ z e e';omega
      · rw[z,e'] at e;cases e;omega
  · exact z
  · obtain⟨y,e,d⟩:=g (j:=i) ∅
    have:=h2 i y z e;cases i with
    |zero=>rw[G6] at this;omega
    | succ i =>
      obtain⟨a,e',d'⟩:=g (j:=i) ∅;rw[Im,d'] at this;have:=hr i (i+1) _ _ ∅ e' e;omega
section
variable{prog:bg}{w:cq}{a I tp:ax}{o:Obj}{es:Array (Int×ag)}{ep:Nat}{t:eF}
theorem OZ(h:t.fits es.size=true):t.place.size=es.size:=by
 unfold SetTable.fits at h;rw[eY] at h;exact eq_of_beq h.1
theorem V3{A:cx}(L:A.handled=none)(bt:gv w=true)(N:o.data= .set es ep t)(g:t.fits es.size=true)(T:a≠I):
  Walks prog w A I [I,a] [I] es.size (λi v=>((eo (w.params.setOrder a ep) es).toList.map (·.2))[i]?=some v) (λi h=>kj h I a (.int (0:Nat) 0) i es.size ep/\h.get? a=some o) where
 sub:=λb hb=>by simp at hb;simp[hb]
 frame:=λi h h' st hk=>by
  obtain⟨⟨J,h1,h2,h3⟩,h4⟩:=st;exact⟨⟨J,hk I (by simp) _ h1,h2,h3⟩,hk a (by simp) _ h4⟩
 item:=λi s Q E hi st G=>by
  have hsz:(eo (w.params.setOrder a ep) es).toList.length=es.size:=by
   have:=(FF (w.params.setOrder a ep) es.size 0 es.toList #[] (by simp)).length_eq;simpa[eo] using this
  have hlt:i<(eo (w.params.setOrder a ep) es).toList.length:=∅
  have e1:(eo (w.params.setOrder a ep) es)[i]?=some (eo (w.params.setOrder a ep) es).toList[i]:=by rw[<-jj];exact bw hlt
  refine NW st.1 st.2 N g rfl (x:=(eo (w.params.setOrder a ep) es).toList[i].2) (nx:=0) (λQ E q=>Jj bt st.2 N g (by rw[e1];exact q)) λh' x1 x2=>?_;refine G _ h' s.toks (by rw[cY,bw hlt];rfl) ⟨x1,(x2 a T).trans st.2⟩ λb o' hb e=>(x2 b (λz=>hb (by simp[z]))).trans e
 done:=λs Q E st G=>by
  have hsz:(eo (w.params.setOrder a ep) es).toList.length=es.size:=by
   have:=(FF (w.params.setOrder a ep) es.size 0 es.toList #[] (by simp)).length_eq;simpa[eo] using this
  refine OJ L st.1 st.2 N g rfl (λQ E q=>Jj bt st.2 N g (by rw[<-jj,tu ∅];exact q)) λh' x1=>G h' s.toks λb o' hb e=>x1 b o' (λz=>hb (by simp[z])) e
 self:=λi s Q E st G=>by
  refine g0 st.1.ty qZ (c5 qZ st.1.ty Cj ?_ (Fj _));exact aw ⟨_,rfl,"set_iterator",_,st.1.ty,jz.lookup,G⟩
theorem Rz{A:cx}(L:A.handled=none)(bt:gv w=false)(N:o.data= .set es ep t)(g:t.fits es.size=true)(tk:eZ (gv w) t)(pl:t.plain=true\/es.size<=1)(T:a≠I):
  Walks prog w A I [I,a] [I] es.size (λi v=>(es.toList.map (·.2))[i]?=some v) (λi h=>kj h I a (.int (slotAt t.place i) 0) i es.size ep/\h.get? a=some o) where
 sub:=λb hb=>by simp at hb;simp[hb]
 frame:=λi h h' st hk=>by
  obtain⟨⟨J,h1,h2,h3⟩,h4⟩:=st;exact⟨⟨J,hk I (by simp) _ h1,h2,h3⟩,hk a (by simp) _ h4⟩
 item:=λi s Q E hi st G=>by
  have hps:=OZ g;have hr:kF t.place:=by
   rcases pl with p|p
   .exact tk.Ex p
   .intro i j x y hij ex ey;have:=(qo.mp ey).1;omega
  have hlt:i<es.toList.length:=by simpa using hi
  have e1:es[i]?=some es.toList[i]:=by rw[<-jj];exact bw hlt
  have e2:t.place[i]?=some (t.place.getD i 0):=by rw[BS,lH ∅];rfl
  refine NW st.1 st.2 N g rfl (x:=es.toList[i].2) (nx:=slotAt t.place (i+1)) (λQ E q=>Qc bt st.2 N g tk pl (by rw[Lb hr ∅,e1,e2];exact q)) λh' x1 x2=>?_;refine G _ h' s.toks (by rw[cY,bw hlt];rfl) ⟨x1,(x2 a T).trans st.2⟩ λb o' hb e=>(x2 b (λz=>hb (by simp[z]))).trans e
 done:=λs Q E st G=>by
  have hps:=OZ g;have hr:kF t.place:=by
   rcases pl with p|p
   .exact tk.Ex p
   .intro i j x y hij ex ey;have:=(qo.mp ey).1;omega
  refine OJ L st.1 st.2 N g rfl (λQ E q=>Qc bt st.2 N g tk pl (by rw[Lb hr ∅,BV (aH _)];exact q)) λh' x1=>G h' s.toks λb o' hb e=>x1 b o' (λz=>hb (by simp[z])) e
 self:=λi s Q E st G=>by
  refine g0 st.1.ty qZ (c5 qZ st.1.ty Cj ?_ (Fj _));exact aw ⟨_,rfl,"set_iterator",_,st.1.ty,jz.lookup,G⟩
theorem Sq{A:cx}{ks:List Nat}(L:A.handled=none)(N:o.data= .set es ep t)(g:t.fits es.size=true)(hk:ks.Perm (bo es.size))(T:a≠I)(f:tp≠I):
    Walks prog w A I [I,a,tp] [I] es.size (λi v=>((ks.filterMap (es[·]?)).map (·.2))[i]?=some v) (λi h=>kj h I a (.ref tp) i es.size ep/\h.get? a=some o/\∃d m,h.get? tp=some d/\d.data= .seq (ks.map λ(k:Nat)=>cn k).toArray m) where
  sub:=λb hb=>by simp at hb;simp[hb]
  frame:=λi h h' st hk=>by
    obtain⟨⟨J,h1,h2,h3⟩,h4,d,m,h5,p⟩:=st;exact⟨⟨J,hk I (by simp) _ h1,h2,h3⟩,hk a (by simp) _ h4,d,m,hk tp (by simp) _ h5,p⟩
  item:=λi s Q E hi st G=>by
    have hlen:ks.length=es.size:=by rw[hk.length_eq];simp
    have u:∀k∈ks,k<es.size:=λk m=>by simpa using hk.mem_iff.mp m
    have c:i<ks.length:=∅
    have hki:=u ks[i] (fZ c);have e1:es[ks[i]]?=some es[ks[i]]:=lH hki;have n:∀(l:List Nat),(∀k∈l,k<es.size)->∀j (hj:j<l.length),(l.filterMap (es[·]?))[j]?=es[l[j]]?:=by
      intro l;induction l with
      |nil=>intro _ j hj;simp at hj
      | cons b r ih =>
        intro hl j hj;have hb:=hl b (dj ..);rw[sy,lH hb];cases j with
        |zero=>simp[lH hb]
        |succ j=>simpa using ih (λk m=>hl k (cS _ m)) j (by simpa using hj)
    refine Vv st.1 st.2.1 N g rfl st.2.2 (pl:=ks[i]) (hx:=es[ks[i]].1) (x:=es[ks[i]].2) (by simp[bw c,cn]) e1 λh' x1 x2=>?_;obtain⟨d,m,Y,S⟩:=st.2.2;refine G _ h' s.toks ?_ ⟨x1,(x2 a T).trans st.2.1,d,m,(x2 tp f).trans Y,S⟩ λb o' hb e=>(x2 b (λz=>hb (by simp[z]))).trans e;rw[cY,n ks u i c,e1];rfl
  done:=λs Q E st G=>by
    have hlen:ks.length=es.size:=by rw[hk.length_eq];simp
    exact Dx L st.1 st.2.1 N g rfl st.2.2 (by simp;omega) λh' x1=>G h' s.toks λb o' hb e=>x1 b o' (λz=>hb (by simp[z])) e
  self:=λi s Q E st G=>by
    refine g0 st.1.ty qZ (c5 qZ st.1.ty Cj ?_ (Fj _));exact aw ⟨_,rfl,"set_iterator",_,st.1.ty,jz.lookup,G⟩
end
section
variable{prog:bg}{w:cq}{A:cx}{E:ag->ar->Prop}{s:ar}{a:ax}{o:Obj}{es:Array (Int×ag)}{ep:Nat}{t:eF}
theorem NP{α:Type}:∀l:List α,(bo l.length).filterMap (λi=>l[i]?)=l
  |[]=>rfl
  | x :: l => by
    have:=NP l;rw[eB,Iu,sy,List.filterMap_map];simpa[n7] using this
theorem U3{b:Source}{n:Nat}{Q:Nat->ar->Prop}(hn:n≠0)(h:∀i d',i<n->Q i {s with drawn:=d'}):wpAny (be prog w) A (choose b n) Q E s:=λΓ p _=>⟨hn,h _ _ (rG _ (C7 hn))⟩
theorem N7{α:Type}:∀(n:Nat) (xs:List α) (s:ar) (Q:List α->ar->Prop),xs.length<=n->(∀ks d',ks.Perm xs->Q ks {s with drawn:=d'})->wpAny (be prog w) A (rf n xs) Q E s
  | 0, xs, s, Q, hl, h => by
    have:xs=[]:=nA.mp ∅;subst this;unfold rf;exact aw (h [] s.drawn .nil)
  | n + 1, [], s, Q, hl, h => by
    unfold rf;exact aw (h [] s.drawn .nil)
  | n + 1, x :: xs, s, Q, hl, h => by
    unfold rf;refine ae (U3 (by simp) λi d' hi=>?_);rw[bw hi];dsimp only;refine ae (N7 n _ _ _ (by rw[Dw hi];simp at hl⊢;omega) λks X hk=>?_);exact aw (h _ X ((hk.cons _).trans (Bx hi)))
theorem Wy(g1:s.heap.get? a=some o)(N:o.data= .set es ep t)(g:t.fits es.size=true){Q:Bool->ar->Prop}(h:Q (!gv w &&(!t.plain && decide (es.size>1))) s):wpAny (be prog w) A (setDrawn a) Q E s:=by
 unfold setDrawn;refine ae (ec g1 N g ?_);dsimp only;unfold n3;refine ae (ae (eL (aw ?_)));exact aw h
theorem LC(g1:s.heap.get? a=some o)(N:o.data= .set es ep t)(g:t.fits es.size=true){Q:Nat->ar->Prop}(h:Q ep s):wpAny (be prog w) A (setEpoch a) Q E s:=by
 unfold setEpoch;exact ae (ec g1 N g (aw h))
theorem ZR{Q:ag->ar->Prop}(hb:es.size<gd)(g1:s.heap.get? a=some o)(g2:o.ExactSet)(N:o.data= .set es ep t)(g:t.fits es.size=true)(tk:eZ (gv w) t)
    (G:∀(I:ax) (h':eC) d' (items:List ag) (fp:List ax) (qg:Nat->eC->Prop),(∀b o,s.heap.get? b=some o->h'.get? b=some o)->s.heap.objs.size<=I->(∀b∈fp,b=a\/s.heap.objs.size<=b)->I∈fp->(∀b∈fp,b<h'.objs.size)->items.Perm (es.toList.map (·.2))->
      (∀B:cx,B.handled=none->Walks prog w B I fp [I] items.length (λi v=>items[i]?=some v) qg)->qg 0 h'->Q (.ref I) {s with heap:=h',drawn:=d'}):wpAny (be prog w) A (yd (.ref a)) Q E s:=by
  have hT:s.TypeIs (.ref a) "set":=⟨o,g1,g2.1⟩;have hlt:=bP g1;refine g0 hT MJ (c5 MJ hT SG ?_ (Rt _));unfold hZ.«frozenset.__iter__»;unfold vb slotArgs;simp only[List.isEmpty_nil,uC,lN,↓reduceIte,bind_assoc,BK,bne_self_eq_false];unfold t4 t5;refine ae (aw ?_)
  try dsimp only
  refine ae (aw ?_);refine ae (ae (mq g1 N g (aw ?_)));refine ae (Wy g1 N g ?_);by_cases c:(!gv w &&(!t.plain && decide (es.size>1)))=true
  · rw[if_pos c]
    refine ae (N7 es.size (bo es.size) s _ (by simp) λks d' hk=>?_);unfold newTuple;refine ae (c6 ?_ ?_)
    rotate_left
    · have d:ks.length=es.size:=by rw[hk.length_eq];simp
      show(cj (λ(i:Nat)=>cn i) ks).toArray.size<=sizeLine;rw[dW,ak,d];exact gU hb
    have sM:=bW ({cls:= .type "tuple",data:= .seq (ks.map λ(i:Nat)=>cn i).toArray}:Obj) g1;refine ae (LC (s:={s with heap:=_,drawn:=d'}) sM N g ?_);unfold newFields;refine ae (c6 ?_);have d:ks.length=es.size:=by rw[hk.length_eq];simp
    have fin:=G;clear G;have u:(s.heap.push ({cls:= .type "tuple",data:= .seq (ks.map λ(i:Nat)=>cn i).toArray}:Obj)).objs.size=s.heap.objs.size+1:=lE ..;have j:(s.heap.push ({cls:= .type "tuple",data:= .seq (ks.map λ(i:Nat)=>cn i).toArray}:Obj)).get? s.heap.objs.size=some {cls:= .type "tuple",data:= .seq (ks.map λ(i:Nat)=>cn i).toArray}:=fT _ rfl;have l:∀b o,s.heap.get? b=some o->(s.heap.push ({cls:= .type "tuple",data:= .seq (ks.map λ(i:Nat)=>cn i).toArray}:Obj)).get? b=some o:=λb o e=>bW _ e;generalize h:s.heap.push ({cls:= .type "tuple",data:= .seq (ks.map λ(i:Nat)=>cn i).toArray}:Obj)=h1 at sM u j l⊢;have gI:(h1.push ({cls:= .type "set_iterator",data:= .fields #[.ref s.heap.objs.size,cn 0, .ref a,cn es.size,cn ep]}:Obj)).get? h1.objs.size=some {cls:= .type "set_iterator",data:= .fields #[.ref s.heap.objs.size,cn 0, .ref a,cn es.size,cn ep]}:=fT _ rfl;have gS:=bW ({cls:= .type "set_iterator",data:= .fields #[.ref s.heap.objs.size,cn 0, .ref a,cn es.size,cn ep]}:Obj) sM;have Tw:=bW ({cls:= .type "set_iterator",data:= .fields #[.ref s.heap.objs.size,cn 0, .ref a,cn es.size,cn ep]}:Obj) j;have n:(h1.push ({cls:= .type "set_iterator",data:= .fields #[.ref s.heap.objs.size,cn 0, .ref a,cn es.size,cn ep]}:Obj)).objs.size=h1.objs.size+1:=lE ..;subst h;refine aw ⟨_,rfl,"set_iterator",_,⟨_,gI,rfl⟩,jz.lookup,?_⟩;have pp:(ks.filterMap (es[·]?)).Perm es.toList:=by
      have:=hk.filterMap (es[·]?);have e:(bo es.size).filterMap (es[·]?)=es.toList:=by
        have:=NP es.toList;simpa using this
      rwa[e] at this
    have hn:((ks.filterMap (es[·]?)).map (·.2)).length=es.size:=by rw[ak,pp.length_eq];simp
    have sC:=GW (oJ s.heap.objs.size) u.symm;refine fin _ _ d' ((ks.filterMap (es[·]?)).map (·.2)) [_,a,s.heap.objs.size] _ (λb o e=>bW _ (l b o e)) (kK sC) (λb m=>?_) (dj ..) (λb m=>?_) (pp.map _) (λB O=>by rw[hn];exact Sq O N g hk (dN (t6 hlt sC)) (dN sC)) ?_
    · rcases aK.mp m with e|m
      · exact .inr (by rw[e];exact kK sC)
      · rcases aK.mp m with e|m
        · exact .inl e
        · exact .inr (nU (br.mp m).symm)
    · refine GW ?_ n.symm
      rcases aK.mp m with e|m
      · rw[e];exact oJ _
      · rcases aK.mp m with e|m
        · rw[e];exact nM (t6 hlt sC)
        · rw[br.mp m];exact nM sC
    · exact⟨⟨_,gI,rfl,rfl⟩,gS,_,_,Tw,rfl⟩
  · rw[if_neg c]
    refine ae (aw ?_);refine ae (LC g1 N g ?_);unfold newFields;refine ae (c6 ?_);have gI:(s.heap.push ({cls:= .type "set_iterator",data:= .fields #[cn 0,cn 0, .ref a,cn es.size,cn ep]}:Obj)).get? s.heap.objs.size=some {cls:= .type "set_iterator",data:= .fields #[cn 0,cn 0, .ref a,cn es.size,cn ep]}:=fT _ rfl;have gS:=bW ({cls:= .type "set_iterator",data:= .fields #[cn 0,cn 0, .ref a,cn es.size,cn ep]}:Obj) g1;have f:∀b∈[s.heap.objs.size,a],b=a\/s.heap.objs.size<=b:=λb m=>by
      rcases aK.mp m with e|m
      · exact .inr (nU e.symm)
      · exact .inl (br.mp m)
    have hsz:(s.heap.push ({cls:= .type "set_iterator",data:= .fields #[cn 0,cn 0, .ref a,cn es.size,cn ep]}:Obj)).objs.size=s.heap.objs.size+1:=lE ..;have k:∀b∈[s.heap.objs.size,a],b<(s.heap.push ({cls:= .type "set_iterator",data:= .fields #[cn 0,cn 0, .ref a,cn es.size,cn ep]}:Obj)).objs.size:=λb m=>by
      rw[hsz];rcases aK.mp m with e|m
      · rw[e];exact oJ _
      · rw[br.mp m];exact nM hlt
    refine aw ⟨_,rfl,"set_iterator",_,⟨_,gI,rfl⟩,jz.lookup,?_⟩;cases bt:gv w with
    | true =>
      have pp:(eo (w.params.setOrder a ep) es).toList.Perm es.toList:=by simpa[eo] using FF (w.params.setOrder a ep) es.size 0 es.toList #[] (by simp)
      have hn:((eo (w.params.setOrder a ep) es).toList.map (·.2)).length=es.size:=by rw[ak,pp.length_eq];simp
      refine G _ _ s.drawn ((eo (w.params.setOrder a ep) es).toList.map (·.2)) [s.heap.objs.size,a] _ (λb o e=>bW _ e) (aH _) f (by simp) k (pp.map _) (λB O=>by rw[hn];exact V3 O bt N g (dN hlt)) ?_;exact⟨⟨_,gI,rfl,rfl⟩,gS⟩
    | false =>
      have pl:t.plain=true\/es.size<=1:=by
        rw[bt,sL,Fz] at c;cases hp:t.plain with
        |true=>exact .inl rfl
        | false =>
          rw[hp,sL,Fz,decide_eq_true_eq] at c;exact .inr ∅
      have hn:(es.toList.map (·.2)).length=es.size:=by simp
      refine G _ _ s.drawn (es.toList.map (·.2)) [s.heap.objs.size,a] _ (λb o e=>bW _ e) (aH _) f (by simp) k (.refl _) (λB O=>by rw[hn];exact Rz O bt N g tk pl (dN hlt)) ?_;exact⟨⟨_,gI,rfl,rfl⟩,gS⟩
end
section
variable{prog:bg}{w:cq}{A:cx}{E:ag->ar->Prop}{s:ar}{a:ax}{o:Obj}{es:Array (Int×ag)}{ep:Nat}{t:eF}
theorem Vu{Q:Bool->ar->Prop}(hT:s.TypeIs (.ref a) "set")(h:Q false s):wpAny (be prog w) A (ij (.ref a)) Q E s:=by
 unfold ij;refine ae (rh hT PySem.F.slot_set_len.lookup ?_);generalize c:("set.__len__":String)=id0
 wp_delta
 rw[show splitId id0=some ("set","__len__") from by subst c;decide+kernel];subst c;refine ae (lr (b:=true) (T:="set") hT (by rw[iY];kernel_rfl) ?_);refine l4 (λz=>absurd z ⋯) λ_=>l4 (λ_=>?_) λz=>absurd (by decide+kernel) z;exact ae (wpAny_typeOf hT (aw h))
theorem Pl{items:List ag}{acc:Array ag}(h:ItemsOf (λi v=>items[i]?=some v) acc items.length):acc.toList=items:=by
 apply qU;intro i;by_cases hi:i<acc.size
 .have e:acc[i]?=some acc[i]:=lH hi;rw[jj,e,h.2 i _ e]
 .have:=h.1;rw[tu (by simp;omega),tu ∅]
theorem UJ{Q:List ag->ar->Prop}(L:A.handled=none)(hb:es.size<gd)(g1:s.heap.get? a=some o)(g2:o.ExactSet)(N:o.data= .set es ep t)(g:t.fits es.size=true)(tk:eZ (gv w) t)
  (G:∀h' d' tk' items,(∀b o,s.heap.get? b=some o->h'.get? b=some o)->s.heap.objs.size<=h'.objs.size->items.Perm (es.toList.map (·.2))->Q items {s with heap:=h',drawn:=d',toks:=tk'}):wpAny (be prog w) A (xI (.ref a)) Q E s:=by
 have hlt:=bP g1;unfold xI;refine ae (md (ee Lp ?_));rw[pI IU _];show wpAny _ A.in1 (xt []>>=λl=>again (.builtin "list.__iadd__" ⟨[l, .ref a],[]⟩)) _ _ s;refine ae (c6 ?_);refine aw ⟨gq xT _,ee OE ?_⟩;rw[pI xT _];have p:(s.heap.push ({cls:= .type "list",data:= .seq ([]:List ag).toArray}:Obj)).get? s.heap.objs.size=some {cls:= .type "list",data:= .seq ([]:List ag).toArray}:=fT _ rfl;have gA:=bW ({cls:= .type "list",data:= .seq ([]:List ag).toArray}:Obj) g1;have i:(s.heap.push ({cls:= .type "list",data:= .seq ([]:List ag).toArray}:Obj)).objs.size=s.heap.objs.size+1:=lE ..;show wpAny _ A.in1 (fm (.ref s.heap.objs.size) (.ref a) (.ref s.heap.objs.size)) _ _ {s with heap:=s.heap.push ({cls:= .type "list",data:= .seq ([]:List ag).toArray}:Obj)};have f:∀b o,s.heap.get? b=some o->(s.heap.push ({cls:= .type "list",data:= .seq ([]:List ag).toArray}:Obj)).get? b=some o:=λb o e=>bW _ e;generalize s.heap.push ({cls:= .type "list",data:= .seq ([]:List ag).toArray}:Obj)=h1 at p gA i f⊢;unfold fm;refine ae (wpAny_typeOf (T:="set") ⟨o,gA,g2.1⟩ ?_);have n1:t7 (.ref s.heap.objs.size) (.ref a)=false:=by
  show(s.heap.objs.size==a)=false;exact beq_eq_false_iff_ne.mpr (qw hlt)
 have n2:(ej "set"==ej "list")=false:=⋯
 have j:(ej "set"==ej "tuple")=false:=⋯
 simp only[n1,n2,j,p6,lN,if_false];refine ae (ZR (s:={s with heap:=h1}) hb gA g2 N g tk λI h2 d' items fp qg k1 k2 k3 k4 k5 pp W st=>?_);have We:=k1 _ _ gA;have Cp:=k1 _ _ p;refine ae (du (Vu (s:={s with heap:=h2,drawn:=d'}) ⟨o,We,g2.1⟩ ?_));have h:s.heap.objs.size<h1.objs.size:=GW (oJ _) i.symm;have nS:s.heap.objs.size∉fp:=λm=>by
  rcases k3 _ m with e|e
  .exact absurd e (qw hlt)
  .exact absurd (eK h e) (jE _)
 have hil:items.length<=sizeLine:=by
  rw[pp.length_eq,ak,dI];exact gU hb
 have key:∀(h3:eC) (c:Nat),qg 0 h3->(∀b o,b≠s.heap.objs.size->h2.get? b=some o->h3.get? b=some o)->h3.get? s.heap.objs.size=some {cls:= .type "list",data:= .seq #[] c}->
   codeAny (be prog w) A (.builtin "list.extend.loop" ⟨[.ref s.heap.objs.size, .ref I, .ref s.heap.objs.size],[]⟩) (λr s'=>match r with
    | .ok (.ret v)=>wpAny (be prog w) A (match v with| .ref x=>(do match(<-load x).data with| .seq xs _=>pure xs.toList|_=>fg "internal:collect")|_=>fg "internal:collect") Q E s'
    | .ok _=>False
    | .error e=>E e s') {s with heap:=h3,drawn:=d'}:=by
  intro h3 c st3 q1 q2;refine codeAny_extend_loopS ((W A.in1 L).toS) hil _ nS _ items.length 0 _ #[] c rfl (fj _) st3 q2 (ItemsOf.nil _) λs' acc c' d Y u=>?_;refine ae (tI Y (aw ?_));rw[Pl u,Moved.eq_with d];refine G s'.heap d' s'.toks items (λb o e=>?_) ?_ pp
  .have nb:b≠s.heap.objs.size:=dN (bP e);refine d.heap b o (λm=>?_) (q1 b o nb (k1 b o (f b o e)));rcases aK.mp m with z|z
   .exact nb z
   .have z:=br.mp z;rw[z] at e;exact absurd (eK (t6 (bP e) h) k2) (jE _)
  .exact kK (bP Y)
 refine l4 (λ_=>?_) λ_=>aw ⟨gq ML _,key h2 _ st (λ_ _ _ e=>e) Cp⟩;refine ae (eP (ae ?_));show wpAny _ A.in1 (updateSeq s.heap.objs.size (·.push .none)>>=λ_=>updateSeq s.heap.objs.size (·.pop)) _ _ _;have u1:=zp (el (·.push gw)) Cp rfl;have u2:=zp (el (·.pop)) u1 rfl;refine ae (rk Cp rfl (rk (hz:=by seq_fits) u1 rfl ?_));have k:∀b o,b≠s.heap.objs.size->h2.get? b=some o->((h2.update s.heap.objs.size (el (·.push gw))).update s.heap.objs.size (el (·.pop))).get? b=some o:=λb o nb e=>(lW _ _ (cB nb)).trans ((lW _ _ (cB nb)).trans e);exact aw ⟨gq ML _,key _ _ ((W A.in1 L).frame 0 _ _ st λb m o e=>k b o (λz=>nS (z▸m)) e) k u2⟩
theorem Pe{ks:List Int->Prop}:∀{vs:List ag},(∀v∈vs,∃k t,v= .int k t)->∃ns,en vs ns
  |[],_=>⟨[], .nil⟩
  | v :: vs, h => by
    obtain⟨k,t,rfl⟩:=h v (dj ..);obtain⟨ns,hn⟩:=Pe (ks:=ks) λv m=>h v (cS _ m);exact⟨k::ns, .cons k t hn⟩
theorem Jl:∀{vs:List ag} {ns:List Int},en vs ns->∀k,k∈ns↔∃t, .int k t∈vs
  |_,_, .nil,k=>by simp
  | _, _, .cons j t h, k => by
    rw[aK,Jl h k];constructor
    · rintro(rfl|⟨t',m⟩)
      · exact⟨_,dj ..⟩
      · exact⟨t',cS _ m⟩
    · rintro⟨t',m⟩
      rcases aK.mp m with e|m
      · cases e;exact .inl rfl
      · exact .inr ⟨t',m⟩
theorem W7{S:Int->Bool}{n:Nat}{Q:ag->ar->Prop}(L:A.handled=none)(U:s.heap.SetOf (IK prog w) a S n)(hT:gX (gv w) s.heap a)(r:n<64)
  (h : ∀ h' d' j (l : Addr) (out : List Value) (ns : List Int) (e : Nat), (∀ b o, s.heap.get? b = some o -> h'.get? b = some o) -> s.heap.objs.size <= l -> h'.get? l = some (seqObj "list" out.toArray e) -> IntsAre out ns -> ns.Pairwise (· <= ·) -> (∀ k, S k = true ↔ k ∈ ns) -> ns.length = n ->
   Q (.ref l) {s with heap:=h',drawn:=d',toks:=j}):wpAny (be prog w) A (call (.builtin "sorted") [.ref a]) Q E s:=by
 obtain⟨o,es,ep,t,g1,g2,N,F,V,y,i,sz⟩:=U;refine NY kind_sorted plain_sorted entry_sorted (args_sorted1 _) ?_;unfold hZ.«sorted»;refine ae (m:=checkCount "sorted" 1 1 _) (aw (ae ?_));refine UJ (A:=A.in1) L y g1 g2 N i (hT o es ep t g1 N) λh1 d1 z items k1 k2 pp=>?_;have d:∀v∈items,∃k t,v= .int k t:=λv m=>by
  obtain⟨e,m',rfl⟩:=dG.mp (pp.mem_iff.mp m);obtain⟨⟨k,hk,_⟩,_⟩:=F e m';obtain⟨t,ht⟩:=xV hk;exact⟨k,t,ht⟩
 obtain⟨ns,hI⟩:=Pe (ks:=λ_=>True) d;have hlen:items.length=n:=by rw[pp.length_eq,ak,dI,sz]
 refine ae (mN ?_);have p:(h1.push (lx "list" items.toArray 0)).get? h1.objs.size=some (lx "list" items.toArray 0):=fT _ rfl;refine ae (du (c5 sT ⟨_,p,rfl⟩ rl (list_sort_tree p hI ∅ λout f a1 a2 g=>⟨_,rfl,?_⟩) (sX _)));obtain⟨e,he⟩:=vc (out:=out) p;refine aw ⟨_,rfl,h _ d1 z h1.objs.size out.toList f e (λb o q=>?_) k2 (by simpa using he) a1 g (λk=>?_) ?_⟩
 .have lb:=bP (k1 b o q);rw[td (dN lb) (by rw[lE];exact nM lb)];exact bW _ (k1 b o q)
 .rw[a2.mem_iff,Jl hI,V k];constructor
  .rintro⟨e,m,q⟩;obtain⟨t,ht⟩:=xV q;exact⟨t,pp.mem_iff.mpr (ht▸dG.mpr ⟨e,m,rfl⟩)⟩
  .rintro⟨t,m⟩;obtain⟨e,m',q⟩:=dG.mp (pp.mem_iff.mp m);exact⟨e,m',by rw[q];exact tW _ _ _ _⟩
 .rw[a2.length_eq,<-hI.length,hlen]
end
noncomputable def ud(P:bg)(w:cq)(a:ax)(S:Int->Bool)(n:Nat):HO:= .ext λh=>h.SetOf (IK P w) a S n/\gX (gv w) h a
theorem Inv.dr{X:Cx}{pins:List (ax×Obj)}{σ:qg}{H:Hp}{s:ar}(I:Inv X pins σ H s)(d:Drawn):Inv X pins σ H {s with drawn:=d}:=
 ⟨I.ok,I.os,I.bare,I.base,I.loc,I.cell,I.free,I.kG,I.pin,I.hok,I.len⟩
theorem Dv:∀{ns:List Int} {us:List ag},Vals (ns.map V.int) us->en us ns
  |[],_, .nil=> .nil
  | n :: ns, _, .cons r t => by
    obtain⟨k,rfl⟩:=r;exact .cons n k (Dv t)
theorem Ek:∀{us:List ag} {ns:List Int},en us ns->Vals (ns.map V.int) us
 |_,_, .nil=> .nil
 |_,_, .cons k t h=> .cons ⟨t,rfl⟩ (Ek h)
theorem Yr{σ:List Int}{k:Int}(h:σ.Nodup):(step_dedup σ k).Nodup:=by
 unfold step_dedup;split;·exact h
 .rename_i q
  rw[zk];refine⟨h,by simp,λx hx y hy=>?_⟩;rw[br.mp hy];intro e;subst e;exact q (by simp[hx])
theorem O3(val:Nat->Int):∀i,(gg val i).Nodup
 |0=>List.nodup_nil
 |i+1=>by rw[mB];exact Yr (O3 val i)
theorem MZ:∀{ds ns:List Int},ds.Nodup->(∀k∈ds,k∈ns)->ns.length<=ds.length->ds.Perm ns
  | [], ns, _, _, hl => by
    have:ns=[]:=nA.mp (by simpa using hl);rw[this]
  | d :: ds, ns, hd, hs, hl => by
    have hm:=hs d (dj ..);obtain⟨h1,h2⟩:=kh.mp hd;have hp:=List.perm_cons_erase hm;refine(A3 d (MZ h2 (λk hk=>?_) ?_)).trans hp.symm
    · rcases aK.mp (hp.mem_iff.mp (hs k (cS _ hk))) with e|e
      · subst e;exact absurd hk h1
      · exact e
    · have:=hp.length_eq;simp at this hl⊢;omega
def Ep(P:bg)(w:cq)(K:PySem.W.Frag):List V->Hp->VK->Prop:=λxs H Q=>∃p,∃ns:List Int,xs=[.ref p]/\aZ K H p (ns.map V.int)/\ns.length<=4000/\∀a (ms:List Int),H a=none->ms.Nodup->(∀k,k∈ms↔k∈ns)->Q (.ref a) (upd H a (ud P w a (λk=>ms.any (· ==k)) ms.length))
def Gz(P:bg)(w:cq):List V->Hp->VK->Prop:=λxs H Q=>∃a,∃ms:List Int,xs=[.ref a]/\H a=some (ud P w a (λk=>ms.any (· ==k)) ms.length)/\ms.Nodup/\ms.length<64/\
 ∀l (N:List Int),H l=none->N.Pairwise (· < ·)->(∀k,k∈N↔k∈ms)->Q (.ref l) (upd H l (.lst (N.map V.int)))
section
variable{X:Cx}
theorem EC(hc:X.calm=true):fK X (.type "set") (Ep X.prog X.w X.K):=by
 intro pins s σ H xs us Q I rv h;obtain⟨p,ns,rfl,hp,hn,q⟩:=h;obtain⟨u,rfl,ru⟩:=vals1 rv;cases ru;obtain⟨its,N,d,hz⟩:=I.list hp;have hI:=Dv N;have hlen:=hI.length;refine WS (I.ok.hd hc) d.isList (by simpa using hI) (by rw[dW];unfold gd;omega) λh' tk J O Y=>?_;have c:∀k,k∈gg (λi=>ns.getD i 0) its.toArray.size↔k∈ns:=λk=>by
  have e:=firstMet_any (λi=>ns.getD i 0) its.toArray.size k;have e2:(bo its.toArray.size).map (λi=>ns.getD i 0)=ns:=by
   rw[dW,hlen];apply List.ext_getElem;·simp
   .intro i h1 h2;simp[k9,bw h2]
  rw[e2] at e;have a1:∀(l:List Int),(l.any (· ==k))=true↔k∈l:=λl=>by
   rw[wX];exact⟨λ⟨x,m,z⟩=>(beq_iff_eq.mp z)▸m,λm=>⟨k,m,beq_self_eq_true _⟩⟩
  rw[<-a1,<-a1,e]
 have kp:∀b u,s.heap.get? b=some u->h'.get? b=some u:=λb u e=>Y b u (bP e) e;have new:c7 X.prog X.w (upd H s.heap.objs.size (ud X.prog X.w s.heap.objs.size (λk=>(gg (λi=>ns.getD i 0) its.toArray.size).any (· ==k)) (gg (λi=>ns.getD i 0) its.toArray.size).length)) h' s.heap.objs.size (ud X.prog X.w s.heap.objs.size (λk=>(gg (λi=>ns.getD i 0) its.toArray.size).any (· ==k)) (gg (λi=>ns.getD i 0) its.toArray.size).length):=by
  refine⟨⟨J,O⟩,?_,λh1 h2 z k=>?_⟩;·obtain⟨o,_,_,_,D,_⟩:=J;exact⟨o,D⟩
  .obtain⟨⟨o,es,ep,t,D,r⟩,a⟩:=z;exact⟨⟨o,es,ep,t,k o D,r⟩,a.keep D (k o D)⟩
 exact⟨.ref s.heap.objs.size,_,I.laid (t':=tk) kp (aH _) new,rfl,q _ _ (I.hok.fresh (aH _)) (O3 _ _) c⟩
theorem UW(hc:X.calm=true):fK X (.builtin "sorted") (Gz X.prog X.w):=by
 intro pins s σ H xs us Q I rv h;obtain⟨a,ms,rfl,p,nd,r,q⟩:=h;obtain⟨u,rfl,ru⟩:=vals1 rv;cases ru;obtain⟨⟨J,O⟩,_,_⟩:=I.hok a _ p;refine W7 (I.ok.hd hc) J O r λh' d' j l out ns e kp hl b hI pw hm hn=>?_;have a1:∀k,(ms.any (· ==k))=true↔k∈ms:=λk=>by
  rw[wX];exact⟨λ⟨x,m,z⟩=>(beq_iff_eq.mp z)▸m,λm=>⟨k,m,beq_self_eq_true _⟩⟩
 have hm':∀k,k∈ns↔k∈ms:=λk=>by rw[<-hm k,a1]
 have pp:=MZ nd (λk m=>(hm' k).mpr m) (nU hn);have c:ns.Nodup:=pp.nodup_iff.mp nd;have lt:ns.Pairwise (· < ·):=by
  have:=pw.and c;exact this.imp λ⟨x,y⟩=>∅
 have new:c7 X.prog X.w (upd H l (.lst (ns.map V.int))) h' l (.lst (ns.map V.int)):=by
  refine⟨?_,out,e,Ek hI,b⟩;rw[ak,hn];exact eS (kK r) ⋯
 exact⟨.ref l,_,(I.laid (t':=j) kp hl new).dr d',rfl,q _ _ (I.hok.fresh hl) lt hm'⟩
end
theorem aq.Tr{G:Gx}{ρ:Rh}{te:TE}{P:bg}{w:cq}{K:PySem.W.Frag}{Θ:Bool->List PyData->Prop}(h:Ev G ρ te λ_ x=>∃ns:List Int,x= .list (ns.map .int)/\ns.length<64/\∀N:List Int,N.Pairwise (· < ·)->(∀k,k∈N↔k∈ns)->Θ true (N.map .int)):
  aq G ρ (fq (Gz P w) (bz (fq (Ep P w K) (bz te bM)) bM)) Θ:=λnb σ H Q W z=>
 h nb σ H _ W λf v H1 x ⟨ns,ex,hn,q⟩ s1 hv=>by
  subst ex;obtain⟨a,xs,rfl,na,hx,hd⟩:=hv.eN;have e:=vM hd;subst e;refine⟨a,ns,rfl, .of hx,∅,λb ms hb nd hm=>?_⟩;have t:ms.length<=ns.length:=Ga nd λk m=>(hm k).mp m;refine⟨b,ms,rfl,bx,nd,∅,λl N hl lt hm'=>?_⟩;have s2:Step G.B H1 (upd H1 b (ud P w b (λk=>ms.any (· ==k)) ms.length)):= .same s1.2 (cL hb);exact aq.fin (f:=true) W (s1.trans s2) hl (Dr N) (q N lt λk=>(hm' k).trans (hm k)) z
theorem L9{ms:List Int}{m:Int}(nd:ms.Nodup)(h:∀k∈ms,0<=k/\k<m):ms.length<=m.toNat:=by
 have:=Ga nd (l₂:=(bo m.toNat).map λ(i:Nat)=>(i:Int)) λk hk=>by
  have:=h k hk;exact dG.mpr ⟨k.toNat,pX.mpr ∅,∅⟩
 rwa[ak,List.length_range] at this
noncomputable def mj:Bool->ba->Array ba->Nat->Nat->Nat->StateT bL Sem (Option Nat):=sortPriv%PySem.Builtin.gallop
noncomputable def Co:Array ba->Array ba->StateT bL Sem (Array ba):=sortPriv%PySem.Builtin.mergeLo
noncomputable def Ed:Array ba->Array ba->StateT bL Sem (Array ba):=sortPriv%PySem.Builtin.mergeHi
noncomputable def qd:Nat->StateT bL Sem Unit:=sortPriv%PySem.Builtin.setMinGallop
noncomputable def oV(left:Bool)(key:ba)(arr:Array ba)(base:Nat)(i:Nat):StateT bL Sem (Option Bool):=do
 let x<-ix arr (base+i)
 if left then lt' x key else return (<-lt' key x).map (!·)
theorem Tc(left:Bool)(key:ba)(arr:Array ba)(base n d:Nat):mj left key arr base n d=(do
 let mut vC:=0
 let mut jV:=1
 let mut lo:=0
 let mut hi:=0
 let some right<-oV left key arr base d|return none
 if right then
  let uN:=n-d
  for _ in[0:n] do
   if jV≥uN then break
   let some more<-oV left key arr base (d+jV)|return none
   if !more then break
   vC:=jV
   jV:=2*jV+1
  lo:=d+vC+1
  hi:=d+min jV uN
 else
  let uN:=d+1
  for _ in[0:n] do
   if jV≥uN then break
   let some found<-oV left key arr base (d-jV)|return none
   if found then break
   vC:=jV
   jV:=2*jV+1
  lo:=d+1-min jV uN
  hi:=d-vC
 for _ in[0:n] do
  if lo≥hi then break
  let m:=lo+(hi-lo)/2
  let some more<-oV left key arr base m|return none
  if more then lo:=m+1 else hi:=m
 return some hi):=rfl
theorem QL(g:Nat):qd g=modify λs=>ui (kindOf s) (cc s) (pendingOf s) g (hR s):=rfl
theorem Wi(a b:Array ba):Co a b=(do
 rule "list.sort.merge-lo"
 let total:=a.size+b.size
 let done (out:Array ba) (ia ib:Nat):=out++a.extract ia a.size++b.extract ib b.size
 let c (out:Array ba) (ia ib:Nat):=out++b.extract ib b.size++a.extract ia a.size
 let mut out:Array ba:= #[<-ix b 0]
 let mut ia:=0
 let mut ib:=1
 if ib==b.size then return done out ia ib
 if ia+1==a.size then return c out ia ib
 let mut minGallop:=gallopOf (<-get)
 for _ in[0:total] do
  let mut jF:=0
  let mut jw:=0
  for _ in[0:total] do
   let some bWins<-lt' (<-ix b ib) (<-ix a ia)|return done out ia ib
   if bWins then
    out:=out.push (<-ix b ib);ib:=ib+1;jw:=jw+1;jF:=0
    if ib==b.size then return done out ia ib
    if jw≥minGallop then break
   else
    out:=out.push (<-ix a ia);ia:=ia+1;jF:=jF+1;jw:=0
    if ia+1==a.size then return c out ia ib
    if jF≥minGallop then break
  rule "list.sort.gallop"
  minGallop:=minGallop+1
  for _ in[0:total] do
   if minGallop>1 then minGallop:=minGallop-1
   qd minGallop
   let some k<-mj false (<-ix b ib) a ia (a.size-ia) 0|return done out ia ib
   jF:=k
   if k>0 then
    out:=out++a.extract ia (ia+k);ia:=ia+k
    if ia+1==a.size then return c out ia ib
    if ia==a.size then return done out ia ib
   out:=out.push (<-ix b ib);ib:=ib+1
   if ib==b.size then return done out ia ib
   let some k<-mj true (<-ix a ia) b ib (b.size-ib) 0|return done out ia ib
   jw:=k
   if k>0 then
    out:=out++b.extract ib (ib+k);ib:=ib+k
    if ib==b.size then return done out ia ib
   out:=out.push (<-ix a ia);ia:=ia+1
   if ia+1==a.size then return c out ia ib
   if jF<7 && jw<7 then break
  minGallop:=minGallop+1
  qd minGallop
 fg "internal:list.sort.merge-bound"):=rfl
def lK(x:ba):Prop:=∃n t,x.1= .int n t
def eW(xs:Array ba):Prop:=∀(i:Nat) (x:ba),xs[i]?=some x->lK x
section
variable{prog:bg}{w:cq}{A:cx}{E:ag->ar->Prop}{s:ar}{st:bL}
theorem oj{arr:Array ba}{i:Nat}{Q:ba->bL->Prop}(hi:i<arr.size)(h:Q arr[i] st):wpS (be prog w) A E s (ix arr i) Q st:=by
 rw[elem'_eq,getElem?_pos arr i hi];exact a5 h
theorem eW.at{arr:Array ba}(h:eW arr){i:Nat}(hi:i<arr.size):lK arr[i]:=h i _ (getElem?_pos arr i hi)
def fV(st st':bL):Prop:=kindOf st'=kindOf st/\cc st'=cc st/\pendingOf st'=pendingOf st/\hR st'=hR st
theorem fV.trans{s1 s2 s3:bL}(h:fV s1 s2)(g:fV s2 s3):fV s1 s3:=⟨g.1.trans h.1,g.2.1.trans h.2.1,g.2.2.1.trans h.2.2.1,g.2.2.2.trans h.2.2.2⟩
theorem fV.refl(s1:bL):fV s1 s1:=⟨rfl,rfl,rfl,rfl⟩
def Mg(a b:Array ba)(i j:Nat)(out:Array ba):Prop:=out.toList.Perm (a.toList.take i++b.toList.take j)
theorem BF{l:List ba}{i:Nat}(h:i<l.length):l.take (i+1)=l.take i++[l[i]]:=by rw[tf,bw h];rfl
theorem Mg.j6{a b:Array ba}{i j:Nat}{out:Array ba}(h:Mg a b i j out)(hj:j<b.size):Mg a b i (j+1) (out.push b[j]):=by
 unfold Mg at*;rw[kL,BF (l:=b.toList) (by simpa using hj),<-fS];exact h.append (by simp)
theorem Mg.j4{a b:Array ba}{i j:Nat}{out:Array ba}(h:Mg a b i j out)(hi:i<a.size):Mg a b (i+1) j (out.push a[i]):=by
 unfold Mg at*;rw[kL,BF (l:=a.toList) (by simpa using hi),fS];refine(h.append (DL [a[i]])).trans ?_;rw[fS];refine lR _ ?_;simpa using mG
theorem j5(a:Array ba)(i j:Nat):(a.extract i j).toList=(a.toList.take j).drop i:=by
 rw[Array.toList_extract,List.extract_eq_take_drop,List.drop_take]
theorem Mg.oE{a b:Array ba}{i j k:Nat}{out:Array ba}(h:Mg a b i j out):Mg a b (i+k) j (out++a.extract i (i+k)):=by
 unfold Mg at*;rw[gZ,j5];have e:a.toList.take (i+k)=a.toList.take i++(a.toList.take (i+k)).drop i:=by
  have:=(jX i (a.toList.take (i+k))).symm;rwa[ti,Ea ∅] at this
 generalize (a.toList.take (i+k)).drop i=z at e⊢;rw[e];refine(h.append_right z).trans ?_;rw[fS,fS];exact lR _ mG
theorem Mg.m5{a b:Array ba}{i j k:Nat}{out:Array ba}(h:Mg a b i j out):Mg a b i (j+k) (out++b.extract j (j+k)):=by
 unfold Mg at*;rw[gZ,j5];have e:b.toList.take (j+k)=b.toList.take j++(b.toList.take (j+k)).drop j:=by
  have:=(jX j (b.toList.take (j+k))).symm;rwa[ti,Ea ∅] at this
 generalize (b.toList.take (j+k)).drop j=z at e⊢;rw[e,<-fS];exact h.append_right _
theorem Lm(a:Array ba)(i:Nat):(a.extract i a.size).toList=a.toList.drop i:=by
 rw[j5,rV (by simp)]
theorem Mg.done{a b:Array ba}{i j:Nat}{out:Array ba}(h:Mg a b i j out):(out++a.extract i a.size++b.extract j b.size).toList.Perm (a.toList++b.toList):=by
 unfold Mg at h;rw[gZ,gZ,Lm,Lm];have ea:=(jX i a.toList).symm;have eb:=(jX j b.toList).symm;rw[show a.toList++b.toList=(a.toList.take i++a.toList.drop i)++(b.toList.take j++b.toList.drop j) by rw[<-ea,<-eb]];refine((h.append_right _).append_right _).trans ?_;simp only[fS];refine lR _ ?_;rw[<-fS,<-fS];exact C1 _ mG
theorem Mg.last{a b:Array ba}{i j:Nat}{out:Array ba}(h:Mg a b i j out):(out++b.extract j b.size++a.extract i a.size).toList.Perm (a.toList++b.toList):=by
 refine rn ?_ h.done;rw[gZ,gZ,gZ,gZ,fS,fS];exact lR _ mG
theorem Qx{g:Nat}{Q:Unit->bL->Prop}(h:∀st',fV st st'->Q () st'):wpS (be prog w) A E s (qd g) Q st:=by
 rw[QL];exact fx (h _ ⟨rfl,rfl,rfl,rfl⟩)
theorem kE{x y:Nat}{α:Type}{t e:StateT bL Sem α}{Q:α->bL->Prop}(h1:x=y->wpS (be prog w) A E s t Q st)(h2:x≠y->wpS (be prog w) A E s e Q st):wpS (be prog w) A E s (if(x==y)=true then t else e) Q st:=by
 by_cases c:x=y;·rw[if_pos (by simpa using c)];exact h1 c
 .rw[if_neg (by simpa using c)];exact h2 c
theorem iz{c:Prop}[Decidable c]{α:Type}{t e:StateT bL Sem α}{Q:α->bL->Prop}(h1:c->wpS (be prog w) A E s t Q st)(h2:¬c->wpS (be prog w) A E s e Q st):wpS (be prog w) A E s (if c then t else e) Q st:=by
 by_cases c:c;·rw[if_pos c];exact h1 c
 .rw[if_neg c];exact h2 c
theorem Oo{c:Bool}{α:Type}{t e:StateT bL Sem α}{Q:α->bL->Prop}(h1:wpS (be prog w) A E s t Q st)(h2:wpS (be prog w) A E s e Q st):wpS (be prog w) A E s (if c=true then t else e) Q st:=by
 cases c;·exact h2
 .exact h1
variable{dz:bL}
theorem yR{g:Nat}{α:Type}{f:Unit->StateT bL Sem α}{Q:α->bL->Prop}(S:fV dz st)(h:∀st',fV dz st'->wpS (be prog w) A E s (f ()) Q st'):wpS (be prog w) A E s (qd g>>=f) Q st:=
 a0 (Qx λst' z=>h st' (S.trans z))
theorem qu{arr:Array ba}{i:Nat}{α:Type}{f:ba->StateT bL Sem α}{Q:α->bL->Prop}(hi:i<arr.size)(h:wpS (be prog w) A E s (f arr[i]) Q st):wpS (be prog w) A E s (ix arr i>>=f) Q st:=a0 (oj hi h)
end
section
variable{prog:bg}{w:cq}{A:cx}{E:ag->ar->Prop}{s:ar}{st:bL}{dz:bL}
theorem Qw(a b:Array ba):Ed a b=(do
 rule "list.sort.merge-hi"
 let total:=a.size+b.size
 let done (out:Array ba) (na nb:Nat):=a.extract 0 na++b.extract 0 nb++out.reverse
 let c (out:Array ba) (na nb:Nat):=b.extract 0 nb++a.extract 0 na++out.reverse
 let mut na:=a.size-1
 let mut nb:=b.size
 let mut out:Array ba:= #[<-ix a na]
 if na==0 then return done out na nb
 if nb==1 then return c out na nb
 let mut minGallop:=gallopOf (<-get)
 for _ in[0:total] do
  let mut jF:=0
  let mut jw:=0
  for _ in[0:total] do
   let some aWins<-lt' (<-ix b (nb-1)) (<-ix a (na-1))|return done out na nb
   if aWins then
    na:=na-1;out:=out.push (<-ix a na);jF:=jF+1;jw:=0
    if na==0 then return done out na nb
    if jF≥minGallop then break
   else
    nb:=nb-1;out:=out.push (<-ix b nb);jw:=jw+1;jF:=0
    if nb==1 then return c out na nb
    if jw≥minGallop then break
  rule "list.sort.gallop"
  minGallop:=minGallop+1
  for _ in[0:total] do
   if minGallop>1 then minGallop:=minGallop-1
   qd minGallop
   let some at_<-mj false (<-ix b (nb-1)) a 0 na (na-1)|return done out na nb
   let k:=na-at_
   jF:=k
   if k>0 then
    out:=out++(a.extract at_ na).reverse;na:=at_
    if na==0 then return done out na nb
   nb:=nb-1;out:=out.push (<-ix b nb)
   if nb==1 then return c out na nb
   let some at_<-mj true (<-ix a (na-1)) b 0 nb (nb-1)|return done out na nb
   let k:=nb-at_
   jw:=k
   if k>0 then
    out:=out++(b.extract at_ nb).reverse;nb:=at_
    if nb==1 then return c out na nb
    if nb==0 then return done out na nb
   na:=na-1;out:=out.push (<-ix a na)
   if na==0 then return done out na nb
   if jF<7 && jw<7 then break
  minGallop:=minGallop+1
  qd minGallop
 fg "internal:list.sort.merge-bound"):=rfl
def Mh(a b:Array ba)(i j:Nat)(out:Array ba):Prop:=out.toList.Perm (a.toList.drop i++b.toList.drop j)
theorem EA{l:List ba}{i:Nat}(h:i<l.length):l.drop i=l[i]::l.drop (i+1):=uT h
theorem Mh.j6{a b:Array ba}{i j:Nat}{out:Array ba}(h:Mh a b i j out)(hj:j-1<b.size)(h1:1<=j):Mh a b i (j-1) (out.push b[j-1]):=by
 unfold Mh at*;rw[kL,EA (l:=b.toList) (i:=j-1) (by simpa using hj),show j-1+1=j by omega];refine(h.append_right _).trans ?_;rw[fS];refine lR _ ?_;simp
theorem Mh.j4{a b:Array ba}{i j:Nat}{out:Array ba}(h:Mh a b i j out)(hi:i-1<a.size)(h1:1<=i):Mh a b (i-1) j (out.push a[i-1]):=by
 unfold Mh at*;rw[kL,EA (l:=a.toList) (i:=i-1) (by simpa using hi),show i-1+1=i by omega];refine(h.append_right _).trans ?_;refine mG.trans ?_;simp
theorem Mh.D2{a b:Array ba}{i j:Nat}{out:Array ba}(h:Mh a b i (j+1) out)(hj:j<b.size):Mh a b i j (out.push b[j]):=Mh.j6 (j:=j+1) h hj ∅
theorem Mh.Si{a b:Array ba}{i j:Nat}{out:Array ba}(h:Mh a b (i+1) j out)(hi:i<a.size):Mh a b i j (out.push a[i]):=Mh.j4 (i:=i+1) h hi ∅
theorem yS{l:List ba}{k i:Nat}(h:k<=i):l.drop k=(l.take i).drop k++l.drop i:=by
 have e:=(jX i l).symm
 conv=>lhs;rw[e]
 rw[List.drop_append];by_cases hl:k<=(l.take i).length;·rw[show k-(l.take i).length=0 by omega];rfl
 .have:l.length<=k:=by rw[ly] at hl;omega
  rw[C2 (l:=l) (i:=i) ∅];simp
theorem Mh.oE{a b:Array ba}{i j k:Nat}{out:Array ba}(h:Mh a b i j out)(hk:k<=i):Mh a b k j (out++(a.extract k i).reverse):=by
 unfold Mh at*;rw[gZ,DQ,j5,yS (l:=a.toList) hk];refine(h.append (B7 _)).trans ?_;refine mG.trans ?_;rw[fS]
theorem Mh.m5{a b:Array ba}{i j k:Nat}{out:Array ba}(h:Mh a b i j out)(hk:k<=j):Mh a b i k (out++(b.extract k j).reverse):=by
 unfold Mh at*;rw[gZ,DQ,j5,yS (l:=b.toList) hk];refine(h.append (B7 _)).trans ?_;rw[fS];exact lR _ mG
theorem Mh.done{a b:Array ba}{i j:Nat}{out:Array ba}(h:Mh a b i j out):(a.extract 0 i++b.extract 0 j++out.reverse).toList.Perm (a.toList++b.toList):=by
 unfold Mh at h;rw[gZ,gZ,j5,j5,DQ,tG,tG];have ea:=(jX i a.toList).symm;have eb:=(jX j b.toList).symm;rw[show a.toList++b.toList=(a.toList.take i++a.toList.drop i)++(b.toList.take j++b.toList.drop j) by rw[<-ea,<-eb]];refine(lR _ ((B7 _).trans h)).trans ?_;simp only[fS];refine lR _ ?_;rw[<-fS,<-fS];exact C1 _ mG
theorem Mh.first{a b:Array ba}{i j:Nat}{out:Array ba}(h:Mh a b i j out):(b.extract 0 j++a.extract 0 i++out.reverse).toList.Perm (a.toList++b.toList):=by
 refine rn ?_ h.done;rw[gZ,gZ,gZ,gZ];exact C1 _ mG
end
theorem S1(i:Nat):mergeAt' i=(do
 let s<-get
 let (some (sa,na,power),some (sb,nb,_)):=((pendingOf s)[i]?,(pendingOf s)[i+1]?)|fg "internal:list.sort.pending"
 set (kk s (((pendingOf s).setIfInBounds i (sa,na+nb,power)).eraseIdxIfInBounds (i+1)))
 let some k<-mj false (<-ix (cc s) sb) (cc s) sa na 0|return false
 let (sa,na):=(sa+k,na-k)
 if na==0 then return true
 let some nb<-mj true (<-ix (cc s) (sa+na-1)) (cc s) sb nb (nb-1)|return false
 if nb==0 then return true
 let x:=(cc s).extract sa sb
 let y:=(cc s).extract sb (sb+nb)
 let merged<-if na<=nb then Co x y else Ed x y
 modify λs=>setArr s (merged.toList.zipIdx.foldl (λa (p,j)=>a.setIfInBounds (sa+j) p) (cc s))
 return (hR (<-get)).isNone):=rfl
def Ch:List (Nat×Nat×Nat)->Nat->Nat->Prop
 |[],x,y=>x=y
 |(s,n,_)::r,x,y=>s=x/\1<=n/\Ch r (x+n) y
theorem Ch.append:∀{l r:List (Nat×Nat×Nat)} {x z:Nat},Ch (l++r) x z↔∃y,Ch l x y/\Ch r y z
  |[],r,x,z=>⟨λh=>⟨x,rfl,h⟩,λ⟨y,e,h⟩=>by cases e;exact h⟩
  | (s, n, p) :: l, r, x, z => by
    show(s=x/\1<=n/\Ch (l++r) (x+n) z)↔∃y,(s=x/\1<=n/\Ch l (x+n) y)/\Ch r y z;rw[Ch.append];exact⟨λ⟨a,b,y,c,d⟩=>⟨y,⟨a,b,c⟩,d⟩,λ⟨y,⟨a,b,c⟩,d⟩=>⟨a,b,y,c,d⟩⟩
theorem Ch.le:∀{l:List (Nat×Nat×Nat)} {x y:Nat},Ch l x y->x<=y
 |[],x,y,h=>nU h
 |(s,n,p)::l,x,y,⟨a,b,c⟩=>by have:=Ch.le c;omega
theorem Ch.two{l:List (Nat×Nat×Nat)}{lo i:Nat}{sa na pw sb nb o:Nat}(h:Ch l 0 lo)(e1:l[i]?=some (sa,na,pw))(e2:l[i+1]?=some (sb,nb,o)):
  sb=sa+na/\1<=na/\1<=nb/\sb+nb<=lo/\Ch ((l.set i (sa,na+nb,pw)).eraseIdx (i+1)) 0 lo:=by
 have hi:i<l.length:=(bT.mp e1).1;have b:i+1<l.length:=(bT.mp e2).1;have g1:=(bT.mp e1).2;have g2:=(bT.mp e2).2;have B:l=l.take i++(sa,na,pw)::(sb,nb,o)::l.drop (i+2):=by
  have:=(jX i l).symm;rwa[uT hi,uT b,g1,g2] at this
 have hl:(l.take i).length=i:=by rw[ly];omega
 generalize l.take i=A1 at*;generalize l.drop (i+2)=A2 at*;subst B;obtain⟨y,c1,a1,a2,g,m,c⟩:=Ch.append.mp h;have:=c.le;refine⟨∅,a2,m,∅,?_⟩;have e:((A1++(sa,na,pw)::(sb,nb,o)::A2).set i (sa,na+nb,pw)).eraseIdx (i+1)=A1++(sa,na+nb,pw)::A2:=by
  rw[P8 _ _ ∅,hl,vT,m3,KG ∅,show i+1-A1.length=1 by omega]
  rfl
 rw[e];exact Ch.append.mpr ⟨y,c1,a1,∅,by rwa[<-vi]⟩
theorem CU(sa:Nat):∀(ms:List ba) (k:Nat) (arr:Array ba),sa+k+ms.length<=arr.size->
    ((ms.zipIdx k).foldl (λ(a:Array ba) (pj:ba×Nat)=>a.setIfInBounds (sa+pj.2) pj.1) arr).toList=arr.toList.take (sa+k)++ms++arr.toList.drop (sa+k+ms.length)
  |[],k,arr,h=>by simp
  | m :: ms, k, arr, h => by
    rw[eB] at h;rw[List.zipIdx_cons,rr,CU sa ms (k+1) _ (by rw[Array.size_setIfInBounds];omega)];have hs:(arr.setIfInBounds (sa+k) m).toList=arr.toList.set (sa+k) m:=Nq ..;show hJ _ ((arr.setIfInBounds (sa+k) m).toList)++ms++z1 _ ((arr.setIfInBounds (sa+k) m).toList)=_;rw[hs];have h2:sa+k<arr.toList.length:=by simp;omega
    have e1:(arr.toList.set (sa+k) m).take (sa+(k+1))=arr.toList.take (sa+k)++[m]:=by
      rw[show sa+(k+1)=sa+k+1 by omega,tf,cW h2,List.take_set_of_le (aH _)]
      rfl
    have e2:(arr.toList.set (sa+k) m).drop (sa+(k+1)+ms.length)=arr.toList.drop (sa+k+(ms.length+1)):=by
      rw[List.drop_set_of_lt ∅,show sa+(k+1)+ms.length=sa+k+(ms.length+1) by omega]
    rw[e1,e2,eB];simp
theorem Hf{arr:Array ba}{merged:Array ba}{sa sb nb:Nat}(h1:sa<=sb)(h2:sb+nb<=arr.size)(hm:merged.toList.Perm ((arr.extract sa sb).toList++(arr.extract sb (sb+nb)).toList)):
  (merged.toList.zipIdx.foldl (λ(a:Array ba) (pj:ba×Nat)=>a.setIfInBounds (sa+pj.2) pj.1) arr).toList.Perm arr.toList:=by
 have hl:=hm.length_eq;rw[cK,j5,j5,rF,rF,ly,ly,dI,dI] at hl;have e:=CU sa merged.toList 0 arr (by rw[dI];omega);rw[dI,sY,show sa+merged.size=sb+nb by omega] at e;rw[e];have e2:arr.toList=arr.toList.take sa++((arr.extract sa sb).toList++(arr.extract sb (sb+nb)).toList)++arr.toList.drop (sb+nb):=by
  rw[j5,j5];have a1:=yS (l:=arr.toList) (k:=sb) (i:=sb+nb) ∅;have a2:=yS (l:=arr.toList) (k:=sa) (i:=sb) h1;rw[fS,fS,<-a1,<-a2,jX]
 conv=>rhs;rw[e2]
 exact(lR _ hm).append_right _
structure SI(a₀:Array ba)(lo:Nat)(st:bL):Prop where
 perm:(cc st).toList.Perm a₀.toList
 kind:kindOf st=hU
 failed:hR st=none
 ch:Ch (pendingOf st).toList 0 lo
theorem eW.perm{a b:Array ba}(h:eW a)(p:b.toList.Perm a.toList):eW b:=λi x e=>by
 have:x∈b.toList:=by rw[zN];exact E8 e
 have:x∈a.toList:=p.mem_iff.mp this;obtain⟨j,hj⟩:=oF this;exact h j x (by rw[<-jj];exact hj)
theorem eW.ext{a:Array ba}(h:eW a)(i j:Nat):eW (a.extract i j):=λk x e=>by
 have:x∈(a.extract i j).toList:=by rw[zN];exact E8 e
 rw[j5] at this;have:x∈a.toList:=EJ (List.mem_of_mem_drop this);obtain⟨j,hj⟩:=oF this;exact h j x (by rw[<-jj];exact hj)
theorem SI.size{a₀:Array ba}{lo:Nat}{st:bL}(h:SI a₀ lo st):(cc st).size=a₀.size:=by have:=h.perm.length_eq;simpa using this
section
variable{prog:bg}{w:cq}{A:cx}{E:ag->ar->Prop}{s:ar}{st:bL}{a₀:Array ba}{lo:Nat}
theorem VG{st':bL}{Q:PUnit->bL->Prop}(h:Q ⟨⟩ st'):wpS (be prog w) A E s (set st':StateT bL Sem PUnit) Q st:=by
 unfold wpS;rw[StateT.run_set];exact aw ⟨rfl,h⟩
theorem SI.arr{xs:Array ba}(hI:SI a₀ lo st)(hp:xs.Perm (cc st)):SI a₀ lo (setArr st xs):=⟨(Array.perm_iff_toList_perm.mp hp).trans hI.perm,hI.kind,hI.failed,hI.ch⟩
theorem Ch.pw{f:Nat×Nat×Nat->Nat×Nat×Nat}(hf:∀v,(f v).1=v.1/\(f v).2.1=v.2.1){l:List (Nat×Nat×Nat)}{i x y:Nat}(h:Ch l x y):Ch (l.modify i f) x y:=by
  induction l generalizing i x with
  |nil=>cases i<;>exact h
  | cons v l ih =>
    obtain⟨s,n,p⟩:=v;obtain⟨a,b,c⟩:=h;cases i with
    | zero =>
      have:=hf (s,n,p);rw[List.modify_zero_cons];generalize f (s,n,p)=u at this;obtain⟨s2,n2,p2⟩:=u;dsimp only at this;exact⟨this.1.trans a,∅,by rw[this.2];exact c⟩
    |succ i=>rw[List.modify_succ_cons];exact⟨a,b,ih c⟩
theorem XT{c:Prop}[Decidable c]{a:Nat}:(if c then a-1 else a)<=a:=by split<;>omega
end
theorem UQ{vs:List ag}{ns:List Int}(hI:en vs ns){xs:Array ba}(hp:xs.toList.Perm (kS vs).toList):
  ∃f,en (xs.map (·.2)).toList f/\f.Perm ns:=by
 have hl:xs.toList.Perm (vs.zip vs):=by rw[<-me];exact hp
 have c:∀p,p∈xs.toList->p.1=p.2/\p.1∈vs:=λp a=>o4 (hl.mem_iff.mp a);refine⟨xs.toList.map (λp=>Ap p.1),?_,?_⟩
 .have e:(xs.map (·.2)).toList=xs.toList.map (·.1):=by
   rw[ph];exact wm λp a=>(c p a).1.symm
  rw[e]
  have h1:=intsAre_map (xs.toList.map (·.1)) (by
   intro v hv;obtain⟨p,a,rfl⟩:=dG.mp hv;exact hI.all _ (c p a).2)
  rwa[oY] at h1
 .have h1:=hl.map (λp=>Ap p.1);have e2:(vs.zip vs).map (λp=>Ap p.1)=ns:=by
   have:(vs.zip vs).map (λp=>Ap p.1)=((vs.zip vs).map Prod.fst).map Ap:=by rw[oY];rfl
   rw[this,List.map_fst_zip (aH _),hI.nums]
  rwa[e2] at h1
theorem YD{vs:List ag}{ns:List Int}(hI:en vs ns):eW (kS vs):=λi x e=>by
 have:x∈(kS vs).toList:=by rw[zN];exact E8 e
 rw[me] at this;exact hI.all _ (o4 this).2
noncomputable def kd(x:ba):Int:=match x.1 with| .int n _=>n|_=>0
noncomputable def kz(a:Array ba)(i:Nat):Int:=match a[i]? with|some x=>kd x|none=>0
theorem eO{a:Array ba}{i:Nat}(h:i<a.size):kz a i=kd a[i]:=by unfold kz;rw[getElem?_pos a i h]
def Ra(a:Array ba)(lo hi:Nat):Prop:=∀i j,lo<=i->i<=j->j<hi->kz a i<=kz a j
def cg(left:Bool)(key:ba)(v:Int):Prop:=if left=true then v<kd key else v<=kd key
theorem qq{left:Bool}{key:ba}{u v:Int}(h:cg left key v)(hu:u<=v):cg left key u:=by
 unfold cg at*;cases left with
 |true=>rw[if_pos rfl] at*;omega
 |false=>rw[if_neg cO] at*;omega
section
variable{prog:bg}{w:cq}{A:cx}{E:ag->ar->Prop}{s:ar}{st:bL}
theorem vK{x y:ba}{Q:Option Bool->bL->Prop}(hk:kindOf st=hU)(hx:lK x)(hy:lK y)(h1:kd x<kd y->Q (some true) st)(h2:kd y<=kd x->Q (some false) st):wpS (be prog w) A E s (lt' x y) Q st:=by
 obtain⟨n,t,e1⟩:=hx;obtain⟨m,u,e2⟩:=hy;have d1:kd x=n:=by unfold kd;rw[e1]
 have X:kd y=m:=by unfold kd;rw[e2]
 rw[lt'_eq];refine a0 (ik ?_);rw[hk,keyLt'_oneType,e1,e2];refine a0 (ma (hQ (oneLt_int ⟨rfl,?_⟩)));refine a5 ?_;by_cases c:n<m;·rw[decide_eq_true c];exact h1 ∅
 .rw[decide_eq_false c];exact h2 ∅
theorem zV{left:Bool}{key:ba}{arr:Array ba}{base i:Nat}{Q:Option Bool->bL->Prop}(hk:kindOf st=hU)(hy:lK key)(ha:eW arr)(hi:base+i<arr.size)(h1:cg left key (kz arr (base+i))->Q (some true) st)(h2:¬cg left key (kz arr (base+i))->Q (some false) st):wpS (be prog w) A E s (oV left key arr base i) Q st:=by
  unfold oV;refine a0 (oj hi ?_);rw[eO hi] at h1 h2;unfold cg at h1 h2;cases left with
  | true =>
    simp only[if_true] at h1 h2⊢;exact vK hk (ha.at hi) hy h1 λz=>h2 ∅
  | false =>
    simp only[lN,if_false] at h1 h2⊢;exact a0 (vK hk hy (ha.at hi) (λz=>a5 (h2 ∅)) λz=>a5 (h1 z))
theorem JW{left:Bool}{key:ba}{arr:Array ba}{base n lo hi:Nat}{Q:Option (Option Nat)×Nat×Nat->bL->Prop}(hk:kindOf st=hU)(hy:lK key)(ha:eW arr)(hb:base+n<=arr.size)(g:Ra arr base (base+n))(hn:hi<=n)(hl:lo<=hi)(j:∀x<lo,cg left key (kz arr (base+x)))(p2:∀x,hi<=x->x<n->¬cg left key (kz arr (base+x)))
    (h:∀l k,k<=n->(∀x<k,cg left key (kz arr (base+x)))->(∀x,k<=x->x<n->¬cg left key (kz arr (base+x)))->Q (none,l,k) st):
    wpS (be prog w) A E s (forIn [0:n] ((none,lo,hi):Option (Option Nat)×Nat×Nat) λx __s=>
                if __s.snd.fst≥__s.snd.snd then pure (i0 (none,__s.snd.fst,__s.snd.snd))
                else do
                  let __x<-oV left key arr base (__s.snd.fst+(__s.snd.snd-__s.snd.fst)/2)
                  match __x with
                    | some more =>
                      if more=true then
                        pure (dc (none,__s.snd.fst+(__s.snd.snd-__s.snd.fst)/2+1,__s.snd.snd))
                      else pure (dc (none,__s.snd.fst,__s.snd.fst+(__s.snd.snd-__s.snd.fst)/2))
                    |_=>pure (i0 (some none,__s.snd.fst,__s.snd.snd))) Q st:=by
  refine cV (I:=λx c st'=>st'=st/\∃l k,c=(none,l,k)/\k<=n/\l<=k/\k-l+x<=n/\(∀y<l,cg left key (kz arr (base+y)))/\∀y,k<=y->y<n->¬cg left key (kz arr (base+y))) ?_ ?_ ⟨rfl,lo,hi,rfl,hn,hl,∅,j,p2⟩
  · rintro x c st' _ hx ⟨rfl,l,k,rfl,hkn,hlk,hm,q1,q2⟩
    dsimp only;by_cases a:l≥k;· rw[if_pos a];exact a5 (h l k hkn (λy hy=>q1 y ∅) q2)
    · rw[if_neg a]
      obtain⟨m,v⟩:∃m,l+(k-l)/2=m:=⟨_,rfl⟩;rw[v];refine a0 (zV hk hy ha ∅ (λb=>?_) λb=>?_);· exact a5 ⟨rfl,_,_,rfl,hkn,∅,∅,λy hy=>qq b (g _ _ ∅ ∅ ∅),q2⟩
      · exact a5 ⟨rfl,_,_,rfl,∅,∅,∅,q1,λy h1 h2 z=>b (qq z (g _ _ ∅ ∅ ∅))⟩
  · rintro c st' ⟨rfl,l,k,rfl,hkn,hlk,hm,q1,q2⟩
    exact h l k hkn (λy hy=>q1 y ∅) q2
theorem Bk{left:Bool}{key:ba}{arr:Array ba}{base n d:Nat}{Q:Option Nat->bL->Prop}(hk:kindOf st=hU)(hy:lK key)(ha:eW arr)(hb:base+n<=arr.size)(g:Ra arr base (base+n))(L:d<n)
  (h:∀k,k<=n->(∀x<k,cg left key (kz arr (base+x)))->(∀x,k<=x->x<n->¬cg left key (kz arr (base+x)))->Q (some k) st):wpS (be prog w) A E s (mj left key arr base n d) Q st:=by
 rw[Tc];refine a0 (zV hk hy ha ∅ (λb0=>?_) λb0=>?_)
 .dsimp only;simp only[if_true];refine a0 (e0 (cV (I:=λx c st'=>st'=st/\∃l k,c=(none,l,k)/\d+l<n/\l<k/\x+1<=k/\cg left key (kz arr (base+(d+l)))) (Q:=λc st'=>st'=st/\∃l k,c=(none,l,k)/\d+l<n/\l<k/\cg left key (kz arr (base+(d+l)))/\(n-d<=k\/¬cg left key (kz arr (base+(d+k))))) ?_ ?_ ⟨rfl,_,_,rfl,∅,∅,∅,b0⟩) ?_)
  .rintro x c st' _ hx ⟨rfl,l,k,rfl,i1,i2,i3,i4⟩;dsimp only;by_cases a:k≥n-d;·rw[if_pos a];exact a5 ⟨rfl,_,_,rfl,i1,i2,i4, .inl a⟩
   .rw[if_neg a];refine a0 (zV hk hy ha ∅ (λb=>?_) λb=>?_);·exact a5 ⟨rfl,_,_,rfl,∅,∅,∅,b⟩
    .exact a5 ⟨rfl,_,_,rfl,i1,i2,i4, .inr b⟩
  .rintro c st' ⟨rfl,l,k,rfl,i1,i2,i3,i4⟩;exact⟨rfl,_,_,rfl,i1,i2,i4, .inl ∅⟩
  .rintro c st' ⟨rfl,l,k,rfl,i1,i2,i4,i5⟩;dsimp only;refine a0 (JW hk hy ha hb g ∅ ∅ (λx hx=>qq i4 (g _ _ ∅ ∅ ∅)) (λx h1 h2 z=>?_) λl k e J O=>a5 (h k e J O));rcases i5 with i5|i5
   .omega
   .exact i5 (qq z (g _ _ ∅ ∅ ∅))
 .dsimp only;simp only[lN,if_false];refine a0 (e0 (cV (I:=λx c st'=>st'=st/\∃l k,c=(none,l,k)/\l<=d/\l<k/\x+1<=k/\¬cg left key (kz arr (base+(d-l)))) (Q:=λc st'=>st'=st/\∃l k,c=(none,l,k)/\l<=d/\l<k/\¬cg left key (kz arr (base+(d-l)))/\(d+1<=k\/cg left key (kz arr (base+(d-k))))) ?_ ?_ ⟨rfl,_,_,rfl,∅,∅,∅,b0⟩) ?_)
  .rintro x c st' _ hx ⟨rfl,l,k,rfl,i1,i2,i3,i4⟩;dsimp only;by_cases a:k≥d+1;·rw[if_pos a];exact a5 ⟨rfl,_,_,rfl,i1,i2,i4, .inl a⟩
   .rw[if_neg a];refine a0 (zV hk hy ha ∅ (λb=>?_) λb=>?_);·exact a5 ⟨rfl,_,_,rfl,i1,i2,i4, .inr b⟩
    .exact a5 ⟨rfl,_,_,rfl,∅,∅,∅,b⟩
  .rintro c st' ⟨rfl,l,k,rfl,i1,i2,i3,i4⟩;exact⟨rfl,_,_,rfl,i1,i2,i4, .inl ∅⟩
  .rintro c st' ⟨rfl,l,k,rfl,i1,i2,i4,i5⟩;dsimp only;refine a0 (JW hk hy ha hb g ∅ ∅ (λx hx=>?_) (λx h1 h2 z=>i4 (qq z (g _ _ ∅ ∅ ∅))) λl k e J O=>a5 (h k e J O));rcases i5 with i5|i5
   .omega
   .exact qq i5 (g _ _ ∅ ∅ ∅)
theorem iM{a:Array ba}{x:ba}{i:Nat}(h:i<a.size+1):kz (a.push x) i=if i=a.size then kd x else kz a i:=by
 unfold kz;rw[Gq];by_cases c:i=a.size;·rw[if_pos c,if_pos c]
 .rw[if_neg c,if_neg c]
theorem fu{a b:Array ba}{i:Nat}:kz (a++b) i=if i<a.size then kz a i else kz b (i-a.size):=by
 unfold kz;rw[Pf];by_cases c:i<a.size;·rw[if_pos c,if_pos c]
 .rw[if_neg c,if_neg c]
theorem eH{a:Array ba}{i j x:Nat}(hj:j<=a.size)(hx:i+x<j):kz (a.extract i j) x=kz a (i+x):=by
 unfold kz;rw[O8,if_pos ∅]
structure Mo(a b:Array ba)(i j:Nat)(out:Array ba):Prop where
 up:Ra out 0 out.size
 oa:∀x y,x<out.size->i<=y->y<a.size->kz out x<=kz a y
 ob:∀x y,x<out.size->j<=y->y<b.size->kz out x<=kz b y
variable{a b out:Array ba}{i j k:Nat}
theorem Mo.j6(h:Mo a b i j out)(hb:Ra b 0 b.size)(ha:Ra a 0 a.size)(hj:j<b.size)(hc:i<a.size->kz b j<=kz a i):Mo a b i (j+1) (out.push b[j]):=by
 have e:kd b[j]=kz b j:=(eO hj).symm;refine⟨λx y h0 d hy=>?_,λx y hx hi hy=>?_,λx y hx hi hy=>?_⟩<;>rw[ur] at*
 .rw[iM ∅,iM ∅,e];by_cases c1:y=out.size
  .rw[if_pos c1];by_cases c2:x=out.size;·rw[if_pos c2];omega
   .rw[if_neg c2];exact h.ob x j ∅ ∅ hj
  .rw[if_neg c1,if_neg ∅];exact h.up x y ∅ d ∅
 .rw[iM ∅,e];by_cases c2:x=out.size
  .rw[if_pos c2];have h1:=hc ∅;have h2:=ha i y ∅ hi hy;omega
  .rw[if_neg c2];exact h.oa x y ∅ hi hy
 .rw[iM ∅,e];by_cases c2:x=out.size;·rw[if_pos c2];exact hb j y ∅ ∅ hy
  .rw[if_neg c2];exact h.ob x y ∅ ∅ hy
theorem Mo.j4(h:Mo a b i j out)(hb:Ra b 0 b.size)(ha:Ra a 0 a.size)(hi:i<a.size)(hc:j<b.size->kz a i<=kz b j):Mo a b (i+1) j (out.push a[i]):=by
 have e:kd a[i]=kz a i:=(eO hi).symm;refine⟨λx y h0 d hy=>?_,λx y hx c hy=>?_,λx y hx c hy=>?_⟩<;>rw[ur] at*
 .rw[iM ∅,iM ∅,e];by_cases c1:y=out.size
  .rw[if_pos c1];by_cases c2:x=out.size;·rw[if_pos c2];omega
   .rw[if_neg c2];exact h.oa x i ∅ ∅ hi
  .rw[if_neg c1,if_neg ∅];exact h.up x y ∅ d ∅
 .rw[iM ∅,e];by_cases c2:x=out.size;·rw[if_pos c2];exact ha i y ∅ ∅ hy
  .rw[if_neg c2];exact h.oa x y ∅ ∅ hy
 .rw[iM ∅,e];by_cases c2:x=out.size
  .rw[if_pos c2];have h1:=hc ∅;have h2:=hb j y ∅ c hy;omega
  .rw[if_neg c2];exact h.ob x y ∅ c hy
theorem Mo.oE(h:Mo a b i j out)(hb:Ra b 0 b.size)(ha:Ra a 0 a.size)(hk:i+k<=a.size)(hc:∀y,i<=y->y<i+k->j<b.size->kz a y<=kz b j):Mo a b (i+k) j (out++a.extract i (i+k)):=by
 have hs:(a.extract i (i+k)).size=k:=by rw[gn];omega
 refine⟨λx y h0 d hy=>?_,λx y hx c hy=>?_,λx y hx c hy=>?_⟩<;>rw[nF,hs] at*
 .rw[fu,fu];by_cases c1:y<out.size;·rw[if_pos c1,if_pos ∅];exact h.up x y ∅ d c1
  .rw[if_neg c1,eH (x:=y-out.size) hk ∅];by_cases c2:x<out.size;·rw[if_pos c2];exact h.oa x (i+(y-out.size)) c2 ∅ ∅
   .rw[if_neg c2,eH hk ∅];exact ha _ _ ∅ ∅ ∅
 .rw[fu];by_cases c2:x<out.size;·rw[if_pos c2];exact h.oa x y c2 ∅ hy
  .rw[if_neg c2,eH hk ∅];exact ha _ _ ∅ ∅ hy
 .rw[fu];by_cases c2:x<out.size;·rw[if_pos c2];exact h.ob x y c2 ∅ hy
  .rw[if_neg c2,eH hk ∅];have h1:=hc (i+(x-out.size)) ∅ ∅ ∅;have h2:=hb j y ∅ c hy;omega
theorem Mo.m5(h:Mo a b i j out)(hb:Ra b 0 b.size)(ha:Ra a 0 a.size)(hk:j+k<=b.size)(hc:∀y,j<=y->y<j+k->i<a.size->kz b y<=kz a i):Mo a b i (j+k) (out++b.extract j (j+k)):=by
 have hs:(b.extract j (j+k)).size=k:=by rw[gn];omega
 refine⟨λx y h0 d hy=>?_,λx y hx c hy=>?_,λx y hx c hy=>?_⟩<;>rw[nF,hs] at*
 .rw[fu,fu];by_cases c1:y<out.size;·rw[if_pos c1,if_pos ∅];exact h.up x y ∅ d c1
  .rw[if_neg c1,eH (x:=y-out.size) hk ∅];by_cases c2:x<out.size;·rw[if_pos c2];exact h.ob x (j+(y-out.size)) c2 ∅ ∅
   .rw[if_neg c2,eH hk ∅];exact hb _ _ ∅ ∅ ∅
 .rw[fu];by_cases c2:x<out.size;·rw[if_pos c2];exact h.oa x y c2 ∅ hy
  .rw[if_neg c2,eH hk ∅];have h1:=hc (j+(x-out.size)) ∅ ∅ ∅;have h2:=ha i y ∅ c hy;omega
 .rw[fu];by_cases c2:x<out.size;·rw[if_pos c2];exact h.ob x y c2 ∅ hy
  .rw[if_neg c2,eH hk ∅];exact hb _ _ ∅ ∅ hy
theorem Mo.xX(h:Mo a b i j out)(ha:Ra a 0 a.size):Ra (out++a.extract i a.size) 0 (out++a.extract i a.size).size:=λx y h0 d hy=>by
 rw[nF,gn] at hy;rw[fu,fu];by_cases c1:y<out.size;·rw[if_pos c1,if_pos ∅];exact h.up x y ∅ d c1
 .rw[if_neg c1,eH (x:=y-out.size) (aH _) ∅];by_cases c2:x<out.size;·rw[if_pos c2];exact h.oa x (i+(y-out.size)) c2 ∅ ∅
  .rw[if_neg c2,eH (aH _) ∅];exact ha _ _ ∅ ∅ ∅
theorem Mo.wW(h:Mo a b i j out)(hb:Ra b 0 b.size):Ra (out++b.extract j b.size) 0 (out++b.extract j b.size).size:=λx y h0 d hy=>by
 rw[nF,gn] at hy;rw[fu,fu];by_cases c1:y<out.size;·rw[if_pos c1,if_pos ∅];exact h.up x y ∅ d c1
 .rw[if_neg c1,eH (x:=y-out.size) (aH _) ∅];by_cases c2:x<out.size;·rw[if_pos c2];exact h.ob x (j+(y-out.size)) c2 ∅ ∅
  .rw[if_neg c2,eH (aH _) ∅];exact hb _ _ ∅ ∅ ∅
structure Mp(a b:Array ba):Prop where
 ra:Ra a 0 a.size
 rb:Ra b 0 b.size
 kA:eW a
 kB:eW b
 hd:kz b 0<=kz a 0
 tl:∀y,y<b.size->kz b y<=kz a (a.size-1)
def c8(z:Array ba):Prop:=Ra z 0 z.size
theorem Mo.uG(P:Mp a b)(h:Mo a b i j out)(hj:j=b.size):c8 (out++a.extract i a.size++b.extract j b.size):=by
 have e:b.extract j b.size= #[]:=by rw[hj];simp
 unfold c8;rw[e,ES];exact h.xX P.ra
theorem Mo.xG(P:Mp a b)(h:Mo a b i j out)(hi:i=a.size):c8 (out++a.extract i a.size++b.extract j b.size):=by
 have e:a.extract i a.size= #[]:=by rw[hi];simp
 unfold c8;rw[e,ES];exact h.wW P.rb
theorem Mo.BY(P:Mp a b)(h:Mo a b i j out)(hi:i+1=a.size)(hj:j<=b.size):c8 (out++b.extract j b.size++a.extract i a.size):=by
 have:=h.m5 (k:=b.size-j) P.rb P.ra ∅ (λy _ h2 _=>by have:=P.tl y ∅;rwa[show a.size-1=i by omega] at this);rw[show j+(b.size-j)=b.size by omega] at this;exact this.xX P.ra
def LQ(a b:Array ba)(dz:bL)(B:Nat)(r:Option (Array ba))(out:Array ba)(ia ib:Nat)(st':bL):Prop:=
 fV dz st'/\(match r with|some z=>z.toList.Perm (a.toList++b.toList)/\c8 z|none=>Mg a b ia ib out/\Mo a b ia ib out/\ia+1<a.size/\ib<b.size/\B<=ia+ib)
variable{dz st':bL}{B ia ib:Nat}{z:Array ba}
theorem LQ.some(S:fV dz st')(h:z.toList.Perm (a.toList++b.toList))(o:c8 z):LQ a b dz B (some z) out ia ib st':=⟨S,h,o⟩
theorem LQ.none(S:fV dz st')(m:Mg a b ia ib out)(o:Mo a b ia ib out)(h1:ia+1<a.size)(h2:ib<b.size)(h3:B<=ia+ib):LQ a b dz B none out ia ib st':=⟨S,m,o,h1,h2,h3⟩
theorem HW{x y:ba}{α:Type}{f:Option Bool->StateT bL Sem α}{Q:α->bL->Prop}(hk:kindOf dz=hU)(S:fV dz st)(hx:lK x)(hy:lK y)(h1:kd x<kd y->wpS (be prog w) A E s (f (some true)) Q st)(h2:kd y<=kd x->wpS (be prog w) A E s (f (some false)) Q st):wpS (be prog w) A E s (lt' x y>>=f) Q st:=a0 (vK (S.1.trans hk) hx hy h1 h2)
theorem Ku{left:Bool}{key:ba}{arr:Array ba}{base n d:Nat}{α:Type}{f:Option Nat->StateT bL Sem α}{Q:α->bL->Prop}(hk:kindOf dz=hU)(S:fV dz st)(hy:lK key)(ha:eW arr)(hb:base+n<=arr.size)(g:Ra arr base (base+n))(L:d<n)(h:∀k,k<=n->(∀x<k,cg left key (kz arr (base+x)))->(∀x,k<=x->x<n->¬cg left key (kz arr (base+x)))->wpS (be prog w) A E s (f (some k)) Q st):wpS (be prog w) A E s (mj left key arr base n d>>=f) Q st:=a0 (Bk (S.1.trans hk) hy ha hb g L h)
theorem Ra.sub{x:Array ba}{l h k h':Nat}(r:Ra x l h)(h1:l<=k)(h2:h'<=h):Ra x k h':=λi j a b c=>r i j ∅ b ∅
theorem oN{α:Type}{t e:StateT bL Sem α}{Q:α->bL->Prop}(h:wpS (be prog w) A E s t Q st):wpS (be prog w) A E s (if true=true then t else e) Q st:=by rw[if_pos rfl];exact h
theorem oZ{α:Type}{t e:StateT bL Sem α}{Q:α->bL->Prop}(h:wpS (be prog w) A E s e Q st):wpS (be prog w) A E s (if false=true then t else e) Q st:=by rw[if_neg cO];exact h
theorem Lg{x y:Array ba}{i j:Nat}{hi:i<x.size}{hj:j<y.size}(h:kd x[i]<kd y[j]):kz x i<=kz y j:=by rw[eO hi,eO hj];omega
theorem Z5{x y:Array ba}{i j:Nat}{hi:i<x.size}{hj:j<y.size}(h:kd y[j]<=kd x[i]):kz y j<=kz x i:=by rw[eO hi,eO hj];omega
theorem V5{x y:Array ba}{i j k:Nat}{hj:j<y.size}(h:∀z<k,cg false y[j] (kz x (i+z))):∀z,i<=z->z<i+k->kz x z<=kz y j:=λz h1 h2=>by
 have:=h (z-i) ∅;unfold cg at this;rw[if_neg cO,show i+(z-i)=z by omega] at this;rw[eO hj];exact this
theorem JX{x y:Array ba}{i j k n:Nat}{hj:j<y.size}(h:∀z,k<=z->z<n->¬cg false y[j] (kz x (i+z)))(hk:k<n):kz y j<=kz x (i+k):=by
 have:=h k (aH _) hk;unfold cg at this;rw[if_neg cO] at this;rw[eO hj];omega
theorem V2{x y:Array ba}{i j k:Nat}{hj:j<y.size}(h:∀z<k,cg true y[j] (kz x (i+z))):∀z,i<=z->z<i+k->kz x z<=kz y j:=λz h1 h2=>by
 have:=h (z-i) ∅;unfold cg at this;rw[if_pos rfl,show i+(z-i)=z by omega] at this;rw[eO hj];omega
theorem JI{x y:Array ba}{i j k n:Nat}{hj:j<y.size}(h:∀z,k<=z->z<n->¬cg true y[j] (kz x (i+z)))(hk:k<n):kz y j<=kz x (i+k):=by
 have:=h k (aH _) hk;unfold cg at this;rw[if_pos rfl] at this;rw[eO hj];omega
theorem UR{x y:Array ba}{i j k n:Nat}{hj:j<y.size}(h:∀z,k<=z->z<n->¬cg false y[j] (kz x (i+z)))(h0:k<=0)(hn:0<n):kz y j<=kz x i:=by
 have:=JX (k:=0) (λz a b=>h z ∅ b) hn;rwa[sY] at this
theorem Vl{x y:Array ba}{i j k n:Nat}{hj:j<y.size}(h:∀z,k<=z->z<n->¬cg true y[j] (kz x (i+z)))(h0:k<=0)(hn:0<n):kz y j<=kz x i:=by
 have:=JI (k:=0) (λz a b=>h z ∅ b) hn;rwa[sY] at this
local macro_rules| `(tactic|walk_at "og")=> `(tactic|repeat (first|assumption|with_reducible refine Mg.j6 ?_ (by omega (config := {}))|with_reducible refine Mg.j4 ?_ (by omega (config := {}))|with_reducible refine Mg.oE ?_|with_reducible refine Mg.m5 ?_))
local macro_rules| `(tactic|walk_at "oo")=> `(tactic|repeat' (first
 |assumption
 |with_reducible refine Mo.j6 ?_ (by assumption) (by assumption) (by omega (config := {})) ?_
 |with_reducible refine Mo.j4 ?_ (by assumption) (by assumption) (by omega (config := {})) ?_
 |with_reducible refine Mo.oE ?_ (by assumption) (by assumption) (by omega (config := {})) ?_
 |with_reducible refine Mo.m5 ?_ (by assumption) (by assumption) (by omega (config := {})) ?_
 |exact λ_=>JX (by assumption) (by omega (config := {}))
 |exact λ_=>JI (by assumption) (by omega (config := {}))
 |exact λ_=>UR (by assumption) (by omega (config := {})) (by omega (config := {}))
 |exact λ_=>Vl (by assumption) (by omega (config := {})) (by omega (config := {}))
 |exact λy h1 h2 _=>V5 (by assumption) y h1 h2
 |exact λy h1 h2 _=>V2 (by assumption) y h1 h2))
local macro_rules| `(tactic|walk_at "oe")=> `(tactic|(dsimp only;first
 |exact LQ.some (by assumption) (Mg.done (by walk_at "og")) (Mo.uG (by assumption) (by walk_at "oo") (by omega (config := {})))
 |exact LQ.some (by assumption) (Mg.done (by walk_at "og")) (Mo.xG (by assumption) (by walk_at "oo") (by omega (config := {})))
 |exact LQ.some (by assumption) (Mg.last (by walk_at "og")) (Mo.BY (by assumption) (by walk_at "oo") (by omega (config := {})) (by omega (config := {})))
 |exact LQ.none (by assumption) (by walk_at "og") (by walk_at "oo") (by omega (config := {})) (by omega (config := {})) (by omega (config := {}))
 |exact rz (by first|rfl|trivial) (LQ.none (by assumption) (by walk_at "og") (by walk_at "oo") (by omega (config := {})) (by omega (config := {})) (by omega (config := {})))))
local macro_rules| `(tactic|walk_at "os")=> `(tactic|repeat' (first
 |with_reducible refine a5 ?_
 |with_reducible refine kE (λ_=>?_) (λ_=>?_)
 |with_reducible refine qu (by omega (config := {})) ?_
 |with_reducible refine Ku (by assumption) (by assumption) (eW.at (by assumption) _) (by assumption) (by omega (config := {})) (Ra.sub (by assumption) (fj _) (by omega (config := {}))) (by omega (config := {})) (λ_ _ _ _=>?_)
 |with_reducible refine yR (by assumption) (λ_ _=>?_)
 |with_reducible refine Oo ?_ ?_
 |with_reducible refine iz (λ_=>?_) (λ_=>?_)
 |walk_at "oe"))
theorem Q5{Q:Array ba->bL->Prop}(hk:kindOf st=hU)(P:Mp a b)(B:0<a.size)(b0:0<b.size)(h:∀r st',fV st st'->r.toList.Perm (a.toList++b.toList)->c8 r->Q r st'):wpS (be prog w) A E s (Co a b) Q st:=by
  have ra:=P.ra;have rb:=P.rb;have kA:=P.kA;have kB:=P.kB;rw[Wi];refine a0 (ma (eP ⟨rfl,?_⟩));refine a0 (oj b0 ?_);dsimp only;have R:Mg a b 0 1 #[b[0]]:=by unfold Mg;rw[BF (l:=b.toList) (by simpa using b0)];simp
  have n:Mo a b 0 1 #[b[0]]:=by
    have:=Mo.j6 (a:=a) (b:=b) (i:=0) (j:=0) (out:= #[]) ⟨λ_ _ _ _ h=>by simp at h,λ_ _ h=>by simp at h,λ_ _ h=>by simp at h⟩ rb ra b0 (λ_=>P.hd);simpa using this
  refine kE (λc1=>a5 (h _ _ (.refl _) R.done (n.uG P c1))) (λc1=>?_);refine kE (λc2=>a5 (h _ _ (.refl _) R.last (n.BY P c2 ∅))) (λc2=>?_);refine a0 (ik ?_);refine a0 (e0 (cV (I:=λx c st'=>c.1=none/\LQ a b st (x+1) none c.2.1 c.2.2.1 c.2.2.2.1 st') (Q:=λc st'=>fV st st'/\∃z,c.1=some z/\z.toList.Perm (a.toList++b.toList)/\c8 z) ?step ?fin ⟨rfl, .none (.refl _) R n (by dsimp only;omega) (by dsimp only;omega) (by dsimp only;omega)⟩) ?post)
  case fin=>
    rintro c st' ⟨_,_,_,_,G,C,f⟩;omega
  case post=>
    rintro c st' ⟨S,z,e,hz,oz⟩;rw[e];exact a5 (h z st' S hz oz)
  case step=>
    rintro x ⟨r,out,ia,ib,mn⟩ st' _ hx ⟨e,S,m,o,G,C,f⟩;dsimp only at e m o G C f;subst e;dsimp only;refine a0 (e0 (cV (I:=λy c st'=>c.1=none/\LQ a b st (x+1+y) none c.2.1 c.2.2.1 c.2.2.2.1 st') (Q:=λc st'=>LQ a b st (x+2) c.1 c.2.1 c.2.2.1 c.2.2.2.1 st') ?Cz ?CM ⟨rfl, .none S m o G C ∅⟩) ?GS)
    case CM=>
      rintro⟨r,out,ia,ib,ac,bc⟩ st' ⟨e,S,m,o,G,C,f⟩;dsimp only at e m o G C f;subst e;exact .none S m o G C ∅
    case Cz=>
      rintro y ⟨r,out,ia,ib,ac,bc⟩ st' _ hy ⟨e,S,m,o,G,C,f⟩;dsimp only at e m o G C f;subst e;dsimp only;refine qu ∅ ?_;refine qu ∅ ?_;refine HW hk S (kB.at _) (kA.at _) (λc=>?_) (λc=>?_)
      · have m':=m.j6 (show ib<b.size by omega)
        have o':=o.j6 rb ra (show ib<b.size by omega) (λ_=>Lg c);refine oN ?_;refine qu ∅ ?_;refine kE (λz=>?_) (λz=>?_)
        · refine a5 ?_
          dsimp only;exact(LQ.some S m'.done (o'.uG P z))
        · refine iz (λ_=>?_) (λ_=>?_)
          · refine a5 ?_
            dsimp only;exact(LQ.none S m' o' ∅ ∅ ∅)
          · refine a5 ?_
            dsimp only;exact⟨rfl,LQ.none S m' o' ∅ ∅ ∅⟩
      · have m':=m.j4 (show ia<a.size by omega)
        have o':=o.j4 rb ra (show ia<a.size by omega) (λ_=>Z5 c);refine oZ ?_;refine qu ∅ ?_;refine kE (λz=>?_) (λz=>?_)
        · refine a5 ?_
          dsimp only;exact(LQ.some S m'.last (o'.BY P z ∅))
        · refine iz (λ_=>?_) (λ_=>?_)
          · refine a5 ?_
            dsimp only;exact(LQ.none S m' o' ∅ ∅ ∅)
          · refine a5 ?_
            dsimp only;exact⟨rfl,LQ.none S m' o' ∅ ∅ ∅⟩
    case GS=>
      rintro⟨r,out,ia,ib,ac,bc⟩ st' hL;cases r with
      |some z=>exact a5 ⟨hL.1,z,rfl,hL.2⟩
      | none =>
        obtain⟨S,m,o,G,C,f⟩:=hL;dsimp only at m o G C f;dsimp only;refine a0 (ma (eP ⟨rfl,?_⟩));refine a0 (e0 (cV (I:=λy c st'=>c.1=none/\LQ a b st (x+2) none c.2.1 c.2.2.1 c.2.2.2.1 st') (Q:=λc st'=>LQ a b st (x+2) c.1 c.2.1 c.2.2.1 c.2.2.2.1 st') ?Ew ?Cy ⟨rfl, .none S m o G C ∅⟩) ?DN)
        case Cy=>
          rintro⟨r,out,ia,ib,mn,ac,bc⟩ st' ⟨e,S,m,o,G,C,f⟩;dsimp only at e m o G C f;subst e;exact .none S m o G C ∅
        case Ew=>
          rintro y ⟨r,out,ia,ib,mn,ac,bc⟩ st' _ hy ⟨e,S,m,o,G,C,f⟩;dsimp only at e m o G C f;subst e;dsimp only;walk_at "os"
        case DN=>
          rintro⟨r,out,ia,ib,mn,ac,bc⟩ st' hL;cases r with
          |some z=>exact a5 ⟨hL.1,z,rfl,hL.2⟩
          | none =>
            obtain⟨S,m,o,G,C,f⟩:=hL;dsimp only at m o G C f;dsimp only;exact yR S λst' S'=>a5 ⟨rfl, .none S' m o G C ∅⟩
end
section
variable{prog:bg}{w:cq}{A:cx}{E:ag->ar->Prop}{s:ar}{st:bL}{a b out:Array ba}{i j k n:Nat}
theorem sJ{x:Nat}(h:x<a.size):kz a.reverse x=kz a (a.size-1-x):=by
 unfold kz;rw[Array.getElem?_reverse h]
structure Mu(a b:Array ba)(i j:Nat)(out:Array ba):Prop where
 dn:∀x y,x<=y->y<out.size->kz out y<=kz out x
 oa:∀x y,x<out.size->y<i->kz a y<=kz out x
 ob:∀x y,x<out.size->y<j->kz b y<=kz out x
theorem Mu.j6(h:Mu a b i (j+1) out)(hb:c8 b)(hj:j<b.size)(hc:∀y,y<i->kz a y<=kz b j):Mu a b i j (out.push b[j]):=by
 have e:kd b[j]=kz b j:=(eO hj).symm;refine⟨λx y d hy=>?_,λx y hx hy=>?_,λx y hx hy=>?_⟩<;>rw[ur] at*
 .rw[iM ∅,iM ∅,e];by_cases c1:y=out.size
  .rw[if_pos c1];by_cases c2:x=out.size;·rw[if_pos c2];omega
   .rw[if_neg c2];exact h.ob x j ∅ ∅
  .rw[if_neg c1,if_neg ∅];exact h.dn x y d ∅
 .rw[iM ∅,e];by_cases c2:x=out.size;·rw[if_pos c2];exact hc y hy
  .rw[if_neg c2];exact h.oa x y ∅ hy
 .rw[iM ∅,e];by_cases c2:x=out.size;·rw[if_pos c2];exact hb y j ∅ ∅ hj
  .rw[if_neg c2];exact h.ob x y ∅ ∅
theorem Mu.j4(h:Mu a b (i+1) j out)(ha:c8 a)(hi:i<a.size)(hc:∀y,y<j->kz b y<=kz a i):Mu a b i j (out.push a[i]):=by
 have e:kd a[i]=kz a i:=(eO hi).symm;refine⟨λx y d hy=>?_,λx y hx hy=>?_,λx y hx hy=>?_⟩<;>rw[ur] at*
 .rw[iM ∅,iM ∅,e];by_cases c1:y=out.size
  .rw[if_pos c1];by_cases c2:x=out.size;·rw[if_pos c2];omega
   .rw[if_neg c2];exact h.oa x i ∅ ∅
  .rw[if_neg c1,if_neg ∅];exact h.dn x y d ∅
 .rw[iM ∅,e];by_cases c2:x=out.size;·rw[if_pos c2];exact ha y i ∅ ∅ hi
  .rw[if_neg c2];exact h.oa x y ∅ ∅
 .rw[iM ∅,e];by_cases c2:x=out.size;·rw[if_pos c2];exact hc y hy
  .rw[if_neg c2];exact h.ob x y ∅ hy
theorem Mu.R9(h:Mu a b i j out)(ha:c8 a)(h1:1<=i)(hi:i-1<a.size)(hc:∀y,y<j->kz b y<=kz a (i-1)):Mu a b (i-1) j (out.push a[i-1]):=
 Mu.j4 (by rw[show i-1+1=i by omega];exact h) ha hi hc
theorem m6{x:Nat}(hi:i<=a.size)(hx:x<i-k):kz (a.extract k i).reverse x=kz a (i-1-x):=by
 have hs:(a.extract k i).size=i-k:=by rw[gn];omega
 rw[sJ ∅,eH hi ∅,hs]
 congr 1;omega
theorem Mu.oE(h:Mu a b i j out)(ha:c8 a)(hk:k<=i)(hi:i<=a.size)(hc:∀y,k<=y->y<i->∀x,x<j->kz b x<=kz a y):Mu a b k j (out++(a.extract k i).reverse):=by
 have hs:(a.extract k i).reverse.size=i-k:=by rw[vZ,gn];omega
 refine⟨λx y d hy=>?_,λx y hx hy=>?_,λx y hx hy=>?_⟩<;>rw[nF,hs] at*
 .rw[fu,fu];by_cases c1:y<out.size;·rw[if_pos c1,if_pos ∅];exact h.dn x y d c1
  .rw[if_neg c1,m6 hi ∅];by_cases c2:x<out.size;·rw[if_pos c2];exact h.oa x _ c2 ∅
   .rw[if_neg c2,m6 hi ∅];exact ha _ _ ∅ ∅ ∅
 .rw[fu];by_cases c2:x<out.size;·rw[if_pos c2];exact h.oa x y c2 ∅
  .rw[if_neg c2,m6 hi ∅];exact ha _ _ ∅ ∅ ∅
 .rw[fu];by_cases c2:x<out.size;·rw[if_pos c2];exact h.ob x y c2 hy
  .rw[if_neg c2,m6 hi ∅];exact hc _ ∅ ∅ y hy
theorem Mu.m5(h:Mu a b i j out)(hb:c8 b)(hk:k<=j)(hj:j<=b.size)(hc:∀y,k<=y->y<j->∀x,x<i->kz a x<=kz b y):Mu a b i k (out++(b.extract k j).reverse):=by
 have hs:(b.extract k j).reverse.size=j-k:=by rw[vZ,gn];omega
 refine⟨λx y d hy=>?_,λx y hx hy=>?_,λx y hx hy=>?_⟩<;>rw[nF,hs] at*
 .rw[fu,fu];by_cases c1:y<out.size;·rw[if_pos c1,if_pos ∅];exact h.dn x y d c1
  .rw[if_neg c1,m6 hj ∅];by_cases c2:x<out.size;·rw[if_pos c2];exact h.ob x _ c2 ∅
   .rw[if_neg c2,m6 hj ∅];exact hb _ _ ∅ ∅ ∅
 .rw[fu];by_cases c2:x<out.size;·rw[if_pos c2];exact h.oa x y c2 hy
  .rw[if_neg c2,m6 hj ∅];exact hc _ ∅ ∅ y hy
 .rw[fu];by_cases c2:x<out.size;·rw[if_pos c2];exact h.ob x y c2 ∅
  .rw[if_neg c2,m6 hj ∅];exact hb _ _ ∅ ∅ ∅
theorem Mu.xX(h:Mu a b i j out)(ha:c8 a)(hi:i<=a.size):c8 (a.extract 0 i++out.reverse):=λx y h0 d hy=>by
 have hs:(a.extract 0 i).size=i:=by rw[gn];omega
 rw[nF,vZ,hs] at hy;rw[fu,fu,hs];by_cases c1:y<i;·rw[if_pos c1,if_pos ∅,eH hi ∅,eH hi ∅];exact ha _ _ ∅ ∅ ∅
 .rw[if_neg c1,sJ (x:=y-i) ∅];by_cases c2:x<i;·rw[if_pos c2,eH hi ∅];exact h.oa (out.size-1-(y-i)) (0+x) ∅ ∅
  .rw[if_neg c2,sJ ∅];exact h.dn _ _ ∅ ∅
theorem Mu.wW(h:Mu a b i j out)(hb:c8 b)(hj:j<=b.size):c8 (b.extract 0 j++out.reverse):=λx y h0 d hy=>by
 have hs:(b.extract 0 j).size=j:=by rw[gn];omega
 rw[nF,vZ,hs] at hy;rw[fu,fu,hs];by_cases c1:y<j;·rw[if_pos c1,if_pos ∅,eH hj ∅,eH hj ∅];exact hb _ _ ∅ ∅ ∅
 .rw[if_neg c1,sJ (x:=y-j) ∅];by_cases c2:x<j;·rw[if_pos c2,eH hj ∅];exact h.ob (out.size-1-(y-j)) (0+x) ∅ ∅
  .rw[if_neg c2,sJ ∅];exact h.dn _ _ ∅ ∅
theorem Mu.xG(P:Mp a b)(h:Mu a b i j out)(hi:i=0)(hj:j<=b.size):c8 (a.extract 0 i++b.extract 0 j++out.reverse):=by
 have e:a.extract 0 i= #[]:=by rw[hi];simp
 rw[e,Array.empty_append];exact h.wW P.rb hj
theorem Mu.uG(P:Mp a b)(h:Mu a b i j out)(hj:j=0)(hi:i<=a.size):c8 (a.extract 0 i++b.extract 0 j++out.reverse):=by
 have e:b.extract 0 j= #[]:=by rw[hj];simp
 rw[e,ES];exact h.xX P.ra hi
theorem Mu.Mt(P:Mp a b)(h:Mu a b i j out)(hj:j=1)(b0:1<=b.size)(hi:i<=a.size):c8 (b.extract 0 j++a.extract 0 i++out.reverse):=by
 have h2:=h.oE (k:=0) P.ra (fj _) hi (λy _ h2 x hx=>by
  have e:x=0:=∅
  subst e;have h3:=P.hd;have h4:=P.ra 0 y ∅ ∅ ∅;omega)
 have h3:=h2.wW P.rb ∅;rwa[Array.reverse_append,Array.reverse_reverse,<-mu] at h3
def LR(a b:Array ba)(dz:bL)(B:Nat)(r:Option (Array ba))(out:Array ba)(ia ib:Nat)(st':bL):Prop:=
 fV dz st'/\(match r with|some z=>z.toList.Perm (a.toList++b.toList)/\c8 z|none=>Mh a b ia ib out/\Mu a b ia ib out/\1<=ia/\ia<=a.size/\2<=ib/\ib<=b.size/\B+ia+ib<=a.size+b.size)
variable{dz st':bL}{B ia ib:Nat}{z:Array ba}
theorem LR.some(S:fV dz st')(h:z.toList.Perm (a.toList++b.toList))(o:c8 z):LR a b dz B (some z) out ia ib st':=⟨S,h,o⟩
theorem LR.none(S:fV dz st')(m:Mh a b ia ib out)(o:Mu a b ia ib out)(h1:1<=ia/\ia<=a.size/\2<=ib/\ib<=b.size/\B+ia+ib<=a.size+b.size):LR a b dz B none out ia ib st':=⟨S,m,o,h1⟩
theorem hi_lt{x y:Array ba}{i j:Nat}{hi:i<x.size}{hj:j<y.size}(h:kd x[i]<kd y[j])(r:c8 x):∀z,z<i+1->kz x z<=kz y j:=λz hz=>by
 have:=r z i ∅ ∅ hi;rw[eO hi] at this;rw[eO hj];omega
theorem Ua{x y:Array ba}{i j:Nat}{hi:i<x.size}{hj:j<y.size}(h:kd x[i]<=kd y[j])(r:c8 x):∀z,z<i+1->kz x z<=kz y j:=λz hz=>by
 have:=r z i ∅ ∅ hi;rw[eO hi] at this;rw[eO hj];omega
theorem Rw{l:Bool}{x y:Array ba}{j k m:Nat}{hj:j<y.size}(h:∀z<k,cg l y[j] (kz x (0+z)))(hm:m<=k):∀z,z<m->kz x z<=kz y j:=λz hz=>by
 have:=h z ∅;unfold cg at this;rw[Bv] at this;rw[eO hj];cases l with
 |true=>rw[if_pos rfl] at this;omega
 |false=>rw[if_neg cO] at this;exact this
theorem RA{l:Bool}{x y:Array ba}{j k n:Nat}{hj:j<y.size}(h:∀z,k<=z->z<n->¬cg l y[j] (kz x (0+z)))(r:c8 y){m:Nat}(hm:m<=j+1):∀z,k<=z->z<n->∀u,u<m->kz y u<=kz x z:=λz h1 h2 u hu=>by
 have:=h z h1 h2;unfold cg at this;rw[Bv] at this;have h3:=r u j ∅ ∅ hj;rw[eO hj] at h3;cases l with
 |true=>rw[if_pos rfl] at this;omega
 |false=>rw[if_neg cO] at this;omega
local macro_rules| `(tactic|walk_at "pg")=> `(tactic|repeat (first|assumption|with_reducible refine Mh.j6 ?_ (by omega (config := {})) (by omega (config := {}))|with_reducible refine Mh.j4 ?_ (by omega (config := {})) (by omega (config := {}))|with_reducible refine Mh.D2 ?_ (by omega (config := {}))|with_reducible refine Mh.Si ?_ (by omega (config := {}))|with_reducible refine Mh.oE ?_ (by omega (config := {}))|with_reducible refine Mh.m5 ?_ (by omega (config := {}))))
local macro_rules| `(tactic|walk_at "po")=> `(tactic|repeat' (first
 |assumption
 |with_reducible refine Mu.R9 ?_ (by assumption) (by omega (config := {})) (by omega (config := {})) ?_
 |with_reducible refine Mu.j6 ?_ (by assumption) (by omega (config := {})) ?_
 |with_reducible refine Mu.j4 ?_ (by assumption) (by omega (config := {})) ?_
 |with_reducible refine Mu.oE ?_ (by assumption) (by omega (config := {})) (by omega (config := {})) ?_
 |with_reducible refine Mu.m5 ?_ (by assumption) (by omega (config := {})) (by omega (config := {})) ?_
 |exact hi_lt (by assumption) (by assumption)
 |exact Ua (by assumption) (by assumption)
 |exact Rw (by assumption) (by omega (config := {}))
 |exact RA (by assumption) (by assumption) (by omega (config := {}))))
local macro_rules| `(tactic|walk_at "pe")=> `(tactic|(dsimp only;first
 |exact LR.some (by assumption) (Mh.done (by walk_at "pg")) (Mu.xG (by assumption) (by walk_at "po") (by omega (config := {})) (by omega (config := {})))
 |exact LR.some (by assumption) (Mh.done (by walk_at "pg")) (Mu.uG (by assumption) (by walk_at "po") (by omega (config := {})) (by omega (config := {})))
 |exact LR.some (by assumption) (Mh.first (by walk_at "pg")) (Mu.Mt (by assumption) (by walk_at "po") (by omega (config := {})) (by omega (config := {})) (by omega (config := {})))
 |exact LR.none (by assumption) (by walk_at "pg") (by walk_at "po") (by omega (config := {}))
 |exact rz (by first|rfl|trivial) (LR.none (by assumption) (by walk_at "pg") (by walk_at "po") (by omega (config := {})))))
local macro_rules| `(tactic|walk_at "ps")=> `(tactic|repeat' (first
 |with_reducible refine a5 ?_
 |with_reducible refine oN ?_
 |with_reducible refine oZ ?_
 |with_reducible refine kE (λ_=>?_) (λ_=>?_)
 |with_reducible refine qu (by omega (config := {})) ?_
 |with_reducible refine HW (by assumption) (by assumption) (eW.at (by assumption) _) (eW.at (by assumption) _) (λ_=>?_) (λ_=>?_)
 |with_reducible refine Ku (by assumption) (by assumption) (eW.at (by assumption) _) (by assumption) (by omega (config := {})) (Ra.sub (by assumption) (fj _) (by omega (config := {}))) (by omega (config := {})) (λ_ _ _ _=>?_)
 |with_reducible refine yR (by assumption) (λ_ _=>?_)
 |with_reducible refine Oo ?_ ?_
 |with_reducible refine iz (λ_=>?_) (λ_=>?_)))
theorem XX{Q:Array ba->bL->Prop}(hk:kindOf st=hU)(P:Mp a b)(B:0<a.size)(b0:0<b.size)(h:∀r st',fV st st'->r.toList.Perm (a.toList++b.toList)->c8 r->Q r st'):wpS (be prog w) A E s (Ed a b) Q st:=by
  have ra':=P.ra;have rb':=P.rb;have ra:c8 a:=P.ra;have rb:c8 b:=P.rb;have kA:=P.kA;have kB:=P.kB;rw[Qw];refine a0 (ma (eP ⟨rfl,?_⟩));refine a0 (oj (i:=a.size-1) ∅ ?_);dsimp only;have R:Mh a b (a.size-1) b.size #[a[a.size-1]]:=by
    unfold Mh;rw[EA (l:=a.toList) (i:=a.size-1) (by simp;omega),C2 (l:=a.toList) (by simp;omega),C2 (l:=b.toList) (by simp)];simp
  have n:Mu a b (a.size-1) b.size #[a[a.size-1]]:=by
    have:=Mu.j4 (a:=a) (b:=b) (i:=a.size-1) (j:=b.size) (out:= #[]) ⟨λ_ _ _ h=>by simp at h,λ_ _ h=>by simp at h,λ_ _ h=>by simp at h⟩ ra ∅ (λy hy=>P.tl y hy);simpa using this
  refine kE (λc1=>a5 (h _ _ (.refl _) R.done (n.xG P c1 ∅))) (λc1=>?_);refine kE (λc2=>a5 (h _ _ (.refl _) R.first (n.Mt P c2 ∅ ∅))) (λc2=>?_);refine a0 (ik ?_);refine a0 (e0 (cV (I:=λx c st'=>c.1=none/\LR a b st (x+1) none c.2.2.2.1 c.2.1 c.2.2.1 st') (Q:=λc st'=>fV st st'/\∃z,c.1=some z/\z.toList.Perm (a.toList++b.toList)/\c8 z) ?step ?fin ⟨rfl, .none (.refl _) R n (by dsimp only;omega)⟩) ?post)
  case fin=>
    rintro c st' ⟨_,_,_,_,G,C,f,d,i5⟩;omega
  case post=>
    rintro c st' ⟨S,z,e,hz,oz⟩;rw[e];exact a5 (h z st' S hz oz)
  case step=>
    rintro x ⟨r,ia,ib,out,mn⟩ st' _ hx ⟨e,S,m,o,G,C,f,d,i5⟩;dsimp only at e m o G C f d i5;subst e;dsimp only;refine a0 (e0 (cV (I:=λy c st'=>c.1=none/\LR a b st (x+1+y) none c.2.2.2.1 c.2.1 c.2.2.1 st') (Q:=λc st'=>LR a b st (x+2) c.1 c.2.2.2.1 c.2.1 c.2.2.1 st') ?Cz ?CM ⟨rfl, .none S m o (by dsimp only;omega)⟩) ?GS)
    case CM=>
      rintro⟨r,ia,ib,out,ac,bc⟩ st' ⟨e,S,m,o,G,C,f,d,i5⟩;dsimp only at e m o G C f d i5;subst e;exact .none S m o (by dsimp only;omega)
    case Cz=>
      clear S m o G C f d i5 hx R n c1 c2;rintro y ⟨r,ia,ib,out,ac,bc⟩ st' _ hy ⟨e,S,m,o,G,C,f,d,i5⟩;dsimp only at e m o G C f d i5;subst e;dsimp only;obtain⟨p,rfl⟩:∃p,ia=p+1:=⟨ia-1,∅⟩;obtain⟨q,rfl⟩:∃q,ib=q+1+1:=⟨ib-2,∅⟩;simp only[m4];walk_at "ps";all_goals walk_at "pe"
    case GS=>
      rintro⟨r,ia,ib,out,ac,bc⟩ st' hL;cases r with
      |some z=>exact a5 ⟨hL.1,z,rfl,hL.2⟩
      | none =>
        obtain⟨S,m,o,G,C,f,d,i5⟩:=hL;dsimp only at m o G C f d i5;dsimp only;refine a0 (ma (eP ⟨rfl,?_⟩));refine a0 (e0 (cV (I:=λy c st'=>c.1=none/\LR a b st (x+2) none c.2.2.2.1 c.2.1 c.2.2.1 st') (Q:=λc st'=>LR a b st (x+2) c.1 c.2.2.2.1 c.2.1 c.2.2.1 st') ?Ew ?Cy ⟨rfl, .none S m o (by dsimp only;omega)⟩) ?DN)
        case Cy=>
          rintro⟨r,ia,ib,out,mn,ac,bc⟩ st' ⟨e,S,m,o,G,C,f,d,i5⟩;dsimp only at e m o G C f d i5;subst e;exact .none S m o (by dsimp only;omega)
        case Ew=>
          clear S m o G C f d i5 hx R n c1 c2;rintro y ⟨r,ia,ib,out,mn,ac,bc⟩ st' _ hy ⟨e,S,m,o,G,C,f,d,i5⟩;dsimp only at e m o G C f d i5;subst e;dsimp only;obtain⟨p,rfl⟩:∃p,ia=p+1:=⟨ia-1,∅⟩;obtain⟨q,rfl⟩:∃q,ib=q+1+1:=⟨ib-2,∅⟩;simp only[m4];walk_at "ps";all_goals walk_at "pe"
        case DN=>
          rintro⟨r,ia,ib,out,mn,ac,bc⟩ st' hL;cases r with
          |some z=>exact a5 ⟨hL.1,z,rfl,hL.2⟩
          | none =>
            obtain⟨S,m,o,G,C,f,d,i5⟩:=hL;dsimp only at m o G C f d i5;dsimp only;exact yR S λst' S'=>a5 ⟨rfl, .none S' m o (by dsimp only;omega)⟩
end
noncomputable def Gi(l:List ba)(i:Nat):Int:=match l[i]? with|some x=>kd x|none=>0
theorem Dc{a:Array ba}{i:Nat}:kz a i=Gi a.toList i:=by unfold kz Gi;rw[jj]<;>rfl
noncomputable def u9(arr:Array ba)(r:Array ba)(sa:Nat):Array ba:=r.toList.zipIdx.foldl (λ(a:Array ba) (pj:ba×Nat)=>a.setIfInBounds (sa+pj.2) pj.1) arr
theorem tZ{arr r:Array ba}{sa:Nat}(h:sa+r.size<=arr.size)(x:Nat):kz (u9 arr r sa) x=if x<sa then kz arr x else if x<sa+r.size then kz r (x-sa) else kz arr x:=by
 have e:=CU sa r.toList 0 arr (by rw[dI];omega);rw[Dc,Dc,Dc];unfold u9 Gi;rw[e,dI,sY,fS,Lv,ly,dI,Ea ∅];by_cases c1:x<sa;·rw[if_pos c1,if_pos c1,J3 c1]
 .rw[if_neg c1,if_neg c1,Lv,dI];by_cases c2:x<sa+r.size;·rw[if_pos ∅,if_pos c2]
  .rw[if_neg ∅,if_neg c2,List.getElem?_drop,show sa+r.size+(x-sa-r.size)=x by omega]
theorem Ch.lies:∀{l:List (Nat×Nat×Nat)} {x y:Nat},Ch l x y->∀v∈l,x<=v.1/\v.1+v.2.1<=y
  |[],x,y,h,v,hv=>nomatch hv
  | (s, n, p) :: l, x, y, ⟨a, b, c⟩, v, hv => by
    have h1:=c.le;rcases aK.mp hv with rfl|hv
    · exact⟨nU a.symm,by dsimp only;omega⟩
    · have:=Ch.lies c v hv
      omega
theorem Ch.apart{l:List (Nat×Nat×Nat)}{lo i:Nat}{sa na pw sb nb o:Nat}(h:Ch l 0 lo)(e1:l[i]?=some (sa,na,pw))(e2:l[i+1]?=some (sb,nb,o)):
  ∀v∈(l.set i (sa,na+nb,pw)).eraseIdx (i+1),v=(sa,na+nb,pw)\/(v∈l/\(v.1+v.2.1<=sa\/sb+nb<=v.1)):=by
 have hi:i<l.length:=(bT.mp e1).1;have b:i+1<l.length:=(bT.mp e2).1;have g1:=(bT.mp e1).2;have g2:=(bT.mp e2).2;have B:l=l.take i++(sa,na,pw)::(sb,nb,o)::l.drop (i+2):=by
  have:=(jX i l).symm;rwa[uT hi,uT b,g1,g2] at this
 have hl:(l.take i).length=i:=by rw[ly];omega
 generalize l.take i=A1 at*;generalize l.drop (i+2)=A2 at*;subst B;obtain⟨y,c1,a1,a2,g,m,c⟩:=Ch.append.mp h;have e:((A1++(sa,na,pw)::(sb,nb,o)::A2).set i (sa,na+nb,pw)).eraseIdx (i+1)=A1++(sa,na+nb,pw)::A2:=by
  rw[P8 _ _ ∅,hl,vT,m3,KG ∅,show i+1-A1.length=1 by omega]
  rfl
 rw[e];intro v hv;rcases iG.mp hv with hv|hv
 .have:=c1.lies v hv;exact .inr ⟨qC _ hv, .inl ∅⟩
 .rcases aK.mp hv with rfl|hv
  .exact .inl rfl
  .have:=c.lies v hv;exact .inr ⟨jB _ (cS _ (cS _ hv)), .inr ∅⟩
theorem ext_mem{arr:Array ba}{i j:Nat}{x:ba}(h:x∈(arr.extract i j).toList):∃y,i<=y/\y<j/\kz arr y=kd x:=by
 obtain⟨k,hk⟩:=oF h;rw[jj,O8] at hk;by_cases c:k<min j arr.size-i
 .rw[if_pos c] at hk;exact⟨i+k,∅,∅,by unfold kz;rw[hk]⟩
 .rw[if_neg c] at hk;cases hk
theorem P7{arr r:Array ba}{p q t:Nat}(h1:p<=q)(h2:q<=t)(hr:r.toList.Perm ((arr.extract p q).toList++(arr.extract q t).toList)){x:Nat}(hx:x<r.size):∃y,p<=y/\y<t/\kz r x=kz arr y:=by
 have hm:r[x]∈r.toList:=by simp
 rcases iG.mp (hr.mem_iff.mp hm) with h|h
 .obtain⟨y,n,d,e⟩:=ext_mem h;exact⟨y,n,∅,by rw[eO hx,e]⟩
 .obtain⟨y,n,d,e⟩:=ext_mem h;exact⟨y,∅,d,by rw[eO hx,e]⟩
theorem Iw{arr r:Array ba}{sa sb na nb k k2:Nat}(hs:sb=sa+na)(hk:k<na)(h2:0<k2)(h3:k2<=nb)(hz:sb+nb<=arr.size)(m:Ra arr sa (sa+na))(l:Ra arr sb (sb+nb))
  (g1:∀x<k,kz arr (sa+x)<=kz arr sb) (g2:∀x,k2<=x->x<nb->kz arr (sb-1)<=kz arr (sb+x)) (hr:r.toList.Perm ((arr.extract (sa+k) sb).toList++(arr.extract sb (sb+k2)).toList)) (ru:c8 r):
  r.size=sb+k2-(sa+k)/\Ra (u9 arr r (sa+k)) sa (sa+(na+nb)):=by
 have hl:r.size=sb+k2-(sa+k):=by
  have:=hr.length_eq;rw[cK,dI,dI,dI,gn,gn] at this;omega
 refine⟨hl,λi j hi hij hj=>?_⟩;rw[tZ ∅,tZ ∅];by_cases G:i<sa+k
 .rw[if_pos G];have gi:=g1 (i-sa) ∅;rw[show sa+(i-sa)=i by omega] at gi;by_cases f:j<sa+k;·rw[if_pos f];exact m i j hi hij ∅
  .rw[if_neg f];by_cases o:j<sa+k+r.size
   .rw[if_pos o];obtain⟨y,n,d,e⟩:=P7 ∅ ∅ hr (x:=j-(sa+k)) ∅;rw[e];by_cases c:y<sb;·exact m i y hi ∅ ∅
    .have:=l sb y ∅ ∅ ∅;omega
   .rw[if_neg o];have:=l sb j ∅ ∅ ∅;omega
 .rw[if_neg G,if_neg (show¬j<sa+k by omega)];by_cases C:i<sa+k+r.size
  .rw[if_pos C];by_cases o:j<sa+k+r.size;·rw[if_pos o];exact ru _ _ ∅ ∅ ∅
   .rw[if_neg o];obtain⟨y,n,d,e⟩:=P7 ∅ ∅ hr (x:=i-(sa+k)) ∅;rw[e];by_cases c:y<sb
    .have a1:=m y (sb-1) ∅ ∅ ∅;have a2:=g2 (j-sb) ∅ ∅;rw[show sb+(j-sb)=j by omega] at a2;omega
    .exact l y j ∅ ∅ ∅
  .rw[if_neg C,if_neg (show¬j<sa+k+r.size by omega)];exact l i j ∅ hij ∅
theorem Oe{arr:Array ba}{sa sb na nb k k2:Nat}(hA:eW arr)(hs:sb=sa+na)(hk:k<na)(h2:0<k2)(h3:k2<=nb)(hz:sb+nb<=arr.size)(m:Ra arr sa (sa+na))(l:Ra arr sb (sb+nb))
  (g1:kz arr sb<=kz arr (sa+k)) (g2:∀x<k2,kz arr (sb+x)<=kz arr (sb-1)):Mp (arr.extract (sa+k) sb) (arr.extract sb (sb+k2)):=by
 have s1:(arr.extract (sa+k) sb).size=sb-(sa+k):=by rw[gn];omega
 have s2:(arr.extract sb (sb+k2)).size=k2:=by rw[gn];omega
 refine⟨λi j h0 hij hj=>?_,λi j h0 hij hj=>?_,hA.ext _ _,hA.ext _ _,?_,λy hy=>?_⟩;·rw[eH ∅ ∅,eH ∅ ∅];exact m _ _ ∅ ∅ ∅
 .rw[eH ∅ ∅,eH ∅ ∅];exact l _ _ ∅ ∅ ∅
 .rw[eH ∅ ∅,eH ∅ ∅];exact g1
 .rw[eH ∅ ∅,eH ∅ ∅,s1,show sa+k+(sb-(sa+k)-1)=sb-1 by omega];exact g2 y ∅
def RU(st:bL):Prop:=∀v∈(pendingOf st).toList,Ra (cc st) v.1 (v.1+v.2.1)
theorem NS{key:ba}{v:Int}:cg false key v↔v<=kd key:=by unfold cg;rw[if_neg cO]
theorem LM{key:ba}{v:Int}:cg true key v↔v<kd key:=by unfold cg;rw[if_pos rfl]
theorem wJ{a:Array ba}{i j:Nat}{h:i<a.size}(e:i=j):kd a[i]=kz a j:=by subst e;exact(eO h).symm
section
variable{prog:bg}{w:cq}{A:cx}{E:ag->ar->Prop}{s:ar}{st:bL}{a₀:Array ba}{lo:Nat}
theorem Eh{i:Nat}{Q:Bool->bL->Prop}(hA:eW a₀)(hI:SI a₀ lo st)(g:RU st)(X:lo<=a₀.size)(hi:i+1<(pendingOf st).size)(h:∀st',SI a₀ lo st'->RU st'->(∀x,lo<=x->kz (cc st') x=kz (cc st) x)->(pendingOf st').size+1=(pendingOf st).size->Q true st'):wpS (be prog w) A E s (mergeAt' i) Q st:=by
 rw[S1];refine a0 (ik ?_);obtain⟨⟨sa,na,pw⟩,e1⟩:∃v,(pendingOf st)[i]?=some v:=⟨_,getElem?_pos _ i ∅⟩;obtain⟨⟨sb,nb,o⟩,e2⟩:∃v,(pendingOf st)[i+1]?=some v:=⟨_,getElem?_pos _ (i+1) hi⟩;rw[e1,e2];dsimp only;have hs:=hI.size;have F:(pendingOf st).toList[i]?=some (sa,na,pw):=by rw[jj];exact e1
 have V:(pendingOf st).toList[i+1]?=some (sb,nb,o):=by rw[jj];exact e2
 obtain⟨b1,b2,b3,b4,b5⟩:=hI.ch.two F V;have hap:=hI.ch.apart F V;have m:Ra (cc st) sa (sa+na):=g _ (fQ F);have l:Ra (cc st) sb (sb+nb):=g _ (fQ V);have nR:=hA.perm hI.perm;refine a0 (VG ?_);have hp2:(((pendingOf st).setIfInBounds i (sa,na+nb,pw)).eraseIdxIfInBounds (i+1)).toList=((pendingOf st).toList.set i (sa,na+nb,pw)).eraseIdx (i+1):=by
  rw[Array.toList_eraseIdxIfInBounds,Nq]
 have hsz:(((pendingOf st).setIfInBounds i (sa,na+nb,pw)).eraseIdxIfInBounds (i+1)).size+1=(pendingOf st).size:=by
  rw[<-dI,hp2,Dw (by rw[jd];simpa using hi),jd,dI];omega
 have I2:SI a₀ lo (kk st (((pendingOf st).setIfInBounds i (sa,na+nb,pw)).eraseIdxIfInBounds (i+1))):=⟨hI.perm,hI.kind,hI.failed,by show Ch (((pendingOf st).setIfInBounds i (sa,na+nb,pw)).eraseIdxIfInBounds (i+1)).toList 0 lo;rw[hp2];exact b5⟩;have G:Ra (cc st) sa (sa+(na+nb))->RU (kk st (((pendingOf st).setIfInBounds i (sa,na+nb,pw)).eraseIdxIfInBounds (i+1))):=λhr v hv=>by
  have b:v∈((pendingOf st).toList.set i (sa,na+nb,pw)).eraseIdx (i+1):=by rw[<-hp2];exact hv
  show Ra (cc st) v.1 (v.1+v.2.1);rcases hap v b with rfl|⟨hm,_⟩
  .exact hr
  .exact g v hm
 refine a0 (oj ∅ ?_);refine a0 (Bk I2.kind (nR.at _) nR ∅ m ∅ λk hk g1 sM=>?_);have D:∀x<k,kz (cc st) (sa+x)<=kz (cc st) sb:=λx hx=>by have:=NS.mp (g1 x hx);rwa[wJ rfl] at this
 have I:∀x,k<=x->x<na->kz (cc st) sb<=kz (cc st) (sa+x):=λx h1 h2=>vW (Int.not_le.mp λz=>sM x h1 h2 (NS.mpr (by rw[wJ rfl];exact z)));dsimp only;refine kE (λc=>a5 (h _ I2 (G λx y hx d hy=>?_) (λ_ _=>rfl) hsz)) (λc=>?_)
 .by_cases n:y<sa+na;·exact m x y hx d n
  .by_cases x1:x<sa+na
   .have a1:=D (x-sa) ∅;rw[show sa+(x-sa)=x by omega] at a1;have a2:=l sb y ∅ ∅ ∅;omega
   .exact l x y ∅ d ∅
 refine a0 (oj ∅ ?_);refine a0 (Bk I2.kind (nR.at _) nR ∅ l ∅ λk2 f g2 B=>?_);have H:∀x<k2,kz (cc st) (sb+x)<=kz (cc st) (sb-1):=λx hx=>by have:=LM.mp (g2 x hx);rw[wJ (j:=sb-1) ∅] at this;omega
 have C:∀x,k2<=x->x<nb->kz (cc st) (sb-1)<=kz (cc st) (sb+x):=λx h1 h2=>Int.not_lt.mp λz=>B x h1 h2 (LM.mpr (by rw[wJ (j:=sb-1) ∅];exact z));dsimp only;refine kE (λc=>a5 (h _ I2 (G λx y hx d hy=>?_) (λ_ _=>rfl) hsz)) (λc2=>?_)
 .by_cases n:y<sa+na;·exact m x y hx d n
  .by_cases x1:x<sa+na
   .have a1:=m x (sb-1) ∅ ∅ ∅;have a2:=C (y-sb) ∅ ∅;rw[show sb+(y-sb)=y by omega] at a2;omega
   .exact l x y ∅ d ∅
 have fin:∀(r:Array ba) (st':bL),fV (kk st (((pendingOf st).setIfInBounds i (sa,na+nb,pw)).eraseIdxIfInBounds (i+1))) st'->r.toList.Perm (((cc st).extract (sa+k) sb).toList++((cc st).extract sb (sb+k2)).toList)->c8 r->
   wpS (be prog w) A E s (do modify λs=>setArr s (r.toList.zipIdx.foldl (λa (p,j)=>a.setIfInBounds (sa+k+j) p) (cc s));return (hR (<-get)).isNone) Q st':=λr st' S hr ru=>by
  obtain⟨J,O,Y,u⟩:=S;refine a0 (fx (a0 (ik (a5 ?_))));have hf:hR st'=none:=u.trans hI.failed;show Q (hR st').isNone _;rw[hf];have e:cc st'=cc st:=O;refine h _ ⟨?_,J.trans hI.kind,u.trans hI.failed,?_⟩ ?_ ?_ ?_
  .show(r.toList.zipIdx.foldl (λ(a:Array ba) (pj:ba×Nat)=>a.setIfInBounds (sa+k+pj.2) pj.1) (cc st')).toList.Perm a₀.toList;rw[e];exact(Hf ∅ ∅ hr).trans hI.perm
  .show Ch (pendingOf st').toList 0 lo;rw[Y];exact I2.ch
  .obtain⟨hl,q⟩:=Iw b1 ∅ ∅ f ∅ m l D C hr ru;intro v hv;have t:v∈(pendingOf st').toList:=hv;rw[Y] at t;have b:v∈((pendingOf st).toList.set i (sa,na+nb,pw)).eraseIdx (i+1):=by rw[<-hp2];exact t
   show Ra (u9 (cc st') r (sa+k)) v.1 (v.1+v.2.1);rw[e];rcases hap v b with rfl|⟨hm,hd⟩
   .exact q
   .intro x y hx d hy;rw[tZ ∅,tZ ∅];have:=g v hm x y hx d hy;rcases hd with hd|hd
    .rw[if_pos ∅,if_pos ∅];exact this
    .rw[if_neg ∅,if_neg ∅,if_neg ∅,if_neg ∅];exact this
  .obtain⟨hl,q⟩:=Iw b1 ∅ ∅ f ∅ m l D C hr ru;intro x hx;show kz (u9 (cc st') r (sa+k)) x=_;rw[e,tZ ∅,if_neg ∅,if_neg ∅]
  .show(pendingOf st').size+1=_;rw[Y];exact hsz
 have hmp:=Oe nR b1 (show k<na by omega) (show 0<k2 by omega) f ∅ m l (I k (aH _) ∅) H;refine iz (λT=>a0 ?_) (λT=>a0 ?_);·exact Q5 I2.kind hmp (by rw[gn];omega) (by rw[gn];omega) fin
 .exact XX I2.kind hmp (by rw[gn];omega) (by rw[gn];omega) fin
end
theorem LS{a:Array ba}{i j:Nat}(hj:j<=a.size)(x:Nat):kz (mirror a i j ((j-i)/2)) x=if i<=x/\x<j then kz a (i+j-1-x) else kz a x:=by
 unfold kz;rw[getElem?_mirror hj _ ∅];by_cases c:i<=x/\x<j
 .rw[if_pos c];by_cases c2:(i<=x/\x<i+(j-i)/2)\/(j-(j-i)/2<=x/\x<j);·rw[if_pos c2]
  .rw[if_neg c2,show i+j-1-x=x by omega]
 .rw[if_neg c,if_neg ∅]
theorem Uz{a:Array ba}{b d:Nat}(hs:b<a.size)(hd:d<=b)(x:Nat):kz (y1 a b d) x=if x=b-d then kz a b else if b-d<x/\x<=b then kz a (x-1) else kz a x:=by
 unfold kz;rw[getElem?_bubble hs d hd];by_cases c:x=b-d;·rw[if_pos c,if_pos c]
 .rw[if_neg c,if_neg c];by_cases c2:b-d<x/\x<=b;·rw[if_pos c2,if_pos c2]
  .rw[if_neg c2,if_neg c2]
section
variable{prog:bg}{w:cq}{A:cx}{E:ag->ar->Prop}{s:ar}{st:bL}{a₀:Array ba}{lo:Nat}
theorem um{i j:Nat}{α:Type}{f:Option Bool->StateT bL Sem α}{Q:α->bL->Prop}(hA:eW a₀)(hI:SI a₀ lo st)(hi:i<a₀.size)(hj:j<a₀.size)(h1:kz (cc st) i<kz (cc st) j->wpS (be prog w) A E s (f (some true)) Q st)(h2:kz (cc st) j<=kz (cc st) i->wpS (be prog w) A E s (f (some false)) Q st):wpS (be prog w) A E s (ltAt' i j>>=f) Q st:=by
 have hs:=hI.size;have nR:=hA.perm hI.perm;refine a0 ?_;rw[ltAt'_eq];refine a0 (ik ?_);refine a0 (oj ∅ (a0 (oj ∅ ?_)));rw[eO ∅,eO ∅] at h1 h2;exact vK hI.kind (nR.at _) (nR.at _) h1 h2
structure Kq(a₀:Array ba)(lo at_:Nat)(st st':bL):Prop where
 si:SI a₀ lo st'
 pd:pendingOf st'=pendingOf st
 sm:∀x<at_,kz (cc st') x=kz (cc st) x
theorem Kq.refl{at_:Nat}(h:SI a₀ lo st):Kq a₀ lo at_ st st:=⟨h,rfl,λ_ _=>rfl⟩
theorem sU{at_ i j:Nat}{st1:bL}{α:Type}{f:Unit->StateT bL Sem α}{Q:α->bL->Prop}(c:Kq a₀ lo at_ st st1)(hi:at_<=i)(hj:j<=a₀.size)(h:∀st',Kq a₀ lo at_ st st'->(∀x,kz (cc st') x=if i<=x/\x<j then kz (cc st1) (i+j-1-x) else kz (cc st1) x)->wpS (be prog w) A E s (f ()) Q st'):wpS (be prog w) A E s (reverseSlice' i j>>=f) Q st1:=by
 have hs:=c.si.size;refine a0 ?_;rw[reverseSlice'_eq];refine fx (h _ ⟨c.si.arr (mirror_perm _ _ _ _),c.pd,λx hx=>?_⟩ λx=>LS ∅ x);show kz (mirror (cc st1) i j ((j-i)/2)) x=_;rw[LS ∅,if_neg ∅];exact c.sm x hx
theorem EZ{at_ a e:Nat}{α:Type}{Q:Option (Option α)×Nat->bL->Prop}(hA:eW a₀)(hI:SI a₀ lo st)(hn:at_+e<=a₀.size)(ha:1<=a)(f:a<=e)(g:Ra (cc st) at_ (at_+a))(h:∀n,a<=n->n<=e->Ra (cc st) at_ (at_+n)->(n<e->kz (cc st) (at_+n)<kz (cc st) (at_+n-1))->Q (none,n) st):
  wpS (be prog w) A E s (forIn [a:e] ((none,a):Option (Option α)×Nat) λ_ __s=>do
   let __x<-ltAt' (at_+__s.snd) (at_+__s.snd-1)
   match __x with
   |some d=>if d=true then pure (i0 (none,__s.snd)) else pure (dc (none,__s.snd+1))
   |_=>pure (i0 (some none,__s.snd))) Q st:=by
 refine cV (I:=λx c st'=>st'=st/\c=(none,x)/\Ra (cc st) at_ (at_+x)) ?_ ?_ ⟨rfl,rfl,g⟩
 .rintro x c st' hax hxn ⟨rfl,rfl,hr⟩;dsimp only;refine um hA hI ∅ ∅ (λb=>?_) (λb=>?_);·exact oN (a5 (h x hax ∅ hr λ_=>b))
  .refine oZ (a5 ⟨rfl,rfl,λi j h1 h2 h3=>?_⟩);by_cases c:j<at_+x;·exact hr i j h1 h2 c
   .rw[show j=at_+x by omega];by_cases c2:i<at_+x
    .have:=hr i (at_+x-1) h1 ∅ ∅;omega
    .rw[show i=at_+x by omega];omega
 .rintro c st' ⟨rfl,rfl,hr⟩;rw[show max a e=e by omega] at hr⊢;exact h e f (aH _) hr λz=>absurd z ∅
def Fe(a:Array ba)(lo hi q:Nat):Prop:=(∀i j,lo<=i->i<=j->j<hi->kz a j<=kz a i)/\lo+q+1<=hi/\∀x,hi-(q+1)<=x->x<hi->kz a x=kz a (hi-1)
theorem Fe.rev{a N:Array ba}{lo hi q:Nat}(h:Fe a lo hi q)(e:∀x,kz N x=if hi-(q+1)<=x/\x<hi then kz a (hi-(q+1)+hi-1-x) else kz a x):∀x,kz N x=kz a x:=λx=>by
 rw[e x];obtain⟨h1,h2,h3⟩:=h;by_cases c:hi-(q+1)<=x/\x<hi;·rw[if_pos c,h3 x c.1 c.2];exact h3 _ ∅ ∅
 .rw[if_neg c]
theorem Fe.same{a N:Array ba}{lo hi q:Nat}(h:Fe a lo hi q)(e:∀x,kz N x=kz a x):Fe N lo hi q:=⟨λi j a b c=>by rw[e,e];exact h.1 i j a b c,h.2.1,λx a b=>by rw[e,e];exact h.2.2 x a b⟩
theorem Fe.less{a:Array ba}{lo hi q:Nat}(h:Fe a lo hi q)(c:kz a hi<kz a (hi-1)):Fe a lo (hi+1) 0:=by
 obtain⟨h1,h2,h3⟩:=h;refine⟨λi j a1 a2 g=>?_,∅,λx a1 a2=>by rw[show x=hi+1-1 by omega]⟩;by_cases c1:j<hi;·exact h1 i j a1 a2 c1
 .rw[show j=hi by omega];by_cases c2:i<hi;·have:=h1 i (hi-1) a1 ∅ ∅;omega
  .rw[show i=hi by omega];omega
theorem Fe.Zr{a:Array ba}{lo hi q:Nat}(h:Fe a lo hi q)(c1:kz a (hi-1)<=kz a hi)(c2:kz a hi<=kz a (hi-1)):Fe a lo (hi+1) (q+1):=by
 obtain⟨h1,h2,h3⟩:=h;refine⟨λi j a1 a2 g=>?_,∅,λx a1 a2=>?_⟩
 .by_cases c1:j<hi;·exact h1 i j a1 a2 c1
  .rw[show j=hi by omega];by_cases c2:i<hi;·have:=h1 i (hi-1) a1 ∅ ∅;omega
   .rw[show i=hi by omega];omega
 .rw[show hi+1-1=hi by omega];by_cases c:x<hi;·rw[h3 x ∅ c];omega
  .rw[show x=hi by omega]
theorem Fe.up{a N:Array ba}{lo hi q:Nat}(h:Fe a lo hi q)(e:∀x,kz N x=if lo<=x/\x<hi then kz a (lo+hi-1-x) else kz a x):Ra N lo hi:=λi j h1 h2 h3=>by
 rw[e,e,if_pos ∅,if_pos ∅];exact h.1 _ _ ∅ ∅ ∅
theorem Vd{at_ e:Nat}{Q:Option Nat->bL->Prop}(hA:eW a₀)(hI:SI a₀ lo st)(hn:at_+e<=a₀.size)(h1:1<=e)(h:∀m st',Kq a₀ lo at_ st st'->1<=m->m<=e->Ra (cc st') at_ (at_+m)->Q (some m) st'):wpS (be prog w) A E s (countRun' at_ e) Q st:=by
 rw[countRun'_eq];have g:Kq a₀ lo at_ st st:= .refl hI;refine a0 (EZ hA hI hn (aH 1) h1 (λi j a b c=>by rw[show i=j by omega];omega) λn n1 n2 hr hlt=>?_);dsimp only;refine kE (λc=>a5 (h n st g n1 n2 hr)) (λc=>?_);have hlt:=hlt ∅;refine iz (λc2=>um hA hI ∅ ∅ (λb=>oN (a5 (h n st g n1 n2 hr))) λb=>oZ (sU g (aH _) ∅ λst1 K1 e1=>?_)) (λc2=>?_)
 rotate_left
 have K1:=g;have f:Fe (cc st) at_ (at_+(n+1)) 0:=by
  refine Fe.less (hi:=at_+n) (q:=0) ⟨λi j a b c=>by rw[show i=j by omega];omega,∅,λx a b=>by rw[show x=at_+n-1 by omega]⟩ hlt
 rotate_left
 have f:Fe (cc st1) at_ (at_+(n+1)) 0:=by
  have p:∀i j,at_<=i->i<at_+n->at_<=j->j<at_+n->kz (cc st) i=kz (cc st) j:=λi j a b c d=>by
   have x1:=hr at_ i (aH _) a b;have x2:=hr at_ j (aH _) c d;have x3:=hr i (at_+n-1) a ∅ ∅;have x4:=hr j (at_+n-1) c ∅ ∅;omega
  have B:∀x,kz (cc st1) x=kz (cc st) x:=λx=>by
   rw[e1 x];by_cases c:at_<=x/\x<at_+n;·rw[if_pos c];exact p _ _ ∅ ∅ ∅ ∅
   .rw[if_neg c]
  refine Fe.less (hi:=at_+n) (q:=0) ⟨λi j a b c=>?_,∅,λx a b=>by rw[show x=at_+n-1 by omega]⟩ (by rw[B,B];exact hlt);rw[B,B,p i j a ∅ ∅ c];omega
 all_goals
  refine a0 (ma (eP ⟨rfl,?_⟩));refine a0 (e0 (cV (I:=λx c st'=>Kq a₀ lo at_ st st'/\∃q,c=(none,x,q)/\Fe (cc st') at_ (at_+x) q) (Q:=λc st'=>Kq a₀ lo at_ st st'/\∃x q,c=(none,x,q)/\1<=x/\x<=e/\Fe (cc st') at_ (at_+x) q) ?st ?fi ⟨K1,0,rfl,f⟩) ?po)
  case st=>
   rintro x c st' nE hx2 ⟨K2,q,rfl,F2⟩;dsimp only;refine um hA K2.si ∅ ∅ (λb=>oN ?_) (λb=>oZ ?_)
   .refine iz (λ_=>?_) (λ_=>?_)
    .refine sU K2 (by have:=F2.2.1;omega) ∅ λst3 o e3=>a5 ⟨o,0,rfl,?_⟩;have e4:=F2.rev e3;exact(F2.same e4).less (by rw[e4,e4];exact b)
    .exact a5 ⟨K2,0,rfl,F2.less b⟩
   .refine um hA K2.si ∅ ∅ (λb2=>oN ?_) (λb2=>oZ ?_);·exact a5 ⟨K2,x,q,rfl,∅,∅,F2⟩
    .exact a5 ⟨K2,q+1,rfl,F2.Zr b b2⟩
  case fi=>
   rintro c st' ⟨K2,q,rfl,F2⟩;exact⟨K2,_,q,rfl,∅,∅,F2⟩
  case po=>
   rintro c st' ⟨K2,x,q,rfl,x1,x2,F2⟩;dsimp only;refine iz (λ_=>?_) (λ_=>?_);·refine sU K2 (by have:=F2.2.1;omega) ∅ λst3 o e3=>sU o (aH _) ∅ λl k e4=>a0 (EZ hA k.si hn x1 x2 ((F2.same (F2.rev e3)).up e4) λm m1 m2 hm _=>a5 (h m l k ∅ m2 hm))
   .refine sU K2 (aH _) ∅ λl k e4=>a0 (EZ hA k.si hn x1 x2 (F2.up e4) λm m1 m2 hm _=>a5 (h m l k ∅ m2 hm))
end
theorem Ch.len:∀{l:List (Nat×Nat×Nat)} {x y:Nat},Ch l x y->l.length+x<=y
 |[],x,y,h=>by rw[BK];exact nU (by rw[Bv];exact h)
 |(s,n,p)::l,x,y,⟨a,b,c⟩=>by have:=Ch.len c;rw[eB];omega
section
variable{prog:bg}{w:cq}{A:cx}{E:ag->ar->Prop}{s:ar}{st st':bL}{a₀:Array ba}{lo:Nat}
theorem Kq.ru(K:Kq a₀ lo lo st st')(hI:SI a₀ lo st)(g:RU st):RU st':=λv hv=>by
 rw[K.pd] at hv;have h1:=hI.ch.lies v hv;intro x y hx hxy hy;rw[K.sm x ∅,K.sm y ∅];exact g v hv x y hx hxy hy
theorem RU.push{l n z:Nat}(g:RU st)(hm:Ra (cc st) l (l+n)):RU (kk st ((pendingOf st).push (l,n,z))):=λv hv=>by
 have b:v∈((pendingOf st).push (l,n,z)).toList:=hv;rw[kL] at b;show Ra (cc st) v.1 (v.1+v.2.1);rcases iG.mp b with h|h
 .exact g v h
 .rw[br.mp h];exact hm
theorem RU.pw{i:Nat}(g:RU st)(pw:Nat):RU (kk st ((pendingOf st).modify i λx=>(x.1,x.2.1,pw))):=λv hv=>by
  have b:v∈((pendingOf st).modify i λx=>(x.1,x.2.1,pw)).toList:=hv;rw[Bu] at b;show Ra (cc st) v.1 (v.1+v.2.1);obtain⟨k,hk⟩:=oF b;rw[List.getElem?_modify] at hk;cases e:(pendingOf st).toList[k]? with
  |none=>rw[e] at hk;cases hk
  | some u =>
    rw[e] at hk;have hu:=g u (fQ e);simp only[Option.map_eq_map,qx,y7] at hk;by_cases c:i=k;· rw[if_pos c] at hk;rw[<-hk];exact hu
    · rw[if_neg c] at hk;rw[<-hk];exact hu
theorem RU.all(g:RU st)(hc:Ch (pendingOf st).toList 0 lo)(h1:(pendingOf st).size<=1):Ra (cc st) 0 lo:=by
  rw[<-dI] at h1;unfold RU at g;cases e:(pendingOf st).toList with
  | nil =>
    rw[e] at hc;have:0=lo:=hc;intro i j _ _ h;omega
  | cons v r =>
    obtain⟨p,n,z⟩:=v;rw[e] at h1 hc g;have d:r=[]:=by cases r with|nil=>rfl|cons _ _=>simp at h1
    subst d;obtain⟨a,b,c⟩:=hc;have c':0+n=lo:=c;have:=g (p,n,z) (dj ..);dsimp only at this;rwa[a,c'] at this
theorem Ha{at_ n ok:Nat}{Q:Bool->bL->Prop}(hA:eW a₀)(hI:SI a₀ lo st)(hn:at_+n<=a₀.size)(t:1<=ok)(e:ok<=n)(g:Ra (cc st) at_ (at_+ok))(h:∀st',Kq a₀ lo at_ st st'->Ra (cc st') at_ (at_+n)->Q true st'):wpS (be prog w) A E s (binarySort' at_ n ok) Q st:=by
 rw[binarySort'_eq,show max ok 1=ok by omega];refine a0 (e0 (cV (I:=λk c st'=>c=(none,())/\Kq a₀ lo at_ st st'/\Ra (cc st') at_ (at_+k)) (Q:=λc st'=>c=(none,())/\Kq a₀ lo at_ st st'/\Ra (cc st') at_ (at_+n)) ?step ?fin ⟨rfl, .refl hI,g⟩) ?post)
 case fin=>
  rintro c st' ⟨rfl,K2,r2⟩;rw[show max ok n=n by omega] at r2;exact⟨rfl,K2,r2⟩
 case post=>
  rintro c st' ⟨rfl,K2,r2⟩;exact a5 (h st' K2 r2)
 case step=>
  rintro k c st' hk1 hk2 ⟨rfl,K2,r2⟩;have hs:=K2.si.size;refine a0 (e0 (cV (I:=λx c d=>d=st'/\∃l r,c=(none,l,r)/\r<=k/\l<=r/\r-l+x<=k/\(∀y<l,kz (cc st') (at_+y)<=kz (cc st') (at_+k))/\∀y,r<=y->y<k->kz (cc st') (at_+k)<=kz (cc st') (at_+y)) (Q:=λc d=>d=st'/\∃l r,c=(none,l,r)/\l<=k/\(∀y<l,kz (cc st') (at_+y)<=kz (cc st') (at_+k))/\∀y,l<=y->y<k->kz (cc st') (at_+k)<=kz (cc st') (at_+y)) ?is ?fi ⟨rfl,0,k,rfl,aH _,fj _,∅,λy hy=>absurd hy ∅,λy a b=>absurd b ∅⟩) ?ip)
  case fi=>
   rintro c d ⟨rfl,l,r,rfl,hr,hlr,hx,q1,q2⟩;exact⟨rfl,l,r,rfl,∅,q1,λy a b=>q2 y ∅ b⟩
  case is=>
   rintro x c d _ hx ⟨rfl,l,r,rfl,hr,hlr,hz,q1,q2⟩;dsimp only;refine iz (λc1=>a5 ⟨rfl,l,r,rfl,∅,q1,λy a b=>q2 y ∅ b⟩) (λc1=>?_);refine um hA K2.si ∅ ∅ (λb=>oN ?_) (λb=>oZ ?_)
   .refine a5 ⟨rfl,_,_,rfl,∅,∅,∅,q1,λy a1 a2=>?_⟩;have:=r2 (at_+(l+r)/2) (at_+y) ∅ ∅ ∅;omega
   .refine a5 ⟨rfl,_,_,rfl,hr,∅,∅,λy a1=>?_,q2⟩;have:=r2 (at_+y) (at_+(l+r)/2) ∅ ∅ ∅;omega
  case ip=>
   rintro c d ⟨rfl,l,r,rfl,hr,q1,q2⟩;show wpS _ _ _ _ (do moveDown' (at_+k) (at_+l);pure (dc (none,()))) _ _;rw[moveDown'_eq];have eb:∀x,kz (y1 (cc d) (at_+k) (at_+k-(at_+l))) x=if x=at_+l then kz (cc d) (at_+k) else if at_+l<x/\x<=at_+k then kz (cc d) (x-1) else kz (cc d) x:=λx=>by
    rw[Uz ∅ ∅,show at_+k-(at_+k-(at_+l))=at_+l by omega]
   refine a0 (fx (a5 ⟨rfl,⟨K2.si.arr (bubble_perm _ _ _),K2.pd,λx hx=>?_⟩,λi j h1 h2 h3=>?_⟩))
   .show kz (y1 (cc d) (at_+k) (at_+k-(at_+l))) x=_;rw[eb,if_neg ∅,if_neg ∅];exact K2.sm x hx
   .show kz (y1 (cc d) (at_+k) (at_+k-(at_+l))) i<=kz (y1 (cc d) (at_+k) (at_+k-(at_+l))) j;rw[eb,eb];by_cases G:i=at_+l
    .rw[if_pos G];by_cases f:j=at_+l;·rw[if_pos f];omega
     .rw[if_neg f,if_pos ∅];have:=q2 (j-1-at_) ∅ ∅;rwa[show at_+(j-1-at_)=j-1 by omega] at this
    .rw[if_neg G];by_cases C:at_+l<i/\i<=at_+k
     .rw[if_pos C,if_neg (show¬j=at_+l by omega),if_pos (show at_+l<j/\j<=at_+k by omega)];exact r2 _ _ ∅ ∅ ∅
     .rw[if_neg C];by_cases f:j=at_+l
      .rw[if_pos f];have:=q1 (i-at_) ∅;rwa[show at_+(i-at_)=i by omega] at this
      .rw[if_neg f];by_cases o:at_+l<j/\j<=at_+k;·rw[if_pos o];exact r2 _ _ ∅ ∅ ∅
       .rw[if_neg o];exact r2 _ _ ∅ ∅ ∅
theorem G1{Q:Unit->bL->Prop}(hA:eW a₀)(hI:SI a₀ 0 st)(g:RU st)(h:∀st',(cc st').toList.Perm a₀.toList->Ra (cc st') 0 a₀.size->hR st'=none->Q () st'):wpS (be prog w) A E s sortRuns' Q st:=by
  rw[sortRuns'_eq];refine a0 (ik ?_);dsimp only;have hs:=hI.size;rw[hs];refine a0 (e0 (cV (I:=λx c st'=>∃l,c=(none,l)/\(SI a₀ l st'/\RU st')/\l<=a₀.size/\(x<=l\/l=a₀.size)) (Q:=λc st'=>c=(none,a₀.size)/\SI a₀ a₀.size st'/\RU st') ?step ?fin ⟨0,rfl,⟨hI,g⟩,∅, .inl (aH _)⟩) ?post)
  case fin=>
    rintro c st' ⟨l,rfl,I2,h1,h2⟩;have:l=a₀.size:=∅
    subst this;exact⟨rfl,I2.1,I2.2⟩
  case step=>
    rintro x c st' _ hx ⟨l,rfl,I2,h1,h2⟩;dsimp only;refine iz (λc1=>?_) (λc1=>?_)
    · have:l=a₀.size:=∅
      subst this;exact a5 ⟨rfl,I2.1,I2.2⟩
    refine a0 (Vd hA I2.1 ∅ ∅ λm st2 o m1 m2 hm=>?_);have I3:SI a₀ l st2/\RU st2:=⟨o.si,o.ru I2.1 I2.2⟩;dsimp only;refine iz (λc2=>a0 (ma (eP ⟨rfl,a0 (Ha (n:=min (a₀.size-l) (x5 a₀.size a₀.size 0)) hA I3.1 ∅ m1 ∅ hm λst3 k hm=>?_)⟩))) (λc2=>?_)
    · have I4:SI a₀ l st3/\RU st3:=⟨k.si,k.ru I3.1 I3.2⟩
      simp only[uC,lN,if_false];have n1:1<=min (a₀.size-l) (x5 a₀.size a₀.size 0):=∅
      have n2:min (a₀.size-l) (x5 a₀.size a₀.size 0)<=a₀.size-l:=∅
      generalize min (a₀.size-l) (x5 a₀.size a₀.size 0)=n at n1 n2 hm⊢;refine a0 (ik ?_);cases hb:(pendingOf st3).back? with
      | none =>
        dsimp only;refine a0 (fx (a5 ⟨l+n,rfl,⟨⟨I4.1.perm,I4.1.kind,I4.1.failed,?_⟩,I4.2.push hm⟩,∅,∅⟩));show Ch ((pendingOf st3).push (l,n,0)).toList 0 (l+n);rw[kL];exact Ch.append.mpr ⟨l,I4.1.ch,rfl,n1,rfl⟩
      | some v =>
        obtain⟨s1,k1,j⟩:=v;dsimp only;generalize power' a₀.size (2*s1+k1) (2*s1+k1+k1+n) a₀.size=pw;refine a0 (e0 (cV (I:=λy c st'=>c=(none,())/\SI a₀ l st'/\RU st'/\Ra (cc st') l (l+n)) (Q:=λc st'=>c=(none,())/\SI a₀ l st'/\RU st'/\Ra (cc st') l (l+n)) ?is (λc st' z=>z) ⟨rfl,I4.1,I4.2,hm⟩) ?ip)
        case is=>
          rintro y c d _ _ ⟨rfl,I5⟩;refine a0 (ik ?_);by_cases D:(pendingOf d).size>1
          · rw[if_pos D]
            obtain⟨⟨J,O,Y⟩,eq⟩:∃v,(pendingOf d)[(pendingOf d).size-2]?=some v:=⟨_,getElem?_pos _ _ ∅⟩;rw[eq];dsimp only;refine iz (λ_=>a5 ⟨rfl,I5⟩) (λ_=>?_);refine a0 (Eh hA I5.1 I5.2.1 h1 ∅ λi I6 b a _=>?_);simp only[uC,lN,if_false];exact a5 ⟨rfl,I6,b,λx y h1 h2 h3=>by rw[a x ∅,a y ∅];exact I5.2.2 x y h1 h2 h3⟩
          · rw[if_neg D];exact a5 ⟨rfl,I5⟩
        case ip=>
          rintro c d ⟨rfl,I5⟩;dsimp only;refine a0 (fx (a0 (fx (a5 ⟨l+n,rfl,⟨⟨I5.1.perm,I5.1.kind,I5.1.failed,?_⟩,(I5.2.1.pw pw).push I5.2.2⟩,∅,∅⟩))));show Ch (((pendingOf d).modify ((pendingOf d).size-1) λx=>(x.1,x.2.1,pw)).push (l,n,0)).toList 0 (l+n);rw[kL,Bu];exact Ch.append.mpr ⟨l,Ch.pw (f:=λx=>(x.1,x.2.1,pw)) (λv=>⟨rfl,rfl⟩) I5.1.ch,rfl,n1,rfl⟩
    · have I4:=I3
      have n1:=m1;have n2:=m2;generalize m=n at n1 n2 hm⊢;generalize st2=st3 at I4 hm⊢;refine a0 (ik ?_);cases hb:(pendingOf st3).back? with
      | none =>
        dsimp only;refine a0 (fx (a5 ⟨l+n,rfl,⟨⟨I4.1.perm,I4.1.kind,I4.1.failed,?_⟩,I4.2.push hm⟩,∅,∅⟩));show Ch ((pendingOf st3).push (l,n,0)).toList 0 (l+n);rw[kL];exact Ch.append.mpr ⟨l,I4.1.ch,rfl,n1,rfl⟩
      | some v =>
        obtain⟨s1,k1,j⟩:=v;dsimp only;generalize power' a₀.size (2*s1+k1) (2*s1+k1+k1+n) a₀.size=pw;refine a0 (e0 (cV (I:=λy c st'=>c=(none,())/\SI a₀ l st'/\RU st'/\Ra (cc st') l (l+n)) (Q:=λc st'=>c=(none,())/\SI a₀ l st'/\RU st'/\Ra (cc st') l (l+n)) ?is (λc st' z=>z) ⟨rfl,I4.1,I4.2,hm⟩) ?ip)
        case is=>
          rintro y c d _ _ ⟨rfl,I5⟩;refine a0 (ik ?_);by_cases D:(pendingOf d).size>1
          · rw[if_pos D]
            obtain⟨⟨J,O,Y⟩,eq⟩:∃v,(pendingOf d)[(pendingOf d).size-2]?=some v:=⟨_,getElem?_pos _ _ ∅⟩;rw[eq];dsimp only;refine iz (λ_=>a5 ⟨rfl,I5⟩) (λ_=>?_);refine a0 (Eh hA I5.1 I5.2.1 h1 ∅ λi I6 b a _=>?_);simp only[uC,lN,if_false];exact a5 ⟨rfl,I6,b,λx y h1 h2 h3=>by rw[a x ∅,a y ∅];exact I5.2.2 x y h1 h2 h3⟩
          · rw[if_neg D];exact a5 ⟨rfl,I5⟩
        case ip=>
          rintro c d ⟨rfl,I5⟩;dsimp only;refine a0 (fx (a0 (fx (a5 ⟨l+n,rfl,⟨⟨I5.1.perm,I5.1.kind,I5.1.failed,?_⟩,(I5.2.1.pw pw).push I5.2.2⟩,∅,∅⟩))));show Ch (((pendingOf d).modify ((pendingOf d).size-1) λx=>(x.1,x.2.1,pw)).push (l,n,0)).toList 0 (l+n);rw[kL,Bu];exact Ch.append.mpr ⟨l,Ch.pw (f:=λx=>(x.1,x.2.1,pw)) (λv=>⟨rfl,rfl⟩) I5.1.ch,rfl,n1,rfl⟩
  case post=>
    rintro c st' ⟨rfl,I2,U2⟩;dsimp only;refine a0 (e0 (cV (I:=λy c d=>c=(none,())/\SI a₀ a₀.size d/\RU d/\(pendingOf d).size+y<=a₀.size) (Q:=λc d=>c=(none,())/\SI a₀ a₀.size d/\RU d/\(pendingOf d).size<=1) ?is ?fi ⟨rfl,I2,U2,by have:=I2.ch.len;rw[dI] at this;omega⟩) ?ip)
    case fi=>
      rintro c d ⟨rfl,I5,U5,z⟩;exact⟨rfl,I5,U5,∅⟩
    case is=>
      rintro y c d _ _ ⟨rfl,I5,U5,z⟩;refine a0 (ik ?_);refine iz (λe=>a5 ⟨rfl,I5,U5,e⟩) (λe=>?_);refine a0 (Eh hA I5 U5 (aH _) ?_ λi I6 b _ z6=>?_);· exact zJ (Nat.add_le_add_right XT 1) ∅
      simp only[uC,lN,if_false];exact a5 ⟨rfl,I6,b,∅⟩
    case ip=>
      rintro c d ⟨rfl,I5,U5,z⟩;exact a5 (h _ I5.perm (U5.all I5.ch z) I5.failed)
end
theorem Xz{vs:List ag}{ns:List Int}(hI:en vs ns){xs:Array ba}(hp:xs.toList.Perm (kS vs).toList)(hr:Ra xs 0 xs.size):
  ∃f,en (xs.map (·.2)).toList f/\f.Perm ns/\f.Pairwise (· <= ·):=by
 obtain⟨f,h1,h2⟩:=UQ hI hp;refine⟨f,h1,h2,?_⟩;have hl:xs.toList.Perm (vs.zip vs):=by rw[<-me];exact hp
 have e:f=xs.toList.map kd:=by
  rw[<-h1.nums,ph,oY];refine wm λp a=>?_;obtain⟨e1,e2⟩:=o4 (hl.mem_iff.mp a);obtain⟨n,t,e3⟩:=hI.all _ e2;show Ap p.2=kd p;unfold kd;rw[<-e1,e3];rfl
 rw[e,C0];intro i j hi hj hij;rw[pk,pk];rw[ak,dI] at hi hj;have:=hr i j (fj _) (kK hij) hj;rw[eO hi,eO hj] at this;simpa using this
section
variable{prog:bg}{w:cq}{A:cx}{E:ag->ar->Prop}{s:ar}
theorem YJ{a:ax}{vs:List ag}{ns:List Int}{n:Nat}{P:Fin->ar->Prop}(D:s.heap.get? a=some (lx "list" vs.toArray n))
  (hI:en vs ns) (hz:vs.length<=100000)
  (h:∀(out:Array ag) (f:List Int),en out.toList f->f.Perm ns->f.Pairwise (· <= ·)->P (.done (.ret .none)) {s with heap:=sortedHeap s.heap a vs out}):
  wpAny (be prog w) A (hZ.«list.sort» ⟨[.ref a],[]⟩) P E s:=by
 rw[list_sort_plain];have d:vs.length<=sizeLine:=by rw[kv];omega
 have ha:a<s.heap.objs.size:=bP D;refine ae (listItems_at D rfl ?_);refine ae (m7 D rfl ?_ (hsz:=by rw[dW];exact d));obtain⟨e1,u⟩:∃e1,(s.heap.update a (el λ_=> #[])).get? a=some (lx "list" #[] e1):=⟨_,get?_update_seq D (λ_=> #[])⟩;refine ae (rA u rfl ?_);refine ae (wpAny_newTuple ?_);refine ae (mN ?_);refine du ?_;have c:(((s.heap.update a (el λ_=> #[])).push (lx "tuple" vs.toArray 0)).push (lx "list" #[] 0)).get? a=some (lx "list" #[] e1):=by
  rw[oe _ _ _ (by rw[size_push',pq];exact dN (nM ha)),oe _ _ _ (by rw[pq];exact dN ha)];exact u
 show wpAny (be prog w) A _ P E {s with heap:=((s.heap.update a (el λ_=> #[])).push (lx "tuple" vs.toArray 0)).push (lx "list" #[] 0)};dsimp only;have hsz:vs.toArray.size=vs.length:=by simp
 have fin:∀st':bL,(cc st').toList.Perm (kS vs).toList->Ra (cc st') 0 (kS vs).size->
   P (.done (.ret .none)) {s with heap:=sortedHeap s.heap a vs ((cc st').map (·.2))}:=by
  intro st' hp hr;have e:=hp.length_eq;rw[dI,dI] at e;obtain⟨f,h1,h2,h3⟩:=Xz hI hp (by rw[e];exact hr);exact h _ f h1 h2 h3
 by_cases h2:vs.toArray.size<2
 .rw[if_pos h2,if_pos h2];refine ae (aw ?_);rw[StateT.run_pure];refine ae (aw ?_);dsimp only;refine ae (rA c rfl ?_);refine ae (m7 c rfl ?_ (hsz2:=by rw[tj];show(kS vs).size<=_;rw[o8,kv];omega));simp only[bne_self_eq_false,lN,if_false]
  exact aw (fin (ui general' (vs.toArray.zip vs.toArray) #[] 7 none) (DL _) λi j _ h3 h4=>by
   rw[o8] at h4;have:i=j:=∅
   rw[this];omega)
 .rw[if_neg h2,if_neg h2];obtain⟨v₁,b,rest,rfl⟩:∃v₁ b rest,vs=v₁::b::rest:=by
   match vs,hsz,h2 with
   |[],_,h2=>simp at h2
   |[_],_,h2=>simp at h2
   |v₁::b::rest,_,_=>exact⟨v₁,b,rest,rfl⟩
  rw[keyKind_ints hI];refine ae (aw ?_)
  refine ae (eM (G1 (a₀:=kS (v₁::b::rest)) (st:=ui hU ((v₁::b::rest).toArray.zip (v₁::b::rest).toArray) #[] 7 none)
   (Q:=λ_ st'=>(cc st').toList.Perm (kS (v₁::b::rest)).toList/\Ra (cc st') 0 (kS (v₁::b::rest)).size/\hR st'=none)
   (YD hI) ⟨DL _,rfl,rfl,rfl⟩ (λv hv=>by have z:v∈([]:List (Nat×Nat×Nat)):=hv;cases z) λst' a1 g a2=>⟨a1,g,a2⟩) ?_ λ_ _ e=>e)
  rintro⟨⟨⟩,st'⟩ s' ⟨rfl,hp,hr,hf⟩;dsimp only;refine ae (rA c rfl ?_)
  refine ae (m7 c rfl ?_ (hsz2:=by
   have:=hp.length_eq;rw[dI,dI,o8] at this;show((cc st').map (·.2)).size<=_;rw[tj,this];omega))
  rw[hf];simp only[bne_self_eq_false,lN,if_false];exact aw (fin st' hp hr)
variable{a:ax}
end
def Ft(K:PySem.W.Frag):List V->Hp->VK->Prop:=λxs H Q=>∃p,∃ns:List Int,xs=[.ref p]/\aZ K H p (ns.map V.int)/\Q (.int ns.sum) H
def zI(K:PySem.W.Frag):List V->Hp->VK->Prop:=λxs H Q=>∃p,∃bs:List Bool,xs=[.ref p]/\aZ K H p (bs.map V.bl)/\Q (.bl (bs.all id)) H
section
variable{X:Cx}
theorem QB(hc:X.calm=true):fK X (.builtin "sum") (Ft X.K):=by
 intro pins s σ H xs us Q I rv h;obtain⟨p,ns,rfl,hp,q⟩:=h;obtain⟨u,rfl,ru⟩:=vals1 rv;cases ru;obtain⟨its,N,d,hz⟩:=I.list hp;have hI:=Dv N;obtain⟨ys,e⟩:=hI.allInts.items;have hn:=hI.numsOf;refine sum_intListG (xs:=ys) (I.ok.hd hc) (by rw[<-e];exact d.isList) λh' tk t' kp=>?_;have e2:preSum (numAt ys) ys.size=ns.sum:=by
  rw[preSum_eq,rV (by simp),<-nums_intItems,<-e,<-hn]
 rw[e2];exact⟨.int ns.sum,H,I.kept kp,⟨_,rfl⟩,q⟩
theorem Kr(hc:X.calm=true):fK X (.builtin "all") (zI X.K):=by
  intro pins s σ H xs us Q I rv h;obtain⟨p,bs,rfl,hp,q⟩:=h;obtain⟨u,rfl,ru⟩:=vals1 rv;cases ru;obtain⟨its,N,d,hz⟩:=I.list hp;have hl:=N.length;have hv:∀(i:Nat) (v:ag),its.toArray[i]?=some v->v= .bool (bs.getD i false):=λi v e=>by
    have hi:i<bs.length:=by
      have:=(qo.mp e).1;rw[ak] at hl;simp at this;omega
    obtain⟨u,hu,ru⟩:=N.get (i:=i) (x:= .bl bs[i]) (by rw[cY,bw hi];rfl);rw[L3,hu] at e;cases e;rw[k9,bw hi];exact ru
  have ll:=d.isList;have hlt:p<s.heap.objs.size:=by obtain⟨o,e,_⟩:=ll;exact bP e
  refine call_all_walk (j1 ll ⟨s.heap.objs.size,_,_,_,_,_,λi=>bs.getD i false,rfl,y6 (A:=X.A.in1) (I.ok.hd hc) _ p (dN hlt) its.toArray,⟨⟨_,fT _ rfl,rfl,rfl⟩,ll.push _⟩,λi v s Q E Z G=>?_,λh' tk kp=>?_⟩);· rw[hv i v Z];exact gL G
  · have e:(bo its.toArray.size).all (λi=>bs.getD i false)=bs.all id:=by
      have hs:its.toArray.size=bs.length:=by rw[ak] at hl;simp;omega
      rw[hs];clear hv hl N q hp hs hz;induction bs with
      |nil=>rfl
      | cons b r ih =>
        rw[eB,Iu,rL,rL,List.all_map];simpa[n7] using congrArg (b && ·) ih
    rw[e];refine⟨.bl (bs.all id),H,I.kept λb o q=>kp b o (λm=>?_) (bW _ q),rfl,q⟩;have:=br.mp m;rw[this] at q;exact absurd (bP q) (jE _)
end
section
variable{G:Gx}{ρ:Rh}{te:TE}{K:PySem.W.Frag}{Φ:Pd}
theorem Ev.sum(h:Ev G ρ te λ_ x=>∃ns:List Int,x= .list (ns.map .int)/\Φ true (.int ns.sum)):Ev G ρ (fq (Ft K) (bz te bM)) Φ:=λnb σ H Q W z=>
 h nb σ H _ W λf v H1 x ⟨ns,ex,q⟩ s1 hv=>by
  subst ex;obtain⟨a,xs,rfl,na,hx,hd⟩:=hv.eN;have e:=vM hd;subst e;exact⟨a,ns,rfl, .of hx,z true _ H1 _ q s1 (.int _)⟩
theorem NH{nb:ax->Prop}{H:Hp}:∀{is:List Bool} {xs:List V},ah nb H (is.map mi) xs->xs=is.map V.bl
  |[],_,h=>by unfold cj ah at h;exact h
  | i :: is, _, h => by
    rw[bN] at h;unfold ah at h;obtain⟨y,ys,rfl,h1,h2⟩:=h;unfold ai at h1;rw[bN,h1,NH h2]
theorem Ev.all(h:Ev G ρ te λ_ x=>∃bs:List Bool,x= .list (bs.map .bool)/\Φ true (.bool (bs.all id))):Ev G ρ (fq (zI K) (bz te bM)) Φ:=λnb σ H Q W z=>
 h nb σ H _ W λf v H1 x ⟨bs,ex,q⟩ s1 hv=>by
  subst ex;obtain⟨a,xs,rfl,na,hx,hd⟩:=hv.eN;have e:=NH hd;subst e;exact⟨a,bs,rfl, .of hx,z true _ H1 _ q s1 (.bl _)⟩
end
noncomputable def jq:PyData->String->Bool
 | .bool _,T=>T=="bool" ||T=="int"
 | .int _,T=>T=="int"
 | .str _,T=>T=="str"
 | .list _,T=>T=="list"
 | .tuple _,T=>T=="tuple"
 |_,_=>false
noncomputable def FU:PyData->String
 | .none=> "NoneType" | .bool _=> "bool" | .int _=> "int" | .str _=> "str" | .list _=> "list" | .tuple _=> "tuple" | .dict _=> "dict"
theorem Mc(ds:List PyData):jq (.list ds) "list"=true/\jq (.list ds) "tuple"=false:=⟨rfl,rfl⟩
theorem PY(ds:List PyData):jq (.tuple ds) "list"=false/\jq (.tuple ds) "tuple"=true:=⟨rfl,rfl⟩
theorem UC{K:PySem.W.Frag}{nb:ax->Prop}{H:Hp}{d:PyData}{v:V}(h:ai nb H d v):jf K H v (.type (FU d)):=by
 cases d<;>unfold ai at h;·subst h;exact .aL
 .subst h;exact .bl _
 .subst h;exact .int _
 .subst h;exact .str _
 .obtain⟨a,xs,rfl,_,e,_⟩:=h;exact .lst e
 .obtain⟨a,xs,rfl,_,e,_⟩:=h;exact .tup e
 .obtain⟨a,xs,rfl,_,e,_⟩:=h;exact e.elim .dK λ⟨_,e⟩=> .O5 e
def sr(T:String):Prop:=T="int" \/T="bool" \/T="list" \/T="tuple" \/T="str"
theorem NR{K:PySem.W.Frag}{d:PyData}{T:String}(hT:sr T):PySem.W.kitOne K (.type (FU d)) (.type T)=some (jq d T):=by
 rcases hT with rfl|rfl|rfl|rfl|rfl<;>cases d<;>(with_unfolding_all rfl)
theorem JY{K:PySem.W.Frag}{d:PyData}:∀{b:List String},(∀T∈b,sr T)->PySem.W.kitAny K (.type (FU d)) (b.map ej)=some (b.any (jq d))
  |[],_=>rfl
  | T :: r, h => by
    rw[bN];unfold PySem.W.kitAny;rw[NR (h T (dj ..)),o5];cases jq d T with
    |true=>rfl
    |false=>exact JY λT m=>h T (cS _ m)
def wK:List V->Hp->VK->Prop:=λxs H Q=>∃(x:V) (tp:ax) (b:List String) (nb:ax->Prop) (d:PyData),xs=[x, .ref tp]/\H tp=some (.tup (b.map V.ty))/\ai nb H d x/\(∀T∈b,sr T)/\Q (.bl (b.any (jq d))) H
theorem Jz:∀{b:List String} {us:List ag},Vals (b.map V.ty) us->us=b.map ej
 |[],_, .nil=>rfl
 |T::r,_, .cons h t=>by rw[bN,Jz t,show _=ej T from h]
section
variable{X:Cx}
theorem Ln:fK X (.builtin "isinstance") wK:=by
 intro pins s σ H xs us Q I rv h;obtain⟨x,tp,b,nb,d,rfl,ht,hd,h5,q⟩:=h;obtain⟨u,v,rfl,ru,rv⟩:=rv.two;cases (show v=c3 tp from rv);obtain⟨_,its,f,o,D,hc,n,c⟩:=(show c7 X.prog X.w H s.heap tp (.tup (b.map V.ty)) from I.hok tp _ ht);have e:=Jz f;subst e;obtain⟨c0,d0,dt,sl⟩:=o;dsimp only at hc c;subst hc c;have fin:∀tk,EP X pins σ Q (.bool (b.any (jq d))) {s with toks:=tk}:=λtk=>⟨.bl _,H,I.tok tk,rfl,q⟩;have ka:=JY (K:=X.K) (d:=d) h5;cases d<;>unfold ai at hd;·subst hd;cases (show u=gw from ru);exact pe PySem.W.kitx_none I.c9 dC D ka (λz=>nomatch z) fin
 .subst hd;cases (show u=l5 _ from ru);exact pe PySem.W.kitx_bool I.c9 dC D ka (λz=>nomatch z) fin
 .subst hd;obtain⟨t,rfl⟩:=(show∃t,u=js _ t from ru);exact pe PySem.W.kitx_int I.c9 dC D ka (λz=>nomatch z) fin
 .subst hd;obtain⟨t,rfl⟩:=(show∃t,u=lY _ t from ru);exact pe PySem.W.kitx_str I.c9 dC D ka (λz=>nomatch z) fin
 .obtain⟨a,ys,rfl,_,ea,_⟩:=hd;cases (show u=c3 a from ru);obtain⟨_,_,n,_,h1⟩:=(show c7 X.prog X.w H s.heap a (.lst ys) from I.hok a _ ea);exact pe Ec I.c9 ⟨_,h1,rfl⟩ D ka (λz=>nomatch z) fin
 .obtain⟨a,ys,rfl,_,ea,_⟩:=hd;cases (show u=c3 a from ru);obtain⟨_,_,_,o',h1,h2,_⟩:=(show c7 X.prog X.w H s.heap a (.tup ys) from I.hok a _ ea);exact pe PySem.W.kitx_tuple I.c9 ⟨o',h1,h2⟩ D ka (λz=>nomatch z) fin
 .obtain⟨a,ys,rfl,_,ea,_⟩:=hd;cases (show u=c3 a from ru);obtain⟨_,_,vs,_,dd⟩:=(show c7 X.prog X.w H s.heap a (.dK ys) from ea.ok I.hok);exact pe v7 I.c9 dd.typeIs D ka (λz=>nomatch z) fin
end
section
variable{G:Gx}{ρ:Rh}{ta tb te:TE}{K:PySem.W.Frag}{Φ:Pd}{T U:String}
theorem Ev.Ss(hT:sr T)(h:Ev G ρ te λ_ x=>Φ true (.bool (jq x T))):Ev G ρ (fq (kX K) (bz te (bz (tC (.ty T)) bM))) Φ:=λnb σ H Q W z=>
 h nb σ H _ W λf v H1 d q s1 hv=>⟨v,T,_,_,rfl,UC hv,NR hT,z true _ H1 _ q s1 (.bl _)⟩
theorem Ev.Se(hT:sr T)(g:sr U)(h:Ev G ρ te λ_ x=>Φ true (.bool (jq x T||jq x U))):Ev G ρ (fq wK (bz te (bz (o7 (bz (tC (.ty T)) (bz (tC (.ty U)) bM))) bM))) Φ:=λnb σ H Q W z=>
 h nb σ H _ W λf v H1 d q s1 hv=>by
  refine⟨by show 2<=sizeLine;decide,λp hp=>⟨v,p,[T,U],G.S nb f,d,rfl,bx,hv.keep (aY.of (cL hp)),λS m=>?_,?_⟩⟩
  .rcases aK.mp m with e|m
   .rw[e];exact hT
   .rw[br.mp m];exact g
  .rw[o5,o5,List.any_nil,p6];exact z true _ _ _ q (s1.trans (.same s1.2 (cL hp))) (.bl _)
theorem Ev.Jr(h:Ev G ρ te λ_ x=>∃ds,(x= .list ds\/x= .tuple ds)/\Φ true (.int ds.length)):Ev G ρ (fq (eX K) (bz te bM)) Φ:=λnb σ H Q W z=>
 h nb σ H _ W λf v H1 d ⟨ds,e,q⟩ s1 hv=>by
  rcases e with e|e
  .subst e;obtain⟨a,xs,rfl,n,hx,hd⟩:=hv.eN;exact⟨a,xs,rfl, .inl (.of hx),by rw[hd.length];exact z true _ H1 _ q s1 (.int _)⟩
  .subst e;obtain⟨a,xs,rfl,n,hx,hd⟩:=hv.ofT;exact⟨a,xs,rfl, .inr (.of hx),by rw[hd.length];exact z true _ H1 _ q s1 (.int _)⟩
theorem Ev.C8(h:Ev G ρ ta λf x=>∃ds,(x= .list ds\/x= .tuple ds)/\Ev G ρ tb λ_ y=>∃k,y= .int k/\∃e,bC ds k=some e/\Φ f e):Ev G ρ (dM (wN K) ta tb) Φ:=
 Ev.kR (h.mono λf x ⟨ds,ex,q⟩=>q.mono λg y ⟨k,o,e,he,p⟩ nb σ H u v Q W hu hv z=>by
  subst o;rcases ex with ex|ex
  .subst ex;obtain⟨a,xs,rfl,n,hx,hd⟩:=hu.eN;obtain⟨w,hw,j⟩:=hd.bC he;exact .inl ⟨a,xs,k,w,rfl,hv.cP, .of hx,hw,z f _ H _ p (.refl W.az) j⟩
  .subst ex;obtain⟨a,xs,rfl,n,hx,hd⟩:=hu.ofT;obtain⟨w,hw,j⟩:=hd.bC he;exact .inr (.inl ⟨a,xs,k,w,rfl,hv.cP, .of hx,hw,z f _ H _ p (.refl W.az) j⟩))
end
theorem Callee.void{P:bg}{w:cq}{K:PySem.W.Frag}{mg:Str->Option ag}{base:eC}{x:Str}{st:fb}{k:Nat}{ps:List Str}{sp:Sp}{f:ax}{fd:ft}(F:bA K x x st f fd)(b:Binds K fd ps [])(m:mg x=some (.ref f))(hv:∀vs H Q E,¬sp vs H Q E):Callee P w K mg base x k ps sp:=
 ⟨f,fd,⟨λvs H Q E h=>(hv vs H Q E h).elim,λA outer s H args us vs Q E _ _ _ _ h=>(hv vs H Q E h).elim⟩,b,F.kp,m⟩
section
variable{G:Gx}{ρ bU:Rh}{te:TE}{gt:TG}{n i:Nat}{it:Nat->PyData->Prop}{fi:Bool}{Θ:Bool->List PyData->Prop}{E:DE}
theorem Td(os:List Int):gh (os.map a4)=true:=by
 unfold gh;rw[qv];intro x hx;obtain⟨y,_,rfl⟩:=dG.mp hx
 rfl
theorem g6.ints(P:Int->Prop)(ht:∀i d,it i d->Gv G bU gt fi d λc=>Wk bU c/\Ev G c te λ_ e=>∃r:Int,e= .int r/\P r)(h:∀os:List Int,os.length=n->(∀x∈os,P x)->Θ true (os.map .int)):g6 G bU n it fi gt r6 te Θ:=by
 refine⟨false,λi ds=>ds.length=i/\∃os:List Int,ds=os.map .int/\∀x∈os,P x,⟨rfl,[],rfl,λ_ h=>nomatch h⟩,?_,?_⟩
 .rintro i d ds hd hl ⟨hl2,os,rfl,ho⟩;refine λnb σ H v Q W hv z=>ht i d hd nb σ H v Q W hv λL C ⟨w,q⟩ W'=>z L C ⟨w,Tv.uU (zH (q.mono λf e ⟨r,a,hr⟩=>⟨λz=>(by cases z),?_,os++[r],?_,λx hx=>?_⟩))⟩ W';·rw[cK,jn,hl2]
  .rw[a];simp
  .rcases iG.mp hx with h|h
   .exact ho x h
   .rw[br.mp h];exact hr
 .rintro ds hl ⟨hl2,os,rfl,ho⟩;rw[Td,Bool.or_true];exact h os (by rw[ak] at hl2;exact hl2) ho
theorem g6.rel{α:Type}(φ:α->PyData)(fl:Bool)(P:Nat->α->Prop)(ht:∀i d,it i d->Gv G bU gt fi d λc=>Wk bU c/\Ev G c te λf e=>(fl=true->f=true)/\∃r:α,e=φ r/\P i r)
  (h:∀os:List α,os.length=n->(∀(i:Nat) x,os[i]?=some x->P i x)->Θ (fl||gh (os.map φ)) (os.map φ)):g6 G bU n it fi gt r6 te Θ:=by
 refine⟨fl,λi ds=>ds.length=i/\∃os:List α,ds=os.map φ/\∀(i:Nat) x,os[i]?=some x->P i x,⟨rfl,[],rfl,λj x e=>by simp at e⟩,?_,?_⟩
 .rintro i d ds hd hl ⟨hl2,os,rfl,ho⟩;refine λnb σ H v Q W hv z=>ht i d hd nb σ H v Q W hv λL C ⟨w,q⟩ W'=>z L C ⟨w,Tv.uU (zH (q.mono λf e ⟨hf,r,a,hr⟩=>⟨hf,?_,os++[r],?_,λj x hj=>?_⟩))⟩ W';·rw[cK,jn,hl2]
  .rw[a];simp
  .rw[ak] at hl2;rcases xD j os.length with h|h|h
   .exact ho j x (by rwa[gQ h] at hj)
   .subst h;simp at hj;subst hj;rw[hl2];exact hr
   .rw[tu (by rw[cK,jn];omega)] at hj;cases hj
 .rintro ds hl ⟨hl2,os,rfl,ho⟩;exact h os (by rw[ak] at hl2;exact hl2) ho
theorem Sv.sF(h:∀a,E.nx (ρ.set i (.own a true []))):Sv G ρ (gE (rN bM) (ic i)) E:=Sv.uJ (aq.lst (Av.nil ⟨⋯,λa=>h a⟩))
end
theorem kD{X:Cx}{K:PySem.W.Frag}{a:et}{ta:TE}(c:X.K=K)(ha:PE X a ta)(he:∀whole,isTrue a X.env whole=(do let v<-whole;standAt a.pos;holding [v] (truthy v))):PT X a (OL K ta):=by
 subst c;exact X6 ha he
theorem i9{X:Cx}{K:PySem.W.Frag}{es:List et}{k:Nat}{t:jb}{n:Nat}{pos:Pos}(c:X.K=K)(hc:X.calm=true)(h:sE X es t)(hn:(gN es X.env).length=n:=by rfl)(d:(gN es X.env).findIdx? (·.1)=none:=by rfl):PG X (.Tuple es k pos) (AB K n t):=by
 subst c;exact MS hc h hn d
theorem ZH(ds:List PyData):dE (.list ds) (.list [])=ds.isEmpty:=by cases ds<;>simp[dE,eJ]
theorem Sv.sS{G:Gx}{ρ:Rh}{s:TS}{E:DE}(I:Rh->Prop)(h:Sv G ρ s {E with nx:=I})(hI:∀C,I C->E.nx C):Sv G ρ s E:=λnb σ H D W K=>h nb σ H D W ⟨λnb ρ σ H q W=>K.nx nb ρ σ H (hI ρ q) W,K.bk,K.ct,K.rt,K.rw⟩
def KW(p:Int):Prop:=2<=p/\p<=10^60
theorem pick{L:List Int}{k:Int}(h0:0<=k)(h1:k<L.length)(P:Int->Prop)(Z:∀x∈L,P x):∃x,bC (L.map a4) k=some (.int x)/\P x:=by
 have y:k.toNat<L.length:=∅
 exact⟨L[k.toNat],iE h0 (by rw[cY,bw y];rfl),Z _ (fZ y)⟩
theorem HV{α:Type}{xs:List α}{k:Int}(h0:0<=k)(h1:k<=xs.length):g7 xs (some k) none=xs.drop k.toNat:=by
 have e:HT.eE xs.length 0 (some k)=k.toNat:=by
  show(if k<0 then _ else _)=_;rw[if_neg ∅];omega
 unfold g7;rw[e,HT.YI];exact rV (by rw[rF];omega)
theorem Jo:∀xs ys:List Int,eJ (xs.map a4) (ys.map a4)=decide (xs=ys)
  |[],[]=>by simp[eJ]
  |[],y::ys=>by simp[eJ]
  |x::xs,[]=>by simp[eJ]
  | x :: xs, y :: ys => by
    simp only[bN,eJ,Jo xs ys];have:dE (.int x) (.int y)=decide (x=y):=by rw[mS];simp[dE]
    rw[this,mS];simp
theorem HQ(xs ys:List Int):dE (.list (xs.map .int)) (.list (ys.map .int))=decide (xs=ys):=by
 simp only[dE];exact Jo xs ys
theorem shaped_ints(xs:List Int):de (.list (xs.map .int))=true:=by
 have h:=MF (xs.map some);have e:(xs.map some).map bS=xs.map a4:=by rw[oY];rfl
 rw[e] at h;unfold de;simp[dy,hG,h.1,h.2]
def Hz(K:PySem.W.Frag)(te:TE)(b:TO):TE:=λσ H Q=>te σ H λx H1=>b σ H1 λk H2=>k=some (-1)/\∃a xs,x= .ref a/\aZ K H2 a xs/\∀p,H2 p=none->Q (.ref p) (upd H2 p (.lst xs.reverse))
theorem ah.rev{nb:ax->Prop}{H:Hp}:∀{ds:List PyData} {xs:List V},ah nb H ds xs->ah nb H ds.reverse xs.reverse
  |[],xs,h=>by unfold ah at h;subst h;exact .nil
  | d :: ds, xs, h => by
    unfold ah at h;obtain⟨y,ys,e,h1,h2⟩:=h;subst e;rw[og,og];exact ah.append (ah.rev h2) (.cons h1 .nil)
section
variable{G:Gx}{ρ:Rh}{Φ:Pd}{ta tb te:TE}{K:PySem.W.Frag}
theorem aq.rev{b:TO}{Θ:Bool->List PyData->Prop}(h:Ev G ρ te λf x=>∃ds,x= .list ds/\Ov G ρ b λo=>o=some (-1)/\Θ (f||gh ds.reverse) ds.reverse):aq G ρ (Hz K te b) Θ:=λnb σ H Q W z=>
 h nb σ H _ W λf v H1 d ⟨ds,e,q⟩ s1 hv=>q nb σ H1 _ (W.step s1) λo H2 ⟨l,O⟩ s2=>by
  subst e;obtain⟨a,xs,rfl,n,hx,hd⟩:=(hv.keep s2.dJ).eN;exact⟨l,a,xs,rfl, .of hx,λp hp=>aq.fin W (s1.trans s2) hp hd.rev O z⟩
theorem Ev.rev{b:TO}(h:Ev G ρ te λf x=>∃ds,x= .list ds/\Ov G ρ b λo=>o=some (-1)/\Φ (f||gh ds.reverse) (.list ds.reverse)):Ev G ρ (Hz K te b) Φ:=(aq.rev (Θ:=λf ds=>Φ f (.list ds)) h).ev
end
end L2
namespace PC
def aI(n:Nat):Prop:=2<=n/\∀d,d∣n->d=1\/d=n
noncomputable def tr(q:Nat):Nat->Nat->Bool
 |0,_=>false
 |f+1,d=>if q<d*d then true else if q%d=0 then false else tr q f (d+1)
theorem Kg{q:Nat}:∀{f d:Nat},tr q f d=true->∀e,d<=e->e*e<=q->q%e≠0
  |0,_,h=>by simp[tr] at h
  | f + 1, d, h => by
    intro e hde hee;unfold tr at h;by_cases h1:q<d*d
    · have:=tm hde hde
      omega
    · rw[if_neg h1] at h
      by_cases h2:q%d=0;· rw[if_pos h2] at h;cases h
      · rw[if_neg h2] at h
        by_cases h3:d=e;· rw[<-h3];exact h2
        · exact Kg h e ∅ hee
theorem Ph{q:Nat}(h2:2<=q)(h:∀e,2<=e->e*e<=q->q%e≠0):aI q:=by
 refine⟨h2,λd hd=>?_⟩;obtain⟨e,he⟩:=hd;by_cases d1:d=1;·exact .inl d1
 by_cases e1:e=1;·right;rw[he,e1,Dz]
 exfalso;have d0:d≠0:=λz=>by rw[z,BJ] at he;omega
 have R:e≠0:=λz=>by rw[z,v3] at he;omega
 by_cases J:d<=e
 .refine h d ∅ (by rw[he];exact Nat.mul_le_mul_left d J) ?_;rw[he];exact Nat.mul_mod_right d e
 .refine h e ∅ (by rw[he];exact Je e ∅) ?_;rw[he];exact Nat.mul_mod_left d e
theorem cE(f:Nat){q:Nat}(h2:2<=q)(h:tr q f 2=true):aI q:=Ph h2 (Kg h)
noncomputable def pw(N:Nat):Nat->Nat->Nat->Nat->Nat
 |0,_,_,acc=>acc
 |f+1,e,g,acc=>pw N f (e/2) (g*g%N) (if e%2=1 then acc*g%N else acc)
theorem Lf{N:Nat}:∀(f e g acc:Nat),e<2^f->pw N f e g acc%N=acc*g^e%N
  | 0, e, g, acc, h => by
    have:e=0:=by simp at h;exact h
    subst this;simp[pw]
  | f + 1, e, g, acc, h => by
    have h2:e/2<2^f:=by rw[wa] at h;omega
    unfold pw;rw[Lf f _ _ _ h2];have e2:g^e=(g*g)^(e/2)*g^(e%2):=by
      conv=>lhs;rw[<-tD e 2]
      rw[ym,x6,Nat.pow_two]
    have m1:(g*g%N)^(e/2)%N=(g*g)^(e/2)%N:=(x7 _ _ _).symm;rw[e2];by_cases D:e%2=1
    · rw[if_pos D,D,Nat.pow_one,mL,m1,Gu,<-mL]
      congr 1
      rw[sH,tN g]
    · have d:e%2=0:=∅
      rw[if_neg D,d,wb,Dz,mL,m1,<-mL]
theorem WQ{P:Nat->Prop}:∀n,P n->∃m,P m/\∀k,k<m->¬P k:=by
  intro n;induction n using rB with
  | _ n ih =>
    intro h;by_cases hk:∃k,k<n/\P k
    · obtain⟨k,a,f⟩:=hk
      exact ih k a f
    · exact⟨n,h,λk a f=>hk ⟨k,a,f⟩⟩
theorem LK:∀(n:Nat) (f:Nat->Nat),(∀i,i<n+1->f i<n)->∃i j,i<j/\j<n+1/\f i=f j
  |0,f,h=>absurd (h 0 ∅) ∅
  | n + 1, f, h => by
    by_cases he:∃i,i<n+1/\f i=f (n+1)
    · obtain⟨i,h1,h2⟩:=he
      exact⟨i,n+1,h1,∅,h2⟩
    · have T:∀i,i<n+1->f i≠f (n+1):=λi hi e=>he ⟨i,hi,e⟩
      have G9:=h (n+1) ∅
      obtain⟨i,j,h1,h2,h3⟩:=LK n (λi=>if f i=n then f (n+1) else f i) (λi hi=>by
        have g1:=h i ∅;have g2:=T i hi;by_cases c:f i=n
        · simp only[c,if_true]
          have:f (n+1)≠n:=λz=>g2 (c.trans z.symm);omega
        · simp only[c,if_false]
          omega)
      refine⟨i,j,h1,∅,?_⟩;have gi:=T i ∅;have gj:=T j ∅;by_cases b:f i=n
      · by_cases a:f j=n
        · rw[b,a]
        · simp only[b,a,if_true,if_false] at h3
          exact absurd h3.symm gj
      · by_cases a:f j=n
        · simp only[b,a,if_true,if_false] at h3
          exact absurd h3 gi
        · simpa only[b,a,if_false] using h3
noncomputable def ku:List (Nat×Nat)->Nat
 |[]=>1
 |qe::r=>Nat.lcm (qe.1^qe.2) (ku r)
theorem Qa{o:Nat}:∀{fs:List (Nat×Nat)},(∀qe∈fs,qe.1^qe.2∣o)->ku fs∣o
 |[],_=>⟨o,by simp[ku]⟩
 |qe::r,h=>Nat.lcm_dvd (h qe dj) (Qa λx hx=>h x (cS _ hx))
theorem Nw{q m:Nat}(hq:aI q)(h:¬q∣m):k8 q m:=by
 rcases hq.2 _ (Nat.gcd_dvd_left q m) with e|e
 .exact e
 .exact absurd (e▸Nat.gcd_dvd_right q m) h
theorem Ru{q m:Nat}(h:k8 q m)(e:Nat):k8 (q^e) m:=w7 e h
theorem N2(a b c d:Nat):(a%d)*(b%d)%d*(c%d)%d=a*b*c%d:=by
 rw[<-mL a b,<-mL (a*b) c]
theorem PL{N g d:Nat}{fs:List (Nat×Nat)}(hN:2<=N)(hd:d∣N)(d1:1<d)(h1:g^(N-1)%N=1%N)
  (hq:∀qe∈fs,aI qe.1/\qe.1^qe.2∣N-1/\x8 (g^((N-1)/qe.1)%N+(N-1)) N=1):ku fs<d:=by
 have l:∀{a b:Nat},a%N=b%N->a%d=b%d:=λ{a b} e=>by
  rw[<-Gg a hd,e,Gg b hd]
 have one:1%d=1:=px d1;have Y:g^(N-1)%d=1:=by rw[l h1,one]
 obtain⟨o,⟨n,o1⟩,v⟩:=WQ (P:=λk=>0<k/\g^k%d=1) (N-1) ⟨∅,Y⟩;have p:∀q r:Nat,g^(o*q+r)%d=g^r%d:=λq r=>by
  rw[ym,x6,mL,x7,o1,Nat.one_pow,one,G0,Gu]
 have B:∀k,g^k%d=1->o∣k:=λk hk=>by
  have e:=tD k o;rw[<-e,p] at hk;by_cases h0:k%o=0;·exact JO h0
  .exact absurd ⟨∅,hk⟩ (v (k%o) (rG _ n))
 have od:=B _ Y;have h:ku fs∣o:=Qa λqe s=>by
  obtain⟨t,⟨c,hc⟩,E⟩:=hq qe s;obtain⟨m,hm⟩:=od;by_cases y:qe.1∣m
  .exfalso;obtain⟨m',hm'⟩:=y;have q0:0<qe.1:=by have:=t.1;omega
   have x:(N-1)/qe.1=o*m':=by
    rw[hm,hm',show o*(qe.1*m')=qe.1*(o*m') by rw[<-sH,tN o,sH],Nat.mul_div_cancel_left _ q0]
   have e1:g^((N-1)/qe.1)%d=1:=by
    have:=p m' 0;rw[sY,wb,one] at this;rw[x];exact this
   have e2:d∣g^((N-1)/qe.1)%N+(N-1):=by
    have e3:(g^((N-1)/qe.1)%N)%d=1:=by rw[Gg _ hd];exact e1
    obtain⟨k,hk⟩:=hd;have e4:=tD (g^((N-1)/qe.1)%N) d;rw[e3] at e4;refine⟨(g^((N-1)/qe.1)%N)/d+k,?_⟩;rw[Nat.mul_add,<-hk];omega
   have e5:=Nat.dvd_gcd e2 hd;rw[E] at e5;have:=DR ∅ e5;omega
  .have cp:=Ru (Nw t y) qe.2;have C:qe.1^qe.2∣o*m:=⟨c,by rw[<-hm];exact hc⟩;exact cp.dvd_of_dvd_mul_right C
 have F:o<d:=by
  refine pz λJ=>?_;have f:∀i,i<=N-1->(g^i%d)*(g^(N-1-i)%d)%d=1:=λi hi=>by
   rw[<-mL,<-ym,show i+(N-1-i)=N-1 by omega];exact Y
  have A:o<=N-1:=DR ∅ od;have pos:∀i,i<o->0<g^i%d:=λi hi=>by
   refine C7 λz=>?_;have:=f i ∅;rw[z,BJ,Nat.zero_mod] at this;cases this
  obtain⟨i,j,h1,h2,h3⟩:=LK (d-1) (λi=>g^i%d-1) (λi hi=>by
   have a1:=pos i ∅;have a2:=rG (g^i) (show d>0 by omega);omega)
  have pi:=pos i ∅;have pj:=pos j ∅;have e:g^i%d=g^j%d:=∅
  have D:g^j=g^i*g^(j-i):=by rw[<-ym,show i+(j-i)=j by omega]
  have u:=f i ∅;have k1:g^(j-i)%d=1:=by
   have w:(g^i%d)*(g^(N-1-i)%d)%d*(g^(j-i)%d)%d=(g^j%d)*(g^(N-1-i)%d)%d:=by
    rw[N2,<-mL (g^j),D]
    congr 1
    rw[sH,sH,tN (g^(N-1-i))]
   rw[u,G0,Gu,<-e,u] at w;exact w
  exact v (j-i) ∅ ⟨∅,k1⟩
 exact zJ (DR n h) F
theorem XA{N g:Nat}(fs:List (Nat×Nat))(hN:2<=N)(h1:g^(N-1)%N=1%N)
  (hq:∀qe∈fs,aI qe.1/\qe.1^qe.2∣N-1/\x8 (g^((N-1)/qe.1)%N+(N-1)) N=1) (M:N<(ku fs+1)*(ku fs+1)):aI N:=by
 refine⟨hN,λd hd=>?_⟩;obtain⟨e,he⟩:=id hd;by_cases d1:d=1;·exact .inl d1
 by_cases e1:e=1;·right;rw[he,e1,Dz]
 exfalso;have d0:d≠0:=λz=>by rw[z,BJ] at he;omega
 have R:e≠0:=λz=>by rw[z,v3] at he;omega
 have b1:=PL hN hd ∅ h1 hq;have b2:=PL hN ⟨d,by rw[he,tN]⟩ (show 1<e by omega) h1 hq;have:=tm (show ku fs+1<=d from b1) (show ku fs+1<=e from b2);omega
noncomputable def Kf(N g:Nat)(fs:List (Nat×Nat)):Bool:=
 decide (2<=N) && decide (N<2^140) &&(pw N 140 (N-1) g 1%N==1) && fs.all (λqe=>((N-1)%qe.1^qe.2==0) &&(x8 (pw N 140 ((N-1)/qe.1) g 1%N+(N-1)) N==1)) && decide (N<(ku fs+1)*(ku fs+1))
theorem dD{N:Nat}(g:Nat)(fs:List (Nat×Nat))(hp:∀qe∈fs,aI qe.1)(h:Kf N g fs=true):aI N:=by
 unfold Kf at h;simp only[eY,decide_eq_true_eq,beq_iff_eq,qv] at h;obtain⟨⟨⟨⟨h1,h2⟩,h3⟩,h4⟩,h5⟩:=h;have P:∀e,e<=N-1->pw N 140 e g 1%N=g^e%N:=λe he=>by
  rw[Lf 140 e g 1 ∅,G0]
 refine XA (g:=g) fs h1 (by rw[<-P _ (aH _),h3,px ∅]) (λqe s=>?_) h5;obtain⟨g1,g2⟩:=h4 qe s;refine⟨hp qe s,JO g1,?_⟩;rw[<-P _ (Nat.div_le_self _ _)];exact g2
theorem DY:aI 2:=cE 4 ⋯ (by decide+kernel)
theorem Hk:aI 3:=cE 4 ⋯ (by decide+kernel)
theorem FR:aI 5:=cE 5 ⋯ (by decide+kernel)
theorem Be:aI 7:=cE 5 ⋯ (by decide+kernel)
theorem Te:aI 11:=cE 6 ⋯ (by decide+kernel)
theorem Zc:aI 101:=cE 13 ⋯ (by decide+kernel)
theorem N1:aI 10007:=cE 103 ⋯ (by decide+kernel)
theorem Om:aI 65537:=cE 259 ⋯ (by decide+kernel)
theorem Ee:aI 1000003:=cE 1003 ⋯ (by decide+kernel)
theorem YW:aI 17:=cE 7 ⋯ (by decide+kernel)
theorem WH:aI 998244353:=dD 3 [(17,1),(7,1),(2,23)] (λqe h=>by
 simp only[aK,cC,or_false] at h;rcases h with rfl|rfl|rfl
 .exact YW
 .exact Be
 .exact DY) (by decide+kernel)
theorem EE:aI 148721:=cE 388 ⋯ (by decide+kernel)
theorem Ue:aI 500000003:=dD 2 [(148721,1)] (λqe h=>by
 simp only[aK,cC,or_false] at h;subst h;exact EE) (by decide+kernel)
theorem Ri:aI 1000000007:=dD 2 [(500000003,1)] (λqe h=>by
 simp only[aK,cC,or_false] at h;subst h;exact Ue) (by decide+kernel)
theorem LH:aI 331:=cE 21 ⋯ (by decide+kernel)
theorem IA:aI 151:=cE 15 ⋯ (by decide+kernel)
theorem UP:aI 2147483647:=dD 3 [(331,1),(151,1)] (λqe h=>by
 simp only[aK,cC,or_false] at h;rcases h with rfl|rfl
 .exact LH
 .exact IA) (by decide+kernel)
theorem Vr:aI 250049:=cE 503 ⋯ (by decide+kernel)
theorem Tp:aI 26005097:=dD 2 [(250049,1)] (λqe h=>by
 simp only[aK,cC,or_false] at h;subst h;exact Vr) (by decide+kernel)
theorem Kb:aI 1000000000039:=dD 2 [(26005097,1)] (λqe h=>by
 simp only[aK,cC,or_false] at h;subst h;exact Tp) (by decide+kernel)
theorem Vc:aI 234931:=cE 487 ⋯ (by decide+kernel)
theorem K3:aI 8740842787:=dD 2 [(234931,1)] (λqe h=>by
 simp only[aK,cC,or_false] at h;subst h;exact Vc) (by decide+kernel)
theorem SH:aI 52445056723:=dD 2 [(8740842787,1)] (λqe h=>by
 simp only[aK,cC,or_false] at h;subst h;exact K3) (by decide+kernel)
theorem OK:aI 1000000000000000003:=dD 2 [(52445056723,1)] (λqe h=>by
 simp only[aK,cC,or_false] at h;subst h;exact SH) (by decide+kernel)
theorem He:aI 15331:=cE 126 ⋯ (by decide+kernel)
theorem Xd:aI 2131:=cE 49 ⋯ (by decide+kernel)
theorem EF:aI 5594472617641:=dD 2 [(15331,1),(2131,1)] (λqe h=>by
 simp only[aK,cC,or_false] at h;rcases h with rfl|rfl
 .exact He
 .exact Xd) (by decide+kernel)
theorem Q7:aI 18446744073709551557:=dD 2 [(5594472617641,1)] (λqe h=>by
 simp only[aK,cC,or_false] at h;subst h;exact EF) (by decide+kernel)
theorem Wa:aI 1321:=cE 39 ⋯ (by decide+kernel)
theorem Iy:aI 61:=cE 10 ⋯ (by decide+kernel)
theorem VE:aI 2305843009213693951:=dD 3 [(1321,1),(331,1),(151,1),(61,1)] (λqe h=>by
 simp only[aK,cC,or_false] at h;rcases h with rfl|rfl|rfl|rfl
 .exact Wa
 .exact LH
 .exact IA
 .exact Iy) (by decide+kernel)
theorem YX:aI 8707:=cE 96 ⋯ (by decide+kernel)
theorem Zg:aI 1913:=cE 46 ⋯ (by decide+kernel)
theorem WG:aI 2931542417:=dD 3 [(8707,1),(1913,1)] (λqe h=>by
 simp only[aK,cC,or_false] at h;rcases h with rfl|rfl
 .exact YX
 .exact Zg) (by decide+kernel)
theorem XE:aI 2113:=cE 48 ⋯ (by decide+kernel)
theorem F8:aI 683:=cE 29 ⋯ (by decide+kernel)
theorem Eo:aI 618970019642690137449562111:=dD 3 [(2931542417,1),(2113,1),(683,1)] (λqe h=>by
 simp only[aK,cC,or_false] at h;rcases h with rfl|rfl|rfl
 .exact WG
 .exact XE
 .exact F8) (by decide+kernel)
theorem UO:aI 1097:=cE 36 ⋯ (by decide+kernel)
theorem X0:aI 131:=cE 14 ⋯ (by decide+kernel)
theorem VR:aI 67254877:=dD 2 [(1097,1),(131,1)] (λqe h=>by
 simp only[aK,cC,or_false] at h;rcases h with rfl|rfl
 .exact UO
 .exact X0) (by decide+kernel)
theorem Yn:aI 28059810762433:=dD 3 [(67254877,1)] (λqe h=>by
 simp only[aK,cC,or_false] at h;subst h;exact VR) (by decide+kernel)
theorem Q9:aI 53:=cE 10 ⋯ (by decide+kernel)
theorem Wg:aI 37:=cE 9 ⋯ (by decide+kernel)
theorem K0:aI 13:=cE 6 ⋯ (by decide+kernel)
theorem WD:aI 20394401:=dD 3 [(53,1),(37,1),(13,1)] (λqe h=>by
 simp only[aK,cC,or_false] at h;rcases h with rfl|rfl|rfl
 .exact Q9
 .exact Wg
 .exact K0) (by decide+kernel)
theorem Tu:aI 162259276829213363391578010288127:=dD 3 [(28059810762433,1),(20394401,1)] (λqe h=>by
 simp only[aK,cC,or_false] at h;rcases h with rfl|rfl
 .exact Yn
 .exact WD) (by decide+kernel)
theorem Rj:aI 699053:=cE 839 ⋯ (by decide+kernel)
theorem M2:aI 77158673929:=dD 3 [(699053,1)] (λqe h=>by
 simp only[aK,cC,or_false] at h;subst h;exact Rj) (by decide+kernel)
theorem Pm:aI 649657:=cE 809 ⋯ (by decide+kernel)
theorem SJ:aI 92737:=cE 307 ⋯ (by decide+kernel)
theorem ZG:aI 170141183460469231731687303715884105727:=dD 3 [(77158673929,1),(649657,1),(92737,1)] (λqe h=>by
 simp only[aK,cC,or_false] at h;rcases h with rfl|rfl|rfl
 .exact M2
 .exact Pm
 .exact SJ) (by decide+kernel)
theorem HP:aI 7963:=cE 92 ⋯ (by decide+kernel)
theorem R5:aI 3011:=cE 57 ⋯ (by decide+kernel)
theorem R6:aI 575438233:=dD 2 [(7963,1),(3011,1)] (λqe h=>by
 simp only[aK,cC,or_false] at h;rcases h with rfl|rfl
 .exact HP
 .exact R5) (by decide+kernel)
theorem FL:aI 52316542391429:=dD 2 [(575438233,1)] (λqe h=>by
 simp only[aK,cC,or_false] at h;subst h;exact R6) (by decide+kernel)
theorem Fm:aI 104633084782859:=dD 2 [(52316542391429,1)] (λqe h=>by
 simp only[aK,cC,or_false] at h;subst h;exact FL) (by decide+kernel)
theorem S0:aI 179:=cE 16 ⋯ (by decide+kernel)
theorem Zj:aI 31:=cE 8 ⋯ (by decide+kernel)
theorem RI:aI 7935071:=dD 2 [(179,1),(31,1)] (λqe h=>by
 simp only[aK,cC,or_false] at h;rcases h with rfl|rfl
 .exact S0
 .exact Zj) (by decide+kernel)
theorem Vp:aI 15870143:=dD 2 [(7935071,1)] (λqe h=>by
 simp only[aK,cC,or_false] at h;subst h;exact RI) (by decide+kernel)
theorem Zy:aI 401321030361983486780957614729:=dD 2 [(104633084782859,1),(15870143,1)] (λqe h=>by
 simp only[aK,cC,or_false] at h;rcases h with rfl|rfl
 .exact Fm
 .exact Vp) (by decide+kernel)
theorem Kj:aI 1000000000000000000000000000000000000003:=dD 2 [(401321030361983486780957614729,1)] (λqe h=>by
 simp only[aK,cC,or_false] at h;subst h;exact Zy) (by decide+kernel)
theorem Xx:aI 25733:=cE 163 ⋯ (by decide+kernel)
theorem RC:aI 1151:=cE 36 ⋯ (by decide+kernel)
theorem Z7:aI 4916701379:=dD 2 [(25733,1),(1151,1)] (λqe h=>by
 simp only[aK,cC,or_false] at h;rcases h with rfl|rfl
 .exact Xx
 .exact RC) (by decide+kernel)
theorem Yy:aI 83:=cE 12 ⋯ (by decide+kernel)
theorem WL:aI 23:=cE 7 ⋯ (by decide+kernel)
theorem QI:aI 1676254721:=dD 5 [(83,1),(23,1),(7,3)] (λqe h=>by
 simp only[aK,cC,or_false] at h;rcases h with rfl|rfl|rfl
 .exact Yy
 .exact WL
 .exact Be) (by decide+kernel)
theorem ZJ:aI 149927568276670622397029177:=dD 2 [(4916701379,1),(1676254721,1)] (λqe h=>by
 simp only[aK,cC,or_false] at h;rcases h with rfl|rfl
 .exact Z7
 .exact QI) (by decide+kernel)
theorem Vk:aI 9999999999999999999999999999999999999983:=dD 2 [(149927568276670622397029177,1)] (λqe h=>by
 simp only[aK,cC,or_false] at h;subst h;exact ZJ) (by decide+kernel)
end PC
namespace L2
open PC
def gG(p:Int):Prop:=2<=p/\∀d:Int,0<d->d∣p->d=1\/d=p
theorem fM{n:Nat}(h:aI n):gG (n:Int):=by
 refine⟨by have:=h.1;omega,λd d0 hd=>?_⟩;obtain⟨k,rfl⟩:=B5 (vW d0);rcases h.2 k (Int.natCast_dvd_natCast.mp hd) with e|e
 .left;rw[e];rfl
 .right;rw[e]
theorem Rq{p:Int}(h2:2<=p)(h:vz p):gG p:=by
 obtain⟨n,rfl⟩:=B5 (show 0<=p by omega);refine fM (Ph ∅ λe e1 e2 e3=>?_);refine h (e:Int) ∅ (by rw[<-q3];exact Int.ofNat_le.mpr e2) ?_;have:=congrArg (Nat.cast:Nat->Int) e3;simpa using this
theorem YL:∀p∈vo,gG p:=by
 intro p hp;simp only[vo,aK,cC,or_false] at hp;rcases hp with rfl|rfl|rfl|rfl|rfl|rfl|rfl|rfl|rfl|rfl|rfl|rfl|rfl|rfl|rfl|rfl|rfl|rfl|rfl|rfl|rfl|rfl
 .exact fM DY
 .exact fM Hk
 .exact fM FR
 .exact fM Be
 .exact fM DY
 .exact fM Te
 .exact fM Zc
 .exact fM N1
 .exact fM Om
 .exact fM Ee
 .exact fM WH
 .exact fM Ri
 .exact fM UP
 .exact fM Kb
 .exact fM OK
 .exact fM Q7
 .exact fM VE
 .exact fM Eo
 .exact fM Tu
 .exact fM ZG
 .exact fM Kj
 .exact fM Vk
def NJ:Sp:=λvs H Q _=>∃p b:Int,vs=[.int p, .int b]/\gG p/\p<10^40/\b%p≠0/\∀u:Int,0<=u->u<p->(∃k,u*b=1+p*k)->Q (.int u) H
def GH:Sp:=λvs H Q _=>∃p a b:Int,vs=[.int p, .int a, .int b]/\gG p/\p<10^40/\b%p≠0/\ -(10^61)<=a/\a<=10^61/\∀x:Int,0<=x->x<p->(∃k,b*x-a=p*k)->Q (.int x) H
end L2
namespace L2
theorem ah.three{nb:ax->Prop}{H:Hp}{a b c:PyData}{vs:List V}(h:ah nb H [a,b,c] vs):∃x y z,vs=[x,y,z]/\ai nb H a x/\ai nb H b y/\ai nb H c z:=by
 unfold ah at h;obtain⟨x,ys,rfl,h1,h⟩:=h;unfold ah at h;obtain⟨y,zs,rfl,h2,h⟩:=h;unfold ah at h;obtain⟨z,ws,rfl,h3,h⟩:=h;unfold ah at h;subst h;exact⟨x,y,z,rfl,h1,h2,h3⟩
theorem Ev.over{G:Gx}{ρ:Rh}{t:TA}{Φ:Pd}(h:Av G ρ t λes=>∃p a b:Int,es.map (·.2)=[.int p, .int a, .int b]/\gG p/\p<10^40/\b%p≠0/\ -(10^61)<=a/\a<=10^61/\∀x:Int,0<=x->x<p->(∃k,b*x-a=p*k)->Φ true (.int x)):
  Ev G ρ (gm GH [] E0 t) Φ:=λnb σ H Q W z=>
 h nb σ H _ W λes vs H1 ⟨p,a,b,e,h1,h2,h3,h4,h5,q⟩ s1 J=>by
  have hd:=J.all (f:=false) (λz=>by cases z);rw[e] at hd;obtain⟨x,y,w,rfl,d1,X,c⟩:=hd.three;rw[d1.cP,X.cP,c.cP];exact⟨p,a,b,rfl,h1,h2,h3,h4,h5,λx x1 x2 x3=>z true _ H1 _ (q x x1 x2 x3) s1 (.int x)⟩
theorem Rv{p a b:Int}(hp:gG p)(h:p∣a*b)(ha:¬p∣a):p∣b:=by
 have p2:=hp.1;have g1:((la a p:Nat):Int)∣p:=oi ..;have g2:((la a p:Nat):Int)∣a:=pE ..;have n:0<((la a p:Nat):Int):=by
  have:la a p≠0:=λz=>by have:=(Kc.mp z).2;omega
  omega
 rcases hp.2 _ n g1 with e|e
 .have c:k8 p.natAbs a.natAbs:=by
   show x8 p.natAbs a.natAbs=1;have:la a p=1:=∅
   rw[Nat.gcd_comm];exact this
  have h':p.natAbs∣b.natAbs*a.natAbs:=by rw[tN,<-BN];exact Ad.mpr h
  exact Ad.mp (c.dvd_of_dvd_mul_right h')
 .rw[e] at g2;exact absurd g2 ha
theorem VT{p a b:Int}(ha:0<=a)(c:a<p)(hb:0<=b)(d:b<p)(h:p∣a-b):a=b:=by
 obtain⟨k,e⟩:=h;rcases oo k 0 with z|z|z
 .have:p*k<=p*(-1):=u0 ∅ ∅;omega
 .subst z;omega
 .have:p*1<=p*k:=u0 ∅ ∅;omega
section
variable{X:Cx}{pins:List (ax×Obj)}{σ:List (Option V)}{H:Hp}{s:ar}{h':eC}
theorem Inv.Fu{t':Nat}{e it T:ax}{o:HO}(I:Inv X pins σ H s)(k:∀b u,b≠e->b≠it->s.heap.get? b=some u->h'.get? b=some u)(fe:jg X pins H e)(fi:jg X pins H it)(hT:s.heap.objs.size<=T)(A:T≠e)(L:T≠it)
  (le:∃u,s.heap.get? e=some u) (li:∃u,s.heap.get? it=some u) (new:c7 X.prog X.w (upd H T o) h' T o):Inv X pins σ (upd H T o) {s with heap:=h',toks:=t'}:=by
 have hn:=I.hok.fresh hT;obtain⟨R,e1,e2,e3,e4,e5⟩:=fe;obtain⟨t,G,C,f,d,i5⟩:=fi;have ne:∀b u,H b=some u->b≠e:=λb u q z=>by rw[z,R] at q;cases q
 have ni:∀b u,H b=some u->b≠it:=λb u q z=>by rw[z,t] at q;cases q
 have l:∀b u,H b=some u->b≠T:=λb u q z=>by rw[z,hn] at q;cases q
 refine I.step (g':=s.gens) (d':=s.drawn) (ch:=[e,it]) (λb hb=>?_) (λb o _ _ hc q _=>k b o (λz=>hc (by simp[z])) (λz=>hc (by simp[z])) q) (λb o _ _ hc q _=>⟨o.slots,k b o (λz=>hc (by simp[z])) (λz=>hc (by simp[z])) q⟩)
  (λb o hc q n=>?_) (λb o hc q=>⟨o,k b o (λz=>hc (by simp[z])) (λz=>hc (by simp[z])) q⟩) (λb xs q=>by rw[bq (l b _ q)];exact q) (λb o u q=>by rw[bq (l b _ q)];exact q) (λb ps q=>⟨#[],by rw[bq (l b _ q),q];simp⟩) (λm hm=>?_) (λb u q=>?_) I.bare
 .rcases(show b=e\/b=it by simpa using hb) with z|z
  .subst z;exact⟨e3,e1,e4,e5⟩
  .subst z;exact⟨f,G,d,i5⟩
 .rw[bq (λz=>absurd (eK (bP q) (by rw[z];exact hT)) (jE _))];exact n
 .obtain⟨o,es,ep,D,r⟩:=hm;exact⟨o,es,ep,k _ o (cB e1) (cB G) D,r⟩
 .by_cases hb:b=T;·subst hb;rw[bx] at q;cases q;exact new
  .rw[bq hb] at q;refine(I.hok b u q).stay (λc v hc z=>?_) (λc z=>by rw[bq (l c _ z)];exact z) λc xs z=>by rw[bq (l c _ z)];exact z
   rcases hc with y|y
   .subst y;exact k _ v (ne _ u q) (ni _ u q) z
   .exact k c v (ne c _ y) (ni c _ y) z
theorem Inv.Vx{t':Nat}{e it:ax}(I:Inv X pins σ H s)(k:∀b u,b≠e->b≠it->s.heap.get? b=some u->h'.get? b=some u)(fe:jg X pins H e)(fi:jg X pins H it):Inv X pins σ H {s with heap:=h',toks:=t'}:=by
 obtain⟨R,e1,e2,e3,e4,e5⟩:=fe;obtain⟨t,G,C,f,d,i5⟩:=fi;have ne:∀b u,H b=some u->b≠e:=λb u q z=>by rw[z,R] at q;cases q
 have ni:∀b u,H b=some u->b≠it:=λb u q z=>by rw[z,t] at q;cases q
 refine I.step (g':=s.gens) (d':=s.drawn) (ch:=[e,it]) (λb hb=>?_) (λb o _ _ hc q _=>k b o (λz=>hc (by simp[z])) (λz=>hc (by simp[z])) q) (λb o _ _ hc q _=>⟨o.slots,k b o (λz=>hc (by simp[z])) (λz=>hc (by simp[z])) q⟩)
  (λ_ _ _ _ n=>n) (λb o hc q=>⟨o,k b o (λz=>hc (by simp[z])) (λz=>hc (by simp[z])) q⟩) (λ_ _ q=>q) (λ_ _ _ q=>q) (λb ps q=>⟨#[],by rw[q];simp⟩) (λm hm=>?_) (λb u q=>?_) I.bare
 .rcases(show b=e\/b=it by simpa using hb) with z|z
  .subst z;exact⟨e3,e1,e4,e5⟩
  .subst z;exact⟨f,G,d,i5⟩
 .obtain⟨o,es,ep,D,r⟩:=hm;exact⟨o,es,ep,k _ o (cB e1) (cB G) D,r⟩
 .refine(I.hok b u q).stay (λc v hc z=>?_) (λc z=>z) λc xs z=>z;rcases hc with y|y
  .subst y;exact k _ v (ne _ u q) (ni _ u q) z
  .exact k c v (ne c _ y) (ni c _ y) z
end
noncomputable def yi(K:PySem.W.Frag)(a:ax):It:=
 ⟨λi H=>∃xs x,aZ K H a xs/\xs[i]?=some x,λi H x H'=>∃p y,x= .ref p/\H p=none/\(∀xs,aZ K H a xs->xs[i]?=some y)/\H'=upd H p (.tup [.int i,y]),λi H=>∃xs,aZ K H a xs/\xs.length=i⟩
theorem Xp{P:bg}{w:cq}{K:PySem.W.Frag}{g:List et}{k:Nat}{pos:Pos}(a e it:ax)(n:e≠it):
  Turn P w K (.Tuple g k pos) (yi K a) [e,it] e (λi h=>(∃old,IsEnum h e it i old)/\h.IsListIter it a i) where
 mem:=by simp
 obj:=λi h st b hb=>by
  obtain⟨⟨old,s1⟩,⟨o,e1,c,d⟩⟩:=st;rcases(show b=e\/b=it by simpa using hb) with z|z
  .subst z
   exact⟨_,s1,λv z=>by
    have z':xg _=zt v:=z;cases z'⟩
  .subst z;exact⟨o,e1,λv z=>by rw[d] at z;cases z⟩
 keep:=λi h h' st k=>⟨let ⟨old,s1⟩:=st.1;⟨old,k e (by simp) _ s1⟩,st.2.at λo q=>k it (by simp) o q⟩
 item:=by
  intro X hP hw hK hc i pins s σ H E I hf st hg;subst hP hw hK;obtain⟨xs,x,hq,hx⟩:=hg;obtain⟨its,rv,p,hz⟩:=I.list hq;obtain⟨u,hu,ru⟩:=rv.get hx;have fe:=hf e (by simp);have fi:=hf it (by simp);obtain⟨⟨old,s1⟩,s2⟩:=st;obtain⟨B,F,V,y⟩:=id p.isList;obtain⟨J,G,C,f⟩:=id s2;have r:a≠e:=λz=>by
   subst z;rw[s1] at F;cases F
   exact absurd V (by simp)
  have m:a≠it:=λz=>by
   subst z;rw[G] at F;cases F
   rw[C] at V;exact absurd V (by simp)
  have W:=pL (prog:=X.prog) (w:=X.w) (I.ok.hd hc) e it a n r m its.toArray;have hi:i<its.toArray.size:=by
   have:=(bT.mp hu).1;simpa using this
  refine W.item i s _ _ hi ⟨⟨old,s1⟩,s2,p.isList⟩ λT j h' tk hv hT T5 D kp=>⟨.ref T,rfl,?_⟩;refine W.go g k pos i T _ _ _ D λh'' st' R=>?_;obtain⟨t,O,M,Z⟩:=hv;have N:O=u:=by
   have:its.toArray[i]?=some u:=by simpa using hu
   rw[M] at this;exact jt this
  subst N Z;have Zk:=W.apart i T h' D;obtain⟨_,_,_,A,L⟩:=D;obtain⟨U,Y,S,l,Q⟩:=T5;have t1':=R T U Zk Y;refine⟨.ref T,upd H T (.tup [.int i,x]),I.Fu (λb v h1 h2 q=>R b v (by simp[h1,h2]) (kp b v (by simp[h1,h2]) q)) fe fi hT A L ⟨_,s1⟩ ⟨_,G⟩ ?_,rfl,⟨T,x,rfl,I.hok.fresh hT,λys hy=>by rw[I.MN hy hq];exact hx,rfl⟩,⟨st'.1,st'.2.1⟩,λb hb=>?_⟩;·exact⟨by show 2<=sizeLine;decide,[.int i t,O], .cons ⟨t,rfl⟩ (.cons ru .nil),U,t1',S,l,Q⟩
  .rw[bq,(hf b hb).1];rcases(show b=e\/b=it by simpa using hb) with z|z
   .rw[z];exact cB A
   .rw[z];exact cB L
 done:=by
  intro X hP hw hK hc i pins s σ H E I hf st hg;subst hP hw hK;obtain⟨xs,hq,hx⟩:=hg;obtain⟨its,rv,p,hz⟩:=I.list hq;have fe:=hf e (by simp);have fi:=hf it (by simp);obtain⟨⟨old,s1⟩,s2⟩:=st;obtain⟨B,F,V,y⟩:=id p.isList;obtain⟨J,G,C,f⟩:=id s2;have hl:=rv.length;have r:a≠e:=λz=>by
   subst z;rw[s1] at F;cases F
   exact absurd V (by simp)
  have m:a≠it:=λz=>by
   subst z;rw[G] at F;cases F
   rw[C] at V;exact absurd V (by simp)
  have W:=pL (prog:=X.prog) (w:=X.w) (I.ok.hd hc) e it a n r m its.toArray;have hn:its.toArray.size=i:=by rw[dW];omega
  refine W.done s _ _ (by rw[hn];exact⟨⟨old,s1⟩,s2,p.isList⟩) λh' tk kp=>⟨rfl,?_⟩;exact I.Vx (λb v h1 h2 q=>kp b v (by simp[h1,h2]) q) fe fi
 self:=λ_ _ _ _ _ st h=>let ⟨old,s1⟩:=st.1;ot s1 h
def CL(K:PySem.W.Frag)(tl:TE):TI:=λσ H R=>tl σ H λx H1=>∃a,x= .ref a/\(∃xs,aZ K H1 a xs)/\R (yi K a) H1
theorem Mn{X:Cx}{K:PySem.W.Frag}{g:List et}{k:Nat}{tpos:Pos}{l:et}{tl:TE}{p pos:Pos}(c:X.K=K)(hg:Gl X "enumerate")(hm:X.mg "enumerate"=none)(hl:PE X l tl)(hs:cm [l] X.env=[(false,eval l X.env)]:=by rfl):
    PI X (.Tuple g k tpos) (.Call (.Name "enumerate" p) [l] [] pos) (CL K tl):=by
  subst c;intro pins s σ H R I h;have ha:PA X [l] (bz tl bM):=aa hl af (by rw[hs];rfl);refine Call_ (qV I hg hm boot_enumerate (wZ (aP (ha pos pins s σ H (λvs H1=>match vs with|[x]=>∃a,x= .ref a/\(∃xs,aZ X.K H1 a xs)/\R (yi X.K a) H1|_=>False) I h) λus s1 ⟨vs,H1,I1,C,J⟩=>?_) hs rfl));cases C with
  |nil=>exact J.elim
  | cons r f =>
    cases f with
    |cons _ _=>exact J.elim
    |nil=>
    obtain⟨a,e2,⟨xs,hq⟩,q⟩:=J;subst e2;cases r;obtain⟨its,rv,p,hz⟩:=I1.list hq;obtain⟨m,hn,_⟩:=I1.loc;refine enum_rows (h₀:={objs:= #[]}) (L:=X.env.locals) (m:=m) ⟨hn,λb o z=>?_,fj _⟩ p.isList λh' e1 e2 e3 e4 kp ne n1 n2 _ _=>?_;· cases z
    refine ot e1 ?_;have I2:Inv X pins σ H1 {s1 with heap:=h'}:=I1.kept (t':=s1.toks) kp;refine⟨s1.heap.objs.size+1,[s1.heap.objs.size+1,s1.heap.objs.size],_,_,H1,rfl,I2,Xp a _ _ ne,⟨⟨_,e1⟩,e2⟩,λb hb=>?_,q⟩;rcases(show b=s1.heap.objs.size+1\/b=s1.heap.objs.size by simpa using hb) with z|z
    · subst z;exact I1.nX (qS _) (I1.hok.fresh (qS _))
    · subst z;exact I1.nX (aH _) (I1.hok.fresh (aH _))
theorem R.QN{K:PySem.W.Frag}{a:ax}{xs:List V}{g:TG}{tc:TT}{te:TE}{acc:ax}{d:Hp->Prop}{σ:qg}{H:Hp}(Pv:Nat->qg->Hp->Prop)(h0:Pv 0 σ H)(hl:∀i σ H,i<=xs.length->Pv i σ H->aZ K H a xs)
  (hs:∀i x σ H p,xs[i]?=some x->Pv i σ H->H p=none->g (.ref p) σ (upd H p (.tup [.int i,x])) λk H2=>tc k H2 λb H3=>if b=true then te k H3 λv H4=>∃ys,H4 acc=some (.lst ys)/\ys.length<sizeLine/\Pv (i+1) k (upd H4 acc (.lst (ys++[v]))) else Pv (i+1) k H3)
  (hd:∀σ H,Pv xs.length σ H->d H):nH (yi K a) g tc te acc d σ H:=by
 refine⟨λi m σ H=>m=xs.length-i/\i<=xs.length/\Pv i σ H,⟨xs.length,by simp,fj _,h0⟩,?_⟩;rintro i m σ H ⟨rfl,hi,p⟩;have q:=hl i σ H hi p;by_cases hlt:i<xs.length
 .refine .inr ⟨⟨xs,xs[i],q,by simp[hlt]⟩,Pv (i+1),λL H' r=>⟨xs.length-(i+1),∅,rfl,hlt,r⟩,λx H' y=>?_⟩;obtain⟨pp,y,e,hn,hy,e2⟩:=y;subst e e2;exact hs i y σ H pp (hy xs q) p hn
 .have e:i=xs.length:=∅
  subst e;exact .inl ⟨⟨xs,q,rfl⟩,hd σ H p⟩
section
variable{G:Gx}{ρ bU:Rh}{te:TE}{s:TS}{gt:TG}{E:DE}{K:PySem.W.Frag}{Θ:Bool->List PyData->Prop}{tc:TT}{mp:List (Option Nat)}
theorem Sv.UL(h:Ev G ρ te λf x=>∃ds,x= .list ds/\∀v,yX (G.hd f (.list ds) v) ρ ds.length (λi d=>∃e,ds[i]?=some e/\d= .tuple [.int i,e]) f gt s E):Sv G ρ (qD (CL K te) gt s) E:=λnb σ H D W KK=>
 h nb σ H _ W λf v H1 x ⟨ds,ex,q⟩ s1 hv=>by
  subst ex;obtain⟨I,h0,ht,he⟩:=q v;have W1:=(W.step s1).hd hv;obtain⟨a,xs,rfl,n,hx,hd⟩:=hv.eN;have key:∀{nb C σ H},Wd (G.hd f (.list ds) (.ref a)) nb C σ H->∃xs,H a=some (.lst xs)/\ah (G.S nb f) H ds xs:=λW=>by
   obtain⟨N,l,e',_,h',d'⟩:=W.jD.2.eN;cases e';exact⟨l,h',d'⟩
  refine⟨a,rfl,⟨xs, .of hx⟩,?_⟩;refine⟨λi m σ H=>m=ds.length-i/\i<=ds.length/\∃nb C,I i C/\Wd (G.hd f (.list ds) (.ref a)) nb C σ H,⟨ds.length,by simp,fj _,nb,ρ,h0,W1⟩,?_⟩;rintro i m σ H ⟨rfl,hi,nb,C,hI,W⟩;obtain⟨ys,hy,j⟩:=key W;have hl:=j.length;by_cases hlt:i<ds.length
  .refine .inr ⟨⟨ys,ys[i]'∅, .of hy,bw _⟩,λσ H=>∃nb C,I (i+1) C/\Wd (G.hd f (.list ds) (.ref a)) nb C σ H,λL H' q=>⟨ds.length-(i+1),∅,rfl,hlt,q⟩,λx H' y=>?_⟩;obtain⟨p,y,e,hn,hz,e2⟩:=y;subst e e2;have hx:=hz ys (.of hy);obtain⟨O,M,dx⟩:=j.get (bw hlt);rw[hx] at M;cases M
   have st:Step (G.hd f (.list ds) (.ref a)).B H (upd H p (.tup [.int i,y])):= .same W.az (cL hn);refine ht i _ C ⟨_,bw hlt,rfl⟩ hI nb σ _ _ _ (W.step st) (.tup (W.fresh hn) bx (.cons (.int _) (.cons (dx.keep st.dJ) .nil))) λk g q W2=>q nb k _ _ W2 ?_;exact⟨λnb ρ σ H q W=>⟨nb,ρ,q,W⟩,λnb ρ σ H q W=>KK.nx nb ρ σ H q W.jD.1,λnb ρ σ H q W=>⟨nb,ρ,q,W⟩,λnb ρ σ f v H d q W hv=>KK.rt nb ρ σ f v H d q W.jD.1 hv,λnb ρ σ v H q W=>KK.rw nb ρ σ v H q W.jD.1⟩
  .have e:i=ds.length:=∅
   subst e;exact .inl ⟨⟨ys, .of hy,∅⟩,KK.nx nb C σ H (he C hI) W.jD.1⟩
theorem aq.ZO{t0:TE}(hm:(mp.filterMap id).Nodup)(r:kJ mp ρ=bU)(h:Ev G ρ t0 λfi x=>∃es,x= .list es/\es.length<=10000/\∀v,g6 (G.hd fi (.list es) v) bU es.length (λi d=>∃e,es[i]?=some e/\d= .tuple [.int i,e]) fi gt tc te Θ):aq G ρ (jK (CL K t0) gt tc te mp) Θ:=λnb σ H Q W z=>
 h nb σ H _ W λfi v H1 x ⟨es,ex,hn,q⟩ s1 hv=>by
  subst ex;obtain⟨fl,I,h0,ht,he⟩:=q v;have W0:=(W.step s1).hd hv;obtain⟨a,xs,rfl,n,hx,hd⟩:=hv.eN;refine⟨a,rfl,⟨xs, .of hx⟩,λacc g=>?_⟩;have c:Wd (G.hd fi (.list es) (.ref a)) nb bU (L2.fU mp σ) H1:=by rw[<-r];exact W0.fU hm
  have W1:=c.more g (o:= .lst []);have hN:=NB.new s1.2 g;have hno:=tQ c g;have dz:Step G.B H1 (upd H1 acc (.lst [])):= .same s1.2 (cL g);have f:NB G.B a:=jS λz=>n (.inr (.inr (.inl z)));refine R.QN (xs:=xs) (λi σ H=>∃ds ys,Wd (G.hd fi (.list es) (.ref a)) (λx=>nb x\/x=acc) bU σ H/\Step G.B H1 H/\H acc=some (.lst ys)/\ah (G.S (λx=>nb x\/x=acc) fl) H ds ys/\ds.length<=i/\I i ds/\H a=some (.lst xs)) ⟨[],[],W1,dz,bx, .nil,aH _,h0,dz.1 _ _ f hx⟩ ?_ ?_ ?_
  .rintro i σ H hi ⟨ds,ys,W,st,_,_,_,_,ha⟩;exact .of ha
  .rintro i x σ H p hi ⟨ds,ys,W,st,hy,j,hl,hI,ha⟩ hp;obtain⟨N,l,e',_,h',d'⟩:=W.jD.2.eN;cases e';rw[ha] at h';cases h'
   have hil:i<es.length:=by have:=(bT.mp hi).1;have:=d'.length;omega
   obtain⟨O,M,dx⟩:=d'.get (bw hil);rw[hi] at M;cases M
   have st2:Step (G.hd fi (.list es) (.ref a)).B H (upd H p (.tup [.int i,x])):= .same W.az (cL hp);have hap:acc≠p:=λz=>by subst z;rw[hp] at hy;cases hy
   have m:a≠p:=λz=>by subst z;rw[hp] at ha;cases ha
   refine uo (G:=G.hd fi (.list es) (.ref a)) hn hil (W.step st2) (.inr rfl) hN hno (st.trans st2) g (by rw[bq hap];exact hy) (j.keep st2.dJ) hl (.tup (W.fresh hp) bx (.cons (.int _) (.cons (dx.keep st2.dJ) .nil))) (ht i _ ds ⟨_,bw hil,rfl⟩ hl hI) λL H' k l W' st' M j hl' b=>⟨k,l,W',st',M,j,hl',b,st'.1 _ _ f hx⟩
  .rintro σ H' ⟨ds,ys,W',st,hy,j,hl,hI,_⟩;rw[hd.length] at hl hI;exact uL W s1 g st hy j (he ds hl hI) z
end
def N8(ρ:Rh)(a:ax):Prop:=∃(i:Nat) (f:Bool) (ds:List PyData),ρ[i]?=some (.own a f ds)
def cQ(G:Gx)(ρ:Rh)(ta:TA)(Φ:List PyData->Prop):Prop:=∀nb σ H (Q:List V->Hp->Prop),Wd G nb ρ σ H->(∀ds vs H',Φ ds->Step G.B H H'->ah (λc=>G.S nb false c/\¬N8 ρ c) H' ds vs->Q vs H')->ta σ H Q
section
variable{G:Gx}{ρ:Rh}{Φ:Pd}{te:TE}{t:TA}{i n:Nat}{f:Bool}{ds:List PyData}{Θ:List PyData->Prop}
theorem cQ.nil(h:Θ []):cQ G ρ bM Θ:=λnb σ H Q W z=>z [] [] H h (.refl W.az) .nil
theorem cQ.cons(h:Ev G ρ te λ_ d=>cQ G ρ t λds=>Θ (d::ds)):cQ G ρ (bz te t) Θ:=λnb σ H Q W z=>
 h nb σ H _ W λf v H1 d j s1 J=>j nb σ H1 _ (W.step s1) λds vs H2 p2 s2 O=>z _ _ H2 p2 (s1.trans s2) (.cons ((J.keep s2.dJ).av λc hc=>bZ (λz=>by cases z) (λ_ z=>z) c hc.1) O)
theorem cQ.own{a:ax}(e:ρ[i]?=some (.own a f ds))(h:cQ G ρ t λes=>Θ (.list ds::es)):cQ G ρ (bz (cH i) t) Θ:=λnb σ H Q W z=>by
 obtain⟨x,e1,h1,h2,h3,xs,hx,hd⟩:=W.ok i _ e;subst h1;refine⟨.ref a,e1,h nb σ H _ W λes vs H1 p s1 J=>z _ _ H1 p s1 (.cons ?_ J)⟩;exact .lst (λhc=>hc.2 ⟨i,f,ds,e⟩) (s1.1 _ _ h3 hx) ((hd.keep s1.dJ).av λc hc=>bZ (λz=>by cases z) (λ_ z=>z) c hc.1)
theorem Ev.pV{F:DF}(hm:cM F)(h:cQ G ρ t λds=>ds.length=n/\F ds λf d=>(f=true\/jH d=true)/\Φ true d):Ev G ρ (gm (aU n F) [] E0 t) Φ:=λnb σ H Q W z=>
 h nb σ H _ W λds vs H1 ⟨hl,p⟩ s1 J=>by
  have W1:=W.step s1;rw[fY];refine⟨by rw[J.length,hl],λc=>G.S nb false c/\¬N8 ρ c,ds,λc hc=>W1.gp c hc.1,J,hm _ _ _ p λf d hp v H' sm hd=>?_⟩;obtain⟨hf,q⟩:=hp;rcases hf with rfl|hs
  .exact z true v H' d q (s1.trans (.same W1.az sm)) (hd.av λa b=> .inr ⟨rfl,W1.gp a b⟩)
  .exact z true v H' d q (s1.trans (.same W1.az sm)) (hd.lU hs)
theorem Ev.RT(h:Ev G ρ te λ_ x=>∃n:Int,x= .int n/\2<=n/\n<=10002/\∀r:Int,gG r->r<10^40->Φ true (.int r)):Ev G ρ (gm GZ [] E0 (bz te bM)) Φ:=λnb σ H Q W z=>
 h nb σ H _ W λf v H1 d ⟨n,e,h1,h2,p⟩ s1 hv=>by
  subst e;exact⟨n,by rw[hv.cP];rfl,h1,h2,λr H' sm C U g=>z true _ H' _ (p r (Rq C g) ∅) (s1.trans (.same (W.step s1).az sm)) (.int r)⟩
theorem Ev.str{x:Str}(h:Φ true (.str x)):Ev G ρ (tC (.str x)) Φ:=λnb σ H Q W z=>z true _ H _ h (.refl W.az) (by unfold ai;rfl)
end
theorem Eu.fin{p b L lt t:Int}(h:Eu p b L lt 0 t)(hp:gG p)(hb:b%p≠0):∃k,lt%p*b=1+p*k:=by
 obtain⟨g1,g2⟩:=h.dv L (Int.dvd_refl L) (Int.dvd_zero L);have m1:=i8 b (show p≠0 by have:=hp.1;omega);have m2:=i6 b (show 0<p by have:=hp.1;omega);have y:L=1:=by
  rcases hp.2 L h.l0 g1 with e|e
  .exact e
  .exfalso;rw[e] at g2;have:=Fo ∅ g2;omega
 obtain⟨k,hk⟩:=h.lc;have e:=nk lt p;refine⟨-k-lt/p*b,?_⟩;have e2:lt%p=lt-p*(lt/p):=∅
 rw[e2,vL,mR,xw,jI];omega
noncomputable def sol(p b a:Int):Int:=open Classical in if h:∃x,0<=x/\x<p/\∃k,b*x-a=p*k then pS h else 0
theorem Kd{p b a x:Int}(hp:gG p)(hb:b%p≠0)(h0:0<=x)(h1:x<p)(hx:∃k,b*x-a=p*k):x=sol p b a:=by
 have ex:∃x,0<=x/\x<p/\∃k,b*x-a=p*k:=⟨x,h0,h1,hx⟩;unfold sol;rw[dif_pos ex];obtain⟨n,g1,k',c⟩:=Jh ex;generalize pS ex=y at*;obtain⟨k,hk⟩:=hx;refine VT h0 h1 n g1 (Rv hp (a:=b) ⟨k-k',?_⟩ λz=>hb (ME z));rw[mR,mR];omega
theorem FG{p b a:Int}(hp:0<p):0<=sol p b a/\sol p b a<p:=by
 unfold sol;split
 .rename_i h
  obtain⟨n,g1,_⟩:=Jh h;exact⟨n,g1⟩
 .omega
noncomputable def fJ(wd:Wo)(prs:aA):aA:=prs.filter λpr=>wd[pr.1.toNat]?==some none
theorem Ay{wd:Wo}{prs:aA}{pr:Int×Int}:fJ wd (prs++[pr])=if wd[pr.1.toNat]?=some none then fJ wd prs++[pr] else fJ wd prs:=by
 unfold fJ;rw[nP];by_cases c:wd[pr.1.toNat]?=some none;·rw[if_pos c,tH (by rw[c];rfl)];rfl
 .rw[if_neg c,uY (by simpa using c)];simp
noncomputable def cG(p:Int)(prs:aA)(rest:Int)(wd:Wo):Option (Int×Int):=match fJ wd prs with
 |[pr]=>some (pr.1,sol p pr.2 (rest-dB prs wd%p))
 |_=>none
noncomputable def jJ:Option (Int×Int)->PyData
 |none=> .none
 |some pr=>Bh pr
noncomputable def jl(wd:Wo):List Int:=((bo wd.length).filter λi=>wd[i]?==some none).map λ(i:Nat)=>(i:Int)
def wC(p:Int)(prs:aA):Prop:=∀pr∈prs,pr.2%p≠0
def dZ(p:Int)(cs:List aA)(m:Nat):Prop:=gG p/\p<10^40/\cs.length<=1000/\∀prs∈cs,prs.length<=1000/\qF prs m/\wC p prs
theorem dZ.at{p:Int}{cs:List aA}{m:Nat}{c:Int}(h:dZ p cs m)(h0:0<=c)(h1:c<cs.length):∃prs,cs[c.toNat]?=some prs/\cs.getD c.toNat []=prs/\prs.length<=1000/\qF prs m/\wC p prs:=by
 have hc:c.toNat<cs.length:=∅
 refine⟨cs[c.toNat],bw hc,?_,h.2.2.2 _ (fZ hc)⟩;rw[k9,bw hc];rfl
noncomputable abbrev bf:=Int×Int×Int
noncomputable abbrev cz(m:bf):PyData:= .tuple [.int m.1, .int m.2.1, .int m.2.2]
noncomputable def gu(p:Int)(cs:List aA)(wd:Wo)(m:bf):PyData:=
 if m.2.1<0\/(cs.length:Int)<=m.2.1 then .str "check" else match cG p (cs.getD m.2.1.toNat []) 0 wd with
 |none=> .str "place"
 |some (a,x)=>if a≠m.1 then .str "place" else if x≠m.2.2 then .str "letter" else .none
noncomputable def A4(wd:Wo)(ms:List bf):Wo:=ms.foldl (λw m=>w.set m.1.toNat (some m.2.2)) wd
theorem Bn{wd:Wo}{ms:List bf}{m:bf}:A4 wd (ms++[m])=(A4 wd ms).set m.1.toNat (some m.2.2):=by
 unfold A4;rw[ou];rfl
def pY(p:Int)(cs:List aA)(wd:Wo)(ms:List bf)(j:Nat):Prop:=∃m,ms[j]?=some m/\gu p cs (A4 wd (ms.take j)) m= .none
noncomputable def outs(p:Int)(cs:List aA)(w:Wo):List Nat:=(bo cs.length).filter λc=>(cG p (cs.getD c []) 0 w).isSome
noncomputable def kr(p:Int)(cs:List aA)(w:Wo)(left:List Int):PyData:=
 if left≠jl w then .tuple [.str "left", .int 0] else match(outs p cs w).head? with
 |none=> .none
 |some c=> .tuple [.str "out", .int c]
def nI(p:Int)(cs:List aA)(wd:Wo)(ms:List bf)(left:List Int)(d:PyData):Prop:=
 (∃(i:Nat) (m:bf) (x:Str),(∀j<i,pY p cs wd ms j)/\ms[i]?=some m/\gu p cs (A4 wd (ms.take i)) m= .str x/\d= .tuple [.str x, .int i])\/((∀j<ms.length,pY p cs wd ms j)/\d=kr p cs (A4 wd ms) left)
theorem nI.uniq{p:Int}{cs:List aA}{wd:Wo}{ms:List bf}{left:List Int}{d e:PyData}(h:nI p cs wd ms left d)(q:nI p cs wd ms left e):d=e:=by
 have no:∀{i:Nat} {m:bf} {x:Str},ms[i]?=some m->gu p cs (A4 wd (ms.take i)) m= .str x->¬pY p cs wd ms i:=λe1 e2 ⟨m',e3,e4⟩=>by
  rw[e1] at e3;cases e3
  rw[e2] at e4;cases e4
 have lt:∀{i:Nat} {m:bf},ms[i]?=some m->i<ms.length:=λe=>(bT.mp e).1;rcases h with ⟨i,m,x,a1,a2,a3,rfl⟩|⟨a1,rfl⟩
 .rcases q with ⟨i',m',x',b1,b2,b3,rfl⟩|⟨b1,rfl⟩
  .have:i=i':=by
    rcases xD i i' with z|z|z
    .exact absurd (b1 i z) (no a2 a3)
    .exact z
    .exact absurd (a1 i' z) (no b2 b3)
   subst this;rw[a2] at b2;cases b2
   rw[a3] at b3;cases b3
   rfl
  .exact absurd (b1 i (lt a2)) (no a2 a3)
 .rcases q with ⟨i',m',x',b1,b2,b3,rfl⟩|⟨b1,rfl⟩
  .exact absurd (a1 i' (lt b2)) (no b2 b3)
  .rfl
theorem DS{wd:Wo}{prs:aA}{pr:Int×Int}(h:pr∈fJ wd prs):pr∈prs/\wd[pr.1.toNat]?=some none:=by
 unfold fJ at h;have:=k6.mp h;exact⟨this.1,by simpa using this.2⟩
theorem Aj{p:Int}{prs:aA}{rest:Int}{wd:Wo}{a x:Int}(hp:0<p)(h:cG p prs rest wd=some (a,x)):∃pr∈prs,pr.1=a/\wd[a.toNat]?=some none/\0<=x/\x<p:=by
 unfold cG at h;split at h
 .rename_i pr e
  cases h;have:=DS (wd:=wd) (prs:=prs) (pr:=pr) (by rw[e];simp);exact⟨pr,this.1,rfl,this.2,FG hp⟩
 .cases h
theorem AO{p:Int}{cs:List aA}{wd:Wo}{m:bf}(hN:dZ p cs wd.length)(hW:dU wd)(h:gu p cs wd m= .none):0<=m.1/\m.1<wd.length/\0<=m.2.2/\m.2.2<p/\0<=m.2.1/\m.2.1<cs.length:=by
 have p2:=hN.1.1;unfold gu at h;split at h;·cases h
 rename_i c
 have c1:0<=m.2.1:=∅
 have c2:m.2.1<cs.length:=∅
 split at h;·cases h
 rename_i a x e
 split at h;·cases h
 rename_i T
 split at h;·cases h
 rename_i t
 have T:a=m.1:=∅
 have t:x=m.2.2:=∅
 obtain⟨prs,e1,e2,e3,e4,e5⟩:=hN.at c1 c2;rw[e2] at e;obtain⟨pr,g1,g2,N,g,W⟩:=Aj ∅ e;have:=e4 pr g1;omega
theorem su{n:Nat}{k:Int}(h0:0<=k)(h1:k<n):ir n k=some k.toNat:=by
 unfold ir;rw[if_pos h0,if_pos h1]
theorem iy{wd:Wo}{ms:List bf}:(A4 wd ms).length=wd.length:=by
 unfold A4;induction ms generalizing wd with
 |nil=>rfl
 |cons m r ih=>rw[rr,ih,jd]
theorem Ey(p:Int)(cs:List aA)(wd:Wo)(m:bf):gu p cs wd m= .none\/∃x,gu p cs wd m= .str x:=by
 unfold gu;split;·exact .inr ⟨_,rfl⟩
 split;·exact .inr ⟨_,rfl⟩
 split;·exact .inr ⟨_,rfl⟩
 split;·exact .inr ⟨_,rfl⟩
 .exact .inl rfl
theorem dU.put{wd:Wo}{k:Nat}{x:Int}(h:dU wd)(hx:Sm x):dU (wd.set k (some x)):=λy hy=>by
 rcases L4 hy with z|z
 .exact h y z
 .cases z;exact hx
theorem qA{p:Int}{cs:List aA}{wd:Wo}{ms:List bf}(hN:dZ p cs wd.length)(hW:dU wd):∀{i:Nat},(∀j<i,pY p cs wd ms j)->dU (A4 wd (ms.take i))
  |0,_=>by simpa[A4] using hW
  | i + 1, h => by
    have ih:=qA hN hW (i:=i) λj hj=>h j ∅;obtain⟨m,e1,e2⟩:=h i ∅;rw[Bf e1,Bn];have p2:=hN.1.1;have qQ:=hN.2.1;have:=AO (by rw[iy];exact hN) ih e2;exact ih.put (by unfold Sm;omega)
theorem head_filter{n:Nat}{P:Nat->Bool}{c:Nat}(hc:c<n)(h:P c=true)(hno:∀j<c,P j=false):((bo n).filter P).head?=some c:=by
 rw[List.head?_filter,List.find?_range_eq_some];exact⟨h,by simpa using hc,λj hj=>by simp[hno j hj]⟩
theorem Tq{n:Nat}{P:Nat->Bool}(hno:∀j<n,P j=false):((bo n).filter P).head?=none:=by
 have:(bo n).filter P=[]:=by
  rw[JR];intro a ha;simp[hno a (pX.mp ha)]
 rw[this];rfl
theorem gx{X:Cx}{K:PySem.W.Frag}{tg l:et}{tl:TE}(c:X.K=K)(hl:PE X l tl):PI X tg l (oH K tl):=by subst c;exact M8 hl
def m9(p:Int)(cs:List aA)(wd:Wo)(ms:List bf):Prop:=∀j<ms.length,pY p cs wd ms j
theorem WY{p:Int}{cs:List aA}{wd:Wo}{m:bf}(h:gu p cs wd m= .none):0<=m.2.1/\m.2.1<cs.length/\cG p (cs.getD m.2.1.toNat []) 0 wd=some (m.1,m.2.2):=by
 unfold gu at h;split at h;·cases h
 rename_i c
 split at h;·cases h
 rename_i a x e
 split at h;·cases h
 rename_i T
 split at h;·cases h
 rename_i t
 have T:a=m.1:=∅
 have t:x=m.2.2:=∅
 subst T t;exact⟨∅,∅,e⟩
theorem V7{p:Int}{prs:aA}{wd:Wo}{a x:Int}(h:cG p prs 0 wd=some (a,x)):∃pr,fJ wd prs=[pr]/\pr.1=a/\x=sol p pr.2 (0-dB prs wd%p):=by
 unfold cG at h;split at h
 .rename_i pr e
  cases h;exact⟨pr,e,rfl,rfl⟩
 .cases h
theorem ZS{p:Int}{cs:List aA}{wd:Wo}{a c x:Int}(h0:0<=c)(h1:c<cs.length)(h:cG p (cs.getD c.toNat []) 0 wd=some (a,x)):gu p cs wd (a,c,x)= .none:=by
 unfold gu;rw[if_neg (by show¬(c<0\/(cs.length:Int)<=c);omega)];show(match cG p (cs.getD c.toNat []) 0 wd with|none=>_|some (N,x')=>_)=_;rw[h];simp
noncomputable def cnt(wd:Wo):Nat:=wd.countP λo=>o.isNone
theorem KS:∀{wd:Wo} {k:Nat} {x:Int},wd[k]?=some none->cnt (wd.set k (some x))+1=cnt wd
  |[],k,x,h=>by simp at h
  | o :: wd, 0, x, h => by
    simp at h;subst h;simp[cnt]
  | o :: wd, k + 1, x, h => by
    have ih:=KS (wd:=wd) (k:=k) (x:=x) (by simpa using h);unfold cnt at ih⊢;rw[List.set_cons_succ,p0,p0];omega
theorem BI{p:Int}{cs:List aA}{wd:Wo}{ms:List bf}(hp:0<p)(h1:m9 p cs wd ms):∀j,j<=ms.length->cnt (A4 wd (ms.take j))+j=cnt wd
  |0,_=>by simp[A4]
  | j + 1, hj => by
    have ih:=BI hp h1 j ∅;obtain⟨m,e1,e2⟩:=h1 j ∅;rw[Bf e1,Bn];obtain⟨c0,c1,e3⟩:=WY e2;obtain⟨pr,g1,g2,N,_⟩:=Aj hp e3;have:=KS (x:=m.2.2) N;omega
theorem NF(wd:Wo):cnt wd<=wd.length:=List.countP_le_length
section
variable{G:Gx}{ρ:Rh}{Φ:Pd}{ta tb te:TE}{E:DE}{K:PySem.W.Frag}
end
noncomputable def Az(es:List Fd):Bool:=es.all λe=>e.1||jH e.2
section
variable{G:Gx}{ρ:Rh}{Φ:Pd}{t:TA}{te:TE}
theorem jP.KN{nb:ax->Prop}{H:Hp}:∀{es:List Fd} {vs:List V} {f:Bool},jP G nb H es vs->(f=true->Az es=true)->ah (G.S nb f) H (es.map (·.2)) vs
  |[],_,_,h,_=>by unfold jP at h;subst h;exact .nil
  | e :: es, _, f, h, hf => by
    obtain⟨v,ws,rfl,h1,h2⟩:=h;have L:f=true->(e.1||jH e.2)=true/\Az es=true:=λz=>by
      have:=hf z;unfold Az at this;rw[rL,eY] at this;exact this
    refine .cons ?_ (h2.KN λz=>(L z).2);cases hs:jH e.2 with
    |true=>exact h1.lU hs
    |false=>exact h1.av (bZ (λz=>by have:=(L z).1;rw[hs,p6] at this;exact this) λ_ z=>z)
theorem Ev.OB(h:Av G ρ t λes=>es.length<=10000/\Φ (Az es) (.tuple (es.map (·.2)))):Ev G ρ (o7 t) Φ:=λnb σ H Q W z=>
 h nb σ H _ W λes vs H1 ⟨hl,p⟩ s1 J=>⟨eS (by rw[J.len];exact hl) ⋯,λa ha=>z _ _ _ _ p (s1.trans (.same (W.step s1).az (cL ha)))
  (.tup ((W.step s1).fresh ha) bx ((J.KN λz=>z).keep (aY.of (cL ha))))⟩
end
section
variable{κ:Type}[DecidableEq κ]
noncomputable def iQ(kvs:List (κ×V))(k:κ):Option V:=(kvs.find? λa=>decide (a.1=k)).map (·.2)
noncomputable def putK(kvs:List (κ×V))(k:κ)(v:V):List (κ×V):=
 if(kvs.any λa=>decide (a.1=k))=true then kvs.map (λa=>if a.1=k then(a.1,v) else a) else kvs++[(k,v)]
theorem YA{k:κ}:iQ ([]:List (κ×V)) k=none:=rfl
theorem Am{p:κ×V}{r:List (κ×V)}{k:κ}(e:p.1=k):iQ (p::r) k=some p.2:=by simp[iQ,nD,e]
theorem A0{p:κ×V}{r:List (κ×V)}{k:κ}(e:¬p.1=k):iQ (p::r) k=iQ r k:=by simp[iQ,nD,e]
theorem BR(k:κ):∀kvs:List (κ×V),(kvs.any λa=>decide (a.1=k))=(iQ kvs k).isSome
  |[]=>rfl
  | p :: r => by
    rw[o5];by_cases e:p.1=k;· simp only[Am e,decide_eq_true e,sO,Option.isSome_some]
    · rw[A0 e,decide_eq_false e,qK];exact BR k r
theorem Rn(kvs:List (κ×V))(k:κ)(v:V):(putK kvs k v).length<=kvs.length+1:=by
 unfold putK;split;·rw[ak];omega
 .rw[cK,eB,BK];omega
theorem iW.AX{o:Option V}{u:Option ag}(r:iW o u):o.isSome=u.isSome:=by
  cases o with
  | none => cases u with
    |none=>rfl
    |some _=>exact(show False from r).elim
  | some _ => cases u with
    |none=>exact(show False from r).elim
    |some _=>rfl
theorem KV.val{kvs:List (κ×V)}{vs:List (κ×ag)}(r:KV kvs vs)(k:κ):iW (iQ kvs k) (ox vs k):=by
  unfold KV at r;induction r with
  |nil=>exact dC
  | @cons p q ps c h t ih =>
    obtain⟨h1,h2⟩:=h;by_cases e:p.1=k
    · have e':q.1=k:=h1.symm.trans e
      have b:ox (q::c) k=some q.2:=by simp[ox,nD,e']
      rw[Am e,b];exact h2
    · have e':¬q.1=k:=λz=>e (h1.trans z)
      have b:ox (q::c) k=ox c k:=by simp[ox,nD,e']
      rw[A0 e,b];exact ih
theorem KV.any{kvs:List (κ×V)}{vs:List (κ×ag)}(r:KV kvs vs)(k:κ):(kvs.any λa=>decide (a.1=k))=vs.any λa=>decide (a.1=k):=by
 unfold KV at r;induction r with
 |nil=>rfl
 |cons h t ih=>rw[o5,o5,ih,h.1]
theorem KV.repl{kvs:List (κ×V)}{vs:List (κ×ag)}(r:KV kvs vs)(k:κ){y:V}{u:ag}(d:RelV y u):
    KV (kvs.map λa=>if a.1=k then(a.1,y) else a) (vs.map λa=>if a.1=k then(a.1,u) else a):=by
  unfold KV at r⊢;induction r with
  |nil=>exact .nil
  | @cons p q ps c h t ih =>
    rw[bN,bN];refine .cons ?_ ih;obtain⟨h1,h2⟩:=h;by_cases e:p.1=k;· rw[if_pos e,if_pos (h1.symm.trans e)];exact⟨h1,d⟩
    · rw[if_neg e,if_neg (λz=>e (h1.trans z))];exact⟨h1,h2⟩
theorem KV.put{kvs:List (κ×V)}{vs:List (κ×ag)}(r:KV kvs vs)(k:κ){y:V}{u:ag}(d:RelV y u):KV (putK kvs k y) (stored vs k u):=by
 unfold putK stored;rw[r.any k];by_cases e:(vs.any λa=>decide (a.1=k))=true;·rw[if_pos e,if_pos e];exact r.repl k d
 .rw[if_neg e,if_neg e];exact Paired.snoc r ⟨rfl,d⟩
theorem KV.keys{kvs:List (κ×V)}{vs:List (κ×ag)}(r:KV kvs vs):kvs.map (·.1)=vs.map (·.1):=by
 unfold KV at r;induction r with
 |nil=>rfl
 |cons h t ih=>rw[bN,bN,ih,h.1]
theorem KV.length{kvs:List (κ×V)}{vs:List (κ×ag)}(r:KV kvs vs):kvs.length=vs.length:=Paired.length r
end
theorem sP{P:bg}{w:cq}{k:Key}{u:ag}(r:RelV (kV k) u):(iV P w).is k u=true:=by
 cases k with
 |inl i=>obtain⟨t,e⟩:=(show∃t,u=js i t from r);subst e;exact V4 P w i t
 |inr x=>obtain⟨t,e⟩:=(show∃t,u=lY x t from r);subst e;exact Dd P w x t
theorem Kn{P:bg}{w:cq}:∀{ks:List Key} {us:List ag},Vals (ks.map kV) us->ItemsAre (iV P w) ks us
  |[],_,r=>by rw[mP] at r;cases r;exact .nil
  | k :: ks, _, r => by
    rw[bN] at r;cases r with
    |cons h t=>exact .cons (sP h) (Kn t)
abbrev KT(H:Hp):List (List Key×V)->List (List Key×ax×ag)->Prop:=Paired λp q=>p.1=q.1/\H q.2.1=some (.tup (p.1.map kV))/\RelV p.2 q.2.2
theorem KT.val{H:Hp}{kvs:List (List Key×V)}{xs:List (List Key×ax×ag)}(r:KT H kvs xs)(k:List Key):iW (iQ kvs k) ((As xs k).map (·.2)):=by
  induction r with
  |nil=>exact dC
  | @cons p q ps c h t ih =>
    obtain⟨h1,_,h2⟩:=h;by_cases e:p.1=k
    · have e':q.1=k:=h1.symm.trans e
      have b:As (q::c) k=some q.2:=by simp[As,nD,e']
      rw[Am e,b];exact h2
    · have e':¬q.1=k:=λz=>e (h1.trans z)
      have b:As (q::c) k=As c k:=by simp[As,nD,e']
      rw[A0 e,b];exact ih
section
variable{P:bg}{w:cq}{H:Hp}{h:eC}{a:ax}
theorem O4{u:HO}(ok:dR P w H h)(e:Rd H a u):c7 P w H h a u:=e.ok ok
theorem pH{kvs:List (Key×V)}(ok:dR P w H h)(e:Rd H a (.dK kvs)):kvs.length<=sizeLine/\(a==fo)=false/\∃vs,KV kvs vs/\h.DictOf (iV P w) a vs:=
 show c7 P w H h a (.dK kvs) from O4 ok e
theorem EK{kvs:List (Key×V)}(ok:dR P w H h)(e:H a=some (.dK kvs)):kvs.length<=sizeLine/\(a==fo)=false/\∃vs,KV kvs vs/\h.DictOf (iV P w) a vs:=pH ok (.inl e)
theorem EV{ks:List Key}(ok:dR P w H h)(e:H a=some (.tup (ks.map kV))):(qa (iV P w)).is h ks a:=by
 obtain⟨_,its,r,o,h1,h2,n,h3⟩:=(show c7 P w H h a (.tup (ks.map kV)) from ok a _ e);exact⟨o,its.toArray,n,h1,h2,h3,by simpa using Kn r⟩
theorem MD{kvs:List (List Key×V)}(ok:dR P w H h)(e:Rd H a (.dT kvs)):kvs.length<=sizeLine/\(a==fo)=false/\
    ∃xs,KT H kvs xs/\h.DictOfH (qa (iV P w)) a xs:=by
  obtain⟨z,y,xs,r,o,es,ep,h1,h2,h3,h4,h5⟩:=(show c7 P w H h a (.dT kvs) from O4 ok e);refine⟨z,y,xs,r,o,es,ep,h1,h2,h3,h4,λx hx=>?_,h5⟩;have all:∀{l:List (List Key×V)} {m:List (List Key×ax×ag)},KT H l m->∀x∈m,(qa (iV P w)).is h x.1 x.2.1:=by
    intro l m q;induction q with
    |nil=>intro x hx;exact nomatch hx
    | @cons p q ps c hq t ih =>
      intro x hx;rcases aK.mp hx with e|hx
      · subst e
        exact EV ok (by rw[<-hq.1];exact hq.2.1)
      · exact ih x hx
  exact all r x hx
end
def rT(H:Hp)(a:ax)(y:V)(r:Option V):Prop:=
 (∃kvs k,Rd H a (.dK kvs)/\y=kV k/\r=iQ kvs k)\/∃kvs k b,Rd H a (.dT kvs)/\y= .ref b/\H b=some (.tup (k.map kV))/\r=iQ kvs k
theorem rT.k{H:Hp}{a:ax}{kvs:List (Key×V)}{k:Key}(e:H a=some (.dK kvs)):rT H a (kV k) (iQ kvs k):= .inl ⟨kvs,k, .inl e,rfl,rfl⟩
section
variable{X:Cx}{pins:List (ax×Obj)}{σ:qg}{H:Hp}{s:ar}{a:ax}{y v:V}{u r:ag}{o:Option V}{A:cx}{E:ag->ar->Prop}
theorem Inv.big(I:Inv X pins σ H s):fo<s.heap.objs.size:=by
 have h:bj<s.heap.objs.size:=(I.mod.glob.keeps I.bk).lt;exact t6 ⋯ h
theorem WJ{Q:ag->ar->Prop}(hu:A.units+1<y2)(I:Inv X pins σ H s)(g:rT H a y o)(d:RelV y u)(h:∀s',Inv X pins σ H s'->Q (.bool (!o.isSome)) s'):
  wpAny (be X.prog X.w) A (da .NotIn u (.ref a)) Q E s:=by
 rcases g with ⟨kvs,k,e,ey,l⟩|⟨kvs,k,b,e,ey,eb,l⟩
 .subst ey;obtain⟨z,hd,vs,rel,dd⟩:=pH I.hok e;refine wpAny_notIn_of (sP d) hd dd.mapOf ?_;rw[<-(rel.val k).AX,<-l];exact h _ (I.tok _)
 .subst ey;cases (show u=c3 b from d);obtain⟨z,hd,xs,rel,dd⟩:=MD I.hok e;refine wpAny_notIn_heap (tupleKind_room_in1 hu) (EV I.hok eb) hd dd ?_;have q:=(rel.val k).AX;rw[Em] at q;rw[<-q,<-l];exact h _ (I.tok _)
theorem Y3{h':eC}{t':Nat}{ob:HO}(I:Inv X pins σ H s)(d:uE (H a))(hs:e6 a s.heap h')(he:∃q,h'.get? a=some q)(new:c7 X.prog X.w (upd H a ob) h' a ob):
  Inv X pins σ (upd H a ob) {s with heap:=h',toks:=t'}:=
 I.write (x:=a) (e:=a) d (.inl rfl) (λb q hb z=>(hs.2 b hb).trans z) he new
theorem IZ{P:bg}{w:cq}{H':Hp}{h':eC}{kvs:List (Key×V)}{vs:List (Key×ag)}(z:kvs.length<=sizeLine)(hd:(a==fo)=false)(rel:KV kvs vs)(dd:h'.DictOf (iV P w) a vs):
  c7 P w H' h' a (.dK kvs):=⟨z,hd,vs,rel,dd⟩
end
theorem Tz{P:bg}{w:cq}{H:Hp}(h:eC)(hb:fo<h.objs.size):c7 P w H (h.push {cls:= .type "dict",data:= .dict #[]}) h.objs.size (.dK []):=
 ⟨fj _,beq_eq_false_iff_ne.mpr (cB (dN hb)),[], .nil,AI h⟩
def Eg:TE:=λ_ H Q=>∀p,H p=none->Q (.ref p) (upd H p (.dK []))
section
variable{X:Cx}{pos:Pos}
theorem CK:PE X (.Dict [] [] pos) Eg:=λpins s σ H Q I h=>
 wpAny_Dict_empty ⟨.ref s.heap.objs.size,_,I.laid (a:=s.heap.objs.size) (o:= .dK []) (t':=s.toks) (λ_ _ q=>bW _ q) (aH _) (Tz s.heap I.big),rfl,h _ (I.hok.fresh (aH _))⟩
end
end L2
/-THE LAST THEOREM (shape;LID,My.*are yours):
   My.Adr:a structure of the addresses that your layer names (classes,functions);My.Txt K t:a structure (Prop) of the equations over K;
   My.txt_mk:{K} {implicit addresses ..} (e1:nsIn K bj "law"=some (some (.ref f))) (e2:K.lookup f=some ⟨oc,od, .func (fnOf "law" "law" params body scope dV kV doc pm an cdv ct),sl⟩) (e3:codeIn K cdv "law"=true) .. :∃t,My.Txt K t
(the tactic k_is has no namespace:write k_is)-/
namespace L2
section
variable{prog:bg}{w:cq}{A:cx}{E:ag->ar->Prop}{s:ar}
theorem U1{T:String}{r d:ax}{n:Nat}{P:Nat->ag->Prop}{c:eC->Prop}{Q:List ag->ar->Prop}(K:PySem.W.KdlSrc prog w T r d n P c)(L:A.handled=none)(hok:c s.heap)(hn:n<=sizeLine)
  (G:∀h' tk' items,(∀b o,s.heap.get? b=some o->h'.get? b=some o)->s.heap.objs.size<=h'.objs.size->items.length=n->(∀(i:Nat) v,items[i]?=some v->P i v)->Q items {s with heap:=h',toks:=tk'}):wpAny (be prog w) A (xI (.ref r)) Q E s:=by
 obtain⟨f,ld⟩:=K.there _ hok;unfold xI;refine ae (md (ee Lp ?_));rw[pI IU _];show wpAny _ A.in1 (xt []>>=λl=>again (.builtin "list.__iadd__" ⟨[l, .ref r],[]⟩)) _ _ s;refine ae (c6 ?_);refine aw ⟨gq xT _,ee OE ?_⟩;rw[pI xT _];have p:(s.heap.push ({cls:= .type "list",data:= .seq ([]:List ag).toArray}:Obj)).get? s.heap.objs.size=some {cls:= .type "list",data:= .seq ([]:List ag).toArray}:=fT _ rfl;show wpAny _ A.in1 (fm (.ref s.heap.objs.size) (.ref r) (.ref s.heap.objs.size)) _ _ {s with heap:=s.heap.push ({cls:= .type "list",data:= .seq ([]:List ag).toArray}:Obj)}
 refine PySem.W.kdl_extend (A:=A) (R:=λr s'=>match r with
    | .ok (.ret v)=>wpAny (be prog w) A (match v with| .ref x=>(do match(<-load x).data with| .seq xs _=>pure xs.toList|_=>fg "internal:collect")|_=>fg "internal:collect") Q E s'
    | .ok _=>False
    | .error e=>E e s') (s:={s with heap:=s.heap.push ({cls:= .type "list",data:= .seq ([]:List ag).toArray}:Obj)}) K L (K.keep _ _ hok λb _ o e=>bW _ e) s.heap.objs.size (qw f) (qw ld) _ _ p (λh' tk a c' hk U g=>?_) hn
 refine ae (tI U (aw ?_));refine G h' tk a.toList (λb o e=>hk b o (dN (bP e)) (bW _ e)) (kK (bP U)) (by rw[dI];exact g.1) λi v e=>g.2 i v (by rw[<-jj];exact e)
end
section
variable{X:Cx}
def xY:R2:=λx y H Q=>∃a kvs k v,x= .ref a/\y=kV k/\Rd H a (.dK kvs)/\iQ kvs k=some v/\Q v H
theorem Oz:lI X xY:=by
 intro value slice pins s σ H x y v u Q I rx ry h hs;obtain⟨a,kvs,k,z,rfl,rfl,p,hv,q⟩:=h;cases rx;obtain⟨hz,hd,vs,rel,dd⟩:=pH I.hok p;have hT:=dd.typeIs (s:=s);obtain⟨w',hw,c⟩:=iW.some_of (v:=z) (o:=ox vs k) (by rw[<-hv];exact rel.val k);unfold mv;refine ae ?_;rw[getitemInPython_of_ne hT.not_modules];refine ae (rh hT PySem.F.slot_dict_getitem.lookup ?_);have fin:wpAny (be X.prog X.w) X.A (qr slice false (.ref a) u) (λr b=>wpAny (be X.prog X.w) X.A (letTemporaryGo value (.ref a) r>>=λ_=>pure r) (EP X pins σ Q) X.xe b) X.xe s:=by
  rw[hs];refine wpAny_operating (wpAny_getItem_of (sP ry) dd.mapOf hw ?_);exact ae (wpAny_letTemporaryGo (aw ⟨z,H,I.tok _,c,q⟩))
 first
  |exact aw (ae fin)
  |exact ae (aw (ae fin))
  |exact ae fin
def MW:V->V->V->Hp->(Hp->Prop)->Prop:=λo i v H Q=>∃a kvs k,o= .ref a/\i=kV k/\H a=some (.dK kvs)/\kvs.length<sizeLine/\Q (upd H a (.dK (putK kvs k v)))
theorem set_dict:Ht X MW:=by
 intro pins s σ H o i v ov iv u Q I ro ri rv h;obtain⟨a,kvs,k,rfl,rfl,p,c,q⟩:=h;cases ro;obtain⟨z,hd,vs,rel,dd⟩:=EK I.hok p;have hz:vs.length<=sizeLine:=by rw[<-rel.length];exact z
 have hl:(putK kvs k v).length<=sizeLine:=by have:=Rn kvs k v;omega
 refine wpAny_setItem_pairs (hsz:=hz) (sP ri) dd λh' b hs=>?_;have he:∃q,h'.get? a=some q:=let ⟨q,_,_,hq,_⟩:=b;⟨q,hq⟩;exact⟨_,Y3 I (by rw[p];exact dC) hs he (IZ hl hd (rel.put k rv) b),q⟩
end
theorem Ie{N:List Str}{vs:List V}{ds:List PyData}{nb:ax->Prop}{H:Hp}{ρ:Rh}{P:qg->Hp->Prop}(hl:iK nb H)(hd:ah nb H ds vs)(r:ρ=ds.map (Sl.d false)++cf (N.length-ds.length) .no)
  (h:∀aN σ H1,Wd ⟨none,H,nb,[]⟩ aN ρ σ H1->P σ H1):P (start N vs) H:=
 Sv.fF (t:=λ_ σ H1=>P σ H1) (Φ:=λ_ _=>False) (Q:=λ_ _=>True) hl hd (λ_ _ _ _ z=>z.elim) r (λaN σ H1 _ W _=>h aN σ H1 W)
noncomputable abbrev Cn:=List (Int×Int)
structure L6(cs:Cn):Prop where
 ze:∀c∈cs,0<=c.1/\c.1<=12/\0<=c.2/\c.2<=10^7
 nd:(cs.map (·.1)).Nodup
 len:cs.length<=14
 pos:∃c∈cs,0<c.1/\0<c.2
noncomputable def Oj:Cn->Rat->Rat
 |[],_=>0
 |c::r,v=>(if 0<c.1 then((c.1*c.2:Int):Rat)*v^(c.1.toNat-1) else 0)+Oj r v
noncomputable def PV:Cn->Int
 |[]=>0
 |c::r=>c.1*c.2+PV r
noncomputable def JT(cs:Cn)(v:Rat):Rat:=Oj cs v/(PV cs:Int)
noncomputable def S3(l c:Cn)(s v:Rat):Rat:=s*JT l (1-JT c (1-v))
section
variable{l c:Cn}{s:Rat}(hl:L6 l)(hc:L6 c)(s0:0<=s)
include hl hc s0
end
noncomputable def O0(x:Rat):Int:= -((-x).floor)
structure Gw where
 l:Cn
 c:Cn
 s:Rat
 u:Int
noncomputable def Gw.gr(g:Gw)(x:Int):Rat:=S3 g.l g.c g.s ((x:Rat)/g.u)*g.u
noncomputable def Gw.lo(g:Gw):Nat->Int
 |0=>(g.s*g.u).floor
 |k+1=>(g.gr (g.lo k)).floor
noncomputable def Gw.hi(g:Gw):Nat->Int
 |0=>O0 (g.s*g.u)
 |k+1=>O0 (g.gr (g.hi k))
section
variable{X:Cx}
def yr:List V->Hp->VK->Prop:=λxs H Q=>∃(x:Str) (n:Int),xs=[.str x]/\x.length<=640/\PySem.intText? x=some n/\Q (.int n) H
theorem ZZ:fK X (.type "int") yr:=by
 intro pins s σ H xs us Q I r h;obtain⟨x,n,rfl,hl,hn,q⟩:=h;obtain⟨u,rfl,t,rfl⟩:=vals1 r;exact PySem.W.KIN.call_text hn hl ⟨.int n,H,I.tok _,⟨_,rfl⟩,q⟩
end
section
variable{G:Gx}{ρ:Rh}{te ta tb:TE}{s:TS}{gt:TG}{E:DE}{K:PySem.W.Frag}{Φ:Pd}
theorem Ev.RD(h:Ev G ρ te λ_ x=>∃i n,x= .str i/\i.length<=640/\PySem.intText? i=some n/\Φ true (.int n)):Ev G ρ (fq yr (bz te bM)) Φ:=λnb σ H Q W z=>
 h nb σ H _ W λf v H1 d ⟨i,n,e,hl,hn,q⟩ s1 hv=>by
  subst e;unfold ai at hv;subst hv;exact⟨i,n,rfl,hl,hn,z true _ H1 _ q s1 (.int _)⟩
end
def U8(K:PySem.W.Frag)(n:Nat)(t:jb):TG:=λv σ H Q=>∃a xs,v= .ref a/\aZ K H a xs/\xs.length=n/\t xs σ H Q
theorem Gv.lst{G:Gx}{ρ:Rh}{f:Bool}{ds:List PyData}{K:PySem.W.Frag}{Θ:Rh->Prop}{n:Nat}{u:jb}(hl:ds.length=n)(h:mW G ρ u f ds Θ):Gv G ρ (U8 K n u) f (.list ds) Θ:=λnb σ H v Q W hv z=>by
 obtain⟨a,xs,rfl,m,hx,hd⟩:=hv.eN;exact⟨a,xs,rfl, .of hx,by rw[hd.length];exact hl,h nb σ H xs Q W hd z⟩
end L2
namespace L2
open PySem PySem.Spec PyProof.Rows PySem.W
section
variable{n:Nat}{cmp:Nat->Nat->(Bool->ar->Prop)->ar->Prop}{s:ar}
variable(h0:0<n)(hc:∀i j C,i<n->j<n->(∀b,C b s)->cmp i j C s)
include h0 hc
end
section
variable{n:Nat}{key:Nat->Int}{cmp:Nat->Nat->(Bool->ar->Prop)->ar->Prop}{s:ar}
variable(h0:0<n)(hc:∀i j C,i<n->j<n->C (decide (key i<key j)) s->cmp i j C s)
include h0 hc
end
end L2
namespace L2
theorem Tv.lend{G:Gx}{ρ:Rh}{t:TT}{Θ:Bool->Prop}{a:ax}{f:Bool}{ds:List PyData}(i:Nat)(e:ρ[i]?=some (.own a f ds))(h:Tv G (ρ.set i (.d f (.list ds))) t Θ):Tv G ρ t Θ:=λnb σ H Q W z=>
 h _ σ H Q (Sv.share W e) z
noncomputable abbrev Ks:=List (Int×PyData)
noncomputable def j9(ks:Ks)(k:Int):Option PyData:=(ks.find? λp=>decide (p.1=k)).map (·.2)
noncomputable def jQ(ks:Ks)(k:Int):Bool:=ks.any λp=>decide (p.1=k)
noncomputable def tO(ks:Ks)(k:Int)(d:PyData):Ks:=if jQ ks k then ks.map λp=>if p.1=k then(p.1,d) else p else ks++[(k,d)]
theorem NA(ks:Ks)(k:Int):(j9 ks k).isSome=jQ ks k:=by
  unfold j9 jQ;rw[Em];induction ks with
  |nil=>rfl
  | cons p r ih =>
    rw[nD,o5];by_cases h:p.1=k;· simp[h]
    · simp only[h,decide_false,qK];exact ih
theorem wA{ks:Ks}{k:Int}:jQ ks k=true↔k∈ks.map (·.1):=by
 unfold jQ;rw[wX,dG];constructor;·rintro⟨p,h1,h2⟩;exact⟨p,h1,by simpa using h2⟩
 .rintro⟨p,h1,h2⟩;exact⟨p,h1,by simpa using h2⟩
theorem ve{p:Int×PyData}{r:Ks}{k:Int}:j9 (p::r) k=if p.1=k then some p.2 else j9 r k:=by
 unfold j9;rw[nD];by_cases h:p.1=k<;>simp[h]
section
variable{S:ax->Prop}{H:Hp}
theorem aB.val:∀{ks:Ks} {ps:List (Key×V)} (k:Int),aB S H (ks.map iX) ps->match j9 ks k with|some d=>∃v,iQ ps (dq k)=some v/\ai S H d v|none=>iQ ps (dq k)=none
  |[],ps,k,h=>by unfold aB at h;subst h;exact YA
  | p :: r, ps, k, h => by
    rw[bN] at h;unfold aB at h;obtain⟨q,c,rfl,h1,h2⟩:=h;unfold cN at h1;obtain⟨h3,h4⟩:=h1;have h3:q.1=dq p.1:=h3;rw[ve];have ih:=aB.val k h2;by_cases e:p.1=k
    · rw[if_pos e]
      refine⟨q.2,?_,h4⟩;rw[Am (by rw[h3,e])]
    · rw[if_neg e,A0 (λz=>e (by rw[h3] at z;exact Hw z))]
      exact ih
theorem aB.snoc:∀{ks:Ks} {ps:List (Key×V)} {k:Int} {d:PyData} {v:V},aB S H (ks.map iX) ps->ai S H d v->aB S H ((ks++[(k,d)]).map iX) (ps++[(dq k,v)])
  | [], ps, k, d, v, h, hd => by
    unfold aB at h;subst h;show aB S H [iX (k,d)] [(dq k,v)];unfold aB;exact⟨_,_,rfl,by unfold cN;exact⟨rfl,hd⟩,by unfold aB;rfl⟩
  | p :: r, ps, k, d, v, h, hd => by
    rw[bN] at h;unfold aB at h;obtain⟨q,c,rfl,h1,h2⟩:=h;rw[kU,bN,kU];unfold aB;exact⟨q,_,rfl,h1,aB.snoc h2 hd⟩
theorem aB.repl:∀{ks:Ks} {ps:List (Key×V)} {k:Int} {d:PyData} {v:V},aB S H (ks.map iX) ps->ai S H d v->aB S H ((ks.map λp=>if p.1=k then(p.1,d) else p).map iX) (ps.map λa=>if a.1=dq k then(a.1,v) else a)
  |[],ps,k,d,v,h,hd=>by unfold aB at h;subst h;simp only[mP];unfold aB;rfl
  | p :: r, ps, k, d, v, h, hd => by
    rw[bN] at h;unfold aB at h;obtain⟨q,c,rfl,h1,h2⟩:=h;rw[bN,bN,bN];unfold cN at h1;obtain⟨h3,h4⟩:=h1;have h3:q.1=dq p.1:=h3;unfold aB;refine⟨_,_,rfl,?_,aB.repl h2 hd⟩;by_cases e:p.1=k
    · rw[if_pos e,if_pos (by rw[h3,e])]
      unfold cN;exact⟨h3,hd⟩
    · rw[if_neg e,if_neg (λz=>e (by rw[h3] at z;exact Hw z))]
      unfold cN;exact⟨h3,h4⟩
theorem aB.any:∀{ks:Ks} {ps:List (Key×V)} (k:Int),aB S H (ks.map iX) ps->(ps.any λa=>decide (a.1=dq k))=jQ ks k:=λ{ks ps} k h=>by
 rw[BR,<-NA];have:=aB.val k h;cases hv:j9 ks k with
 |none=>rw[hv] at this;rw[this];rfl
 |some d=>rw[hv] at this;obtain⟨v,e,_⟩:=this;rw[e];rfl
theorem aB.put{ks:Ks}{ps:List (Key×V)}{k:Int}{d:PyData}{v:V}(h:aB S H (ks.map iX) ps)(hd:ai S H d v):aB S H ((tO ks k d).map iX) (putK ps (dq k) v):=by
 unfold tO putK;rw[aB.any k h];split;·exact aB.repl h hd
 .exact aB.snoc h hd
theorem aB.len:∀{ks:Ks} {ps:List (Key×V)},aB S H (ks.map iX) ps->ps.length=ks.length
  |[],ps,h=>by unfold aB at h;subst h;rfl
  | p :: r, ps, h => by
    rw[bN] at h;unfold aB at h;obtain⟨q,c,rfl,_,h2⟩:=h;simp[aB.len h2]
theorem aB.keys:∀{ks:Ks} {ps:List (Key×V)},aB S H (ks.map iX) ps->ps.map (·.1)=(ks.map (·.1)).map dq
  |[],ps,h=>by unfold aB at h;subst h;rfl
  | p :: r, ps, h => by
    rw[bN] at h;unfold aB at h;obtain⟨q,c,rfl,h1,h2⟩:=h;unfold cN at h1;have h3:q.1=dq p.1:=h1.1;simp[aB.keys h2,h3]
end
def tT(G:Gx)(ρ:Rh)(te:TE)(Φ:Bool->Ks->Prop):Prop:=∀nb σ H (Q:VK),Wd G nb ρ σ H->
 (∀f a ps H' ks,Φ f ks->Step G.B H H'->H a=none->H' a=some (.dK ps)->aB (λx=>G.S nb f x\/x=a) H' (ks.map iX) ps->Q (.ref a) H')->te σ H Q
section
variable{G:Gx}{ρ bU:Rh}{Φ Ψ:Pd}{ta tb te:TE}{t:TA}{i:Nat}{f g:Bool}{d e:PyData}{ks:Ks}{K:PySem.W.Frag}{E:DE}{Θ:Bool->Ks->Prop}
theorem Wd.grow{nb:ax->Prop}{σ:qg}{H H1:Hp}{a:ax}{o:HO}(W:Wd G nb ρ σ H)(s1:Step G.B H H1)(ha:H a=none)(e:H1 a=some o):Wd G (λx=>nb x\/x=a) ρ σ H1/\NB G.B a/\∀f x,G.S (λx=>nb x\/x=a) f x->(G.S nb f x\/x=a):=by
  have hN:NB G.B a:=NB.new W.az ha;have hA:∀f x,G.S (λx=>nb x\/x=a) f x->(G.S nb f x\/x=a):=λf x z=>by
    rcases z with (z|z)|z|z|z
    · exact .inl (.inl z)
    · exact .inr z
    · exact .inl (.inr (.inl z))
    · exact .inl (.inr (.inr (.inl z)))
    · exact .inl (.inr (.inr (.inr z)))
  have W1:=W.step s1;refine⟨?_,hN,hA⟩;refine⟨W1.az,λx n=>?_,W1.old,λx n q=>?_,W.gA,W.len,W.gB,λh m=>(((W.eu h m).fresh ha).keep (s1.but λx z=> .inl (.inr (.inr (.inl z))))).av (hA h.1),λj s e'=>?_,W.apart,W.gJ,W.eG⟩
  · rcases n with n|n
    · exact W1.live x n
    · subst n;rw[e];exact ie _
  · rcases n with n|n
    · exact W.dg x n q
    · subst n
      cases z:G.H0 x with
      |none=>rfl
      |some o=>rw[W.old x o q z] at ha;cases ha
  · obtain⟨x,e1,h⟩:=W.ok j s e'
    refine⟨x,e1,?_⟩;cases s with
    |no=>trivial
    |d f d=>obtain⟨v,e,h⟩:=h;exact⟨v,e,((h.fresh ha).keep (s1.but λx z=> .inl (.inr (.inr (.inl z))))).av (hA f)⟩
    |own c f es=>obtain⟨e,n,q,xs,hx,hd⟩:=h;exact⟨e, .inl n,q,xs,s1.1 _ _ q hx,((hd.fresh ha).keep (s1.but λx z=> .inl (.inr (.inr (.inl z))))).av (hA f)⟩
    |az=>exact h
    |raw v=>exact h
    |bR c f es=>obtain⟨e,n,q,xs,hx,hd⟩:=h;exact⟨e, .inl n,q,xs,s1.1 _ _ q hx,((hd.fresh ha).keep (s1.but λx z=> .inl (.inr (.inr (.inl z))))).av (hA f)⟩
    | cu c =>
      obtain⟨e,n,q⟩:=h;refine⟨e,λa ha=>⟨.inl (n a ha).1,(n a ha).2⟩,c.av (hA c.f) (c.keep (.of λx o hx e=>s1.1 x o ?_ e) (c.fresh ha q))⟩;rcases hx with hx|hx
      · exact jS λz=>hx (.inl (.inr (.inr (.inl z))))
      · exact(n x hx).2
theorem Xj{nb:ax->Prop}{σ:qg}{H H1:Hp}{a:ax}{ps:List (Key×V)}(W:Wd G nb ρ σ H)(s1:Step G.B H H1)(ha:H a=none)(e:H1 a=some (.dK ps))(hd:aB (λx=>G.S nb f x\/x=a) H1 (ks.map iX) ps):
  Wd G (λx=>nb x\/x=a) (ρ.set i (.bR a f ks)) (σ.set i (some (.ref a))) H1:=by
 obtain⟨W2,hN,hA⟩:=W.grow s1 ha e;refine W2.set ⟨rfl, .inr rfl,hN,ps,e,hd.av (hA f)⟩ (λ_ _ _ z=>by cases z) ?_ (λx hx j t hj ht hc=>?_)
 rotate_left
 .have hx:x=a:=br.mp hx;subst hx;rcases hc with ⟨c,z⟩|⟨c,rfl⟩
  .cases z
  .exact λz=>W.live x ((W.ok j _ ht).choose_spec.2.2.1 x z).1 ha
 rintro a' f' ds' ⟨rfl,rfl,rfl⟩ j c g cs hj hc z;subst z;obtain⟨x,e1,h1,h2,h3,ys,hy,_⟩:=W.ok j _ hc;rw[hy] at ha;cases ha
theorem Sv.JM(h:tT G ρ te λf ks=>∀a,E.nx (ρ.set i (.bR a f ks))):Sv G ρ (gE te (ic i)) E:=λnb σ H D W K=>h nb σ H _ W λf a ps H1 ks q s1 ha e hd=>K.nx _ _ _ H1 (q a) (Xj W s1 ha e hd)
theorem tT.new(h:Θ true []):tT G ρ Eg Θ:=λnb σ H Q W z p hp=>z true p [] _ [] h (.same W.az (cL hp)) hp bx (by unfold aB;rfl)
theorem HX{nb:ax->Prop}{σ:qg}{H:Hp}{a:ax}{ps:List (Key×V)}{b:Ks}(W:Wd G nb ρ σ H)(e:ρ[i]?=some (.bR a f ks))(hd:aB (G.S nb g) H (b.map iX) ps):Wd G nb (ρ.set i (.bR a g b)) σ (upd H a (.dK ps)):=by
 obtain⟨x,e1,h1,h2,h3,ys,hy,_⟩:=W.ok i _ e;subst h1;have hil:i<ρ.length:=(bT.mp e).1;have W0:Wd G nb (ρ.set i .no) (σ.set i (some (.ref a))) H:=W.set trivial λ_ _ _ z=>by cases z
 have W1:Wd G nb (ρ.set i .no) (σ.set i (some (.ref a))) (upd H a (.dK ps)):=W0.write h2 h3 (λj c d cs hc z=>by
   subst z;have hij:i≠j:=λz=>by subst z;rw[cW hil] at hc;cases hc
   rw[bO hij] at hc;obtain⟨_,_,_,_,_,ps,hp,_⟩:=W.ok j _ hc;rw[hy] at hp;cases hp) (λj c d cs hc=>by
   by_cases hij:i=j;·subst hij;rw[cW hil] at hc;cases hc
   .rw[bO hij] at hc;exact(W.gJ i j _ _ _ _ _ _ hij e hc).symm) (λj c hc z=>by
   have hij:i≠j:=λz=>by subst z;rw[cW hil] at hc;cases hc
   rw[bO hij] at hc;exact W.eG j i c _ (cB hij) hc e a z (br.mpr rfl))
 have W2:=W1.set (i:=i) (s:= .bR a g b) (x:=some (.ref a)) ⟨rfl,h2,h3,ps,bx,hd.keep (aY.set (.inl h2))⟩ (λ_ _ _ z=>by cases z) (by
  rintro a' d ds' ⟨rfl,rfl,rfl⟩ j c g' cs hj hc;rw[bO (cB hj)] at hc;exact W.gJ i j _ _ _ _ _ _ (cB hj) e hc) (λx hx j t hj ht hc z=>by
  rw[bO (cB hj)] at ht;have hx:x=a:=br.mp hx;subst hx;rcases hc with ⟨c,q⟩|⟨c,rfl⟩
  .cases q
  .exact W.eG j i c _ hj ht e x z (br.mpr rfl))
 rw[lQ,lQ] at W2;have:σ.set i (some (.ref a))=σ:=by
  apply qU;intro j;by_cases hij:i=j;·subst hij;rw[cW (by rw[W.len];exact hil),e1]
  .rw[bO hij]
 rwa[this] at W2
theorem Sv.ID{a:ax}(e:ρ[i]?=some (.bR a f ks))(h:Ev G ρ te λg d=>Ev G ρ tb λ_ y=>∃k,y= .int k/\ks.length<10000/\E.nx (ρ.set i (.bR a (f && g) (tO ks k d)))):Sv G ρ (gE te (pO (cH i) tb MW)) E:=λnb σ H D W KK=>
 h nb σ H _ W λg v H1 d q s1 hv=>by
  obtain⟨x,e1,h1,h2,h3,ps,hp,hd⟩:=(W.step s1).ok i _ e;subst h1;refine⟨.ref a,e1,q nb σ H1 _ (W.step s1) λg' u H2 y ⟨k,o,hl,p⟩ s2 hu=>?_⟩;subst o;have W2:=(W.step s1).step s2;have hlen:=hd.len;refine⟨a,ps, .inl k,rfl,hu.cP,s2.1 _ _ h3 hp,eK (by rw[hlen];exact hl) ⋯,KK.nx nb _ _ _ p (HX W2 e ?_)⟩;exact aB.put ((hd.keep s2.dJ).av (bZ (λz=>(eY _ _▸z).1) λ_ z=>z)) ((hv.keep s2.dJ).av (bZ (λz=>(eY _ _▸z).2) λ_ z=>z))
namespace Ev
theorem Io{a:ax}(e:ρ[i]?=some (.bR a f ks))(h:Ev G ρ tb λ_ y=>∃k,y= .int k/\∃d,j9 ks k=some d/\Φ f d):Ev G ρ (dM xY (cH i) tb) Φ:=λnb σ H Q W z=>by
 obtain⟨x,e1,h1,h2,h3,ps,hp,hd⟩:=W.ok i _ e;subst h1;refine⟨.ref a,e1,h nb σ H _ W λg w H1 y ⟨k,o,d,hv,p⟩ s1 hw=>?_⟩;subst o;have:=aB.val k (hd.keep s1.dJ);rw[hv] at this;obtain⟨v,b,j⟩:=this;exact⟨a,ps, .inl k,v,rfl,hw.cP, .inl (s1.1 _ _ h3 hp),b,z f _ H1 _ p s1 j⟩
end Ev
end
def Cq(b:Bool):R2:=λx y H Q=>∃a o,y= .ref a/\rT H a x o/\Q (.bl (o.isSome !=b)) H
theorem MR{X:Cx}(hu:X.A.units+64<y2):dQ X (da .NotIn) (Cq true):=by
 intro pins s σ H x y v u Q I rx ry h;obtain⟨a,o,rfl,g,q⟩:=h;cases ry;exact WJ ∅ I g rx λs' b=>⟨.bl (!o.isSome),H,b,rfl,by simpa using q⟩
section
variable{G:Gx}{ρ:Rh}{Φ:Pd}{ta tb te:TE}{i:Nat}{f:Bool}{ks:Ks}{K:PySem.W.Frag}{E:DE}
theorem Ev.KL{a:ax}{b:Bool}(e:ρ[i]?=some (.bR a f ks))(h:Ev G ρ ta λ_ y=>∃k,y= .int k/\Φ true (.bool (jQ ks k !=b))):Ev G ρ (dM (Cq b) ta (cH i)) Φ:=λnb σ H Q W z=>
 h nb σ H _ W λg w H1 y ⟨k,o,p⟩ s1 hw=>by
  obtain⟨x,e1,h1,h2,h3,ps,hp,hd⟩:=(W.step s1).ok i _ e;subst h1 o;refine⟨.ref a,e1,a,_,rfl,by rw[hw.cP];exact rT.k (k:= .inl k) hp,?_⟩;have:(iQ ps (dq k)).isSome=jQ ks k:=by rw[<-BR];exact aB.any k hd
  rw[this];exact z true _ H1 _ p s1 (.bl _)
end
theorem qG{X:Cx}{K:PySem.W.Frag}{e:et}{T:String}{r:V->List V->Hp->VK->Prop}{to:TE}{t:TA}(c:X.K=K)(h:PE X e (lX X.K T r to t)):PE X e (lX K T r to t):=by subst c;exact h
structure XI(n:Int)(cs:List aA):Prop where
 n0:1<=n
 n1:n<=10
 c0:cs≠[]
 c1:cs.length<=8
 ok:∀prs∈cs,prs≠[]/\prs.length<=4/\(prs.map (·.1)).Pairwise (· < ·)/\∀pr∈prs,0<=pr.1/\pr.1<n
section
variable{n:Int}{cs:List aA}(h:XI n cs)
include h
end
section
variable{G:Gx}{ρ:Rh}{te:TE}{E:DE}{i j:Nat}{f:Bool}{ds:List PyData}{K:PySem.W.Frag}
theorem Sv.extend{a:ax}(e:ρ[i]?=some (.own a f ds))(h:Ev G ρ te λg y=>∃es,y= .list es/\ds.length+es.length<=10000/\E.nx (ρ.set i (.own a (f && g) (ds++es)))):
  Sv G ρ (q9 (lX K "list" IV (cH i) (bz te bM))) E:=λnb σ H D W KK=>by
 obtain⟨x,e1,h1,h2,h3,xs,hx,hd⟩:=W.ok i _ e;subst h1;refine⟨.ref a,e1, .inl ⟨rfl,_,aZ.of hx⟩,h nb σ H _ W λg v H1 y ⟨es,o,hl,q⟩ s1 hv=>?_⟩;subst o;obtain⟨c,ys,rfl,n,hy,he⟩:=hv.eN;have W1:=W.step s1;have nE:=s1.1 _ _ h3 hx;have hd1:=hd.keep s1.dJ;refine⟨a,c,xs,ys,rfl,rfl,nE,hy,eS (by rw[hd.length,he.length];exact hl) ⋯,KK.nx nb _ _ _ q (ED W1 e ?_)⟩;exact ah.append (hd1.av (bZ (λz=>(eY _ _▸z).1) λ_ z=>z)) (he.av (bZ (λz=>(eY _ _▸z).2) λ_ z=>z))
end
theorem ZV{H:Hp}{a:ax}{xs ys:List (Key×V)}(h:Rd H a (.dK xs))(g:Rd H a (.dK ys)):xs=ys:=by
 rcases h with h|⟨o,h⟩<;>rcases g with g|⟨u,g⟩<;>rw[h] at g<;>cases g<;>rfl
theorem sG.fn:∀{d e:PyData} {k:Key},sG d k->sG e k->d=e
  | .int i, e, k, h, g => by
    have h:k= .inl i:=h;cases e<;>first|exact g.elim|(have g:k=_:=g;rw[h] at g;injection g with g;subst g;rfl)|(have g:k=_:=g;rw[h] at g;cases g)
  | .str i, e, k, h, g => by
    have h:k= .inr i:=h;cases e<;>first|exact g.elim|(have g:k=_:=g;rw[h] at g;injection g with g;subst g;rfl)|(have g:k=_:=g;rw[h] at g;cases g)
  | .none,_,_,h,_=>h.elim
  | .bool _,_,_,h,_=>h.elim
  | .list _,_,_,h,_=>h.elim
  | .tuple _,_,_,h,_=>h.elim
  | .dict _,_,_,h,_=>h.elim
mutual
theorem ai.fn{S S':ax->Prop}{H:Hp}:∀{d e:PyData} {v:V},ai S H d v->ai S' H e v->d=e
  | .none, e, v, h, g => by
    unfold ai at h;subst h;cases e<;>unfold ai at g<;>first|rfl|(cases g;done)|(obtain⟨_,_,z,_⟩:=g;cases z)
  | .bool b, e, v, h, g => by
    unfold ai at h;subst h;cases e<;>unfold ai at g<;>first|(cases g;done)|(cases g;rfl)|(obtain⟨_,_,z,_⟩:=g;cases z)
  | .int b, e, v, h, g => by
    unfold ai at h;subst h;cases e<;>unfold ai at g<;>first|(cases g;done)|(cases g;rfl)|(obtain⟨_,_,z,_⟩:=g;cases z)
  | .str b, e, v, h, g => by
    unfold ai at h;subst h;cases e<;>unfold ai at g<;>first|(cases g;done)|(cases g;rfl)|(obtain⟨_,_,z,_⟩:=g;cases z)
  | .list ds, e, v, h, g => by
    unfold ai at h;obtain⟨a,xs,rfl,n,hx,hd⟩:=h;cases e<;>unfold ai at g<;>first|(cases g;done)|skip
    all_goals (obtain⟨N,l,z,c,M,j⟩:=g;cases z)
    all_goals first
      |(rcases M with M|⟨o,M⟩<;>rw[hx] at M<;>cases M;done)
      |(rw[hx] at M;cases M;done)
      |(rw[hx] at M;cases M;rw[ah.fn hd j])
  | .tuple ds, e, v, h, g => by
    unfold ai at h;obtain⟨a,xs,rfl,n,hx,hd⟩:=h;cases e<;>unfold ai at g<;>first|(cases g;done)|skip
    all_goals (obtain⟨N,l,z,c,M,j⟩:=g;cases z)
    all_goals first
      |(rcases M with M|⟨o,M⟩<;>rw[hx] at M<;>cases M;done)
      |(rw[hx] at M;cases M;done)
      |(rw[hx] at M;cases M;rw[ah.fn hd j])
  | .dict ds, e, v, h, g => by
    unfold ai at h;obtain⟨a,xs,rfl,n,hx,hd⟩:=h;cases e<;>unfold ai at g<;>first|(cases g;done)|skip
    all_goals (obtain⟨N,l,z,c,M,j⟩:=g;cases z)
    all_goals first
      |(rcases hx with hx|⟨o,hx⟩<;>rw[hx] at M<;>cases M;done)
      |(rw[aB.fn hd (by rw[ZV hx M];exact j)])
  termination_by structural d=>d
theorem ah.fn{S S':ax->Prop}{H:Hp}:∀{ds es:List PyData} {vs:List V},ah S H ds vs->ah S' H es vs->ds=es
  | [], es, vs, h, g => by
    unfold ah at h;subst h;cases es with
    |nil=>rfl
    |cons e es=>unfold ah at g;obtain⟨_,_,z,_⟩:=g;cases z
  | d :: ds, es, vs, h, g => by
    unfold ah at h;obtain⟨y,ys,rfl,h1,h2⟩:=h;cases es with
    |nil=>unfold ah at g;cases g
    | cons e es =>
      unfold ah at g;obtain⟨a,b,z,g1,g2⟩:=g;cases z;rw[ai.fn h1 g1,ah.fn h2 g2]
  termination_by structural ds=>ds
theorem aB.fn{S S':ax->Prop}{H:Hp}:∀{ds es:List (PyData×PyData)} {vs:List (Key×V)},aB S H ds vs->aB S' H es vs->ds=es
  | [], es, vs, h, g => by
    unfold aB at h;subst h;cases es with
    |nil=>rfl
    |cons e es=>unfold aB at g;obtain⟨_,_,z,_⟩:=g;cases z
  | d :: ds, es, vs, h, g => by
    unfold aB at h;obtain⟨y,ys,rfl,h1,h2⟩:=h;cases es with
    |nil=>unfold aB at g;cases g
    | cons e es =>
      unfold aB at g;obtain⟨a,b,z,g1,g2⟩:=g;cases z;rw[cN.fn h1 g1,aB.fn h2 g2]
  termination_by structural ds=>ds
theorem cN.fn{S S':ax->Prop}{H:Hp}:∀{d e:PyData×PyData} {v:Key×V},cN S H d v->cN S' H e v->d=e
  | (k, d), (k', e), v, h, g => by
    unfold cN at h g;rw[sG.fn h.1 g.1,ai.fn h.2 g.2]
  termination_by structural d=>d
end
mutual
theorem ai.out{S:ax->Prop}{H:Hp}{c:ax}{D:PyData}(hc:ai S H D (.ref c)):∀{d:PyData} {v:V},sizeOf d<sizeOf D->ai S H d v->ai (λx=>S x\/x=c) H d v
  | .none,_,_,h=>by unfold ai at h⊢;exact h
  | .bool _,_,_,h=>by unfold ai at h⊢;exact h
  | .int _,_,_,h=>by unfold ai at h⊢;exact h
  | .str _,_,_,h=>by unfold ai at h⊢;exact h
  | .list ds, v, hs, h => by
    have h0:=h;unfold ai at h⊢;obtain⟨a,xs,rfl,n,hx,hd⟩:=h;refine⟨a,xs,rfl,λz=>z.elim n λz=>?_,hx,ah.out hc (by simp at hs;omega) hd⟩;subst z;rw[ai.fn hc h0] at hs;exact absurd hs (jE _)
  | .tuple ds, v, hs, h => by
    have h0:=h;unfold ai at h⊢;obtain⟨a,xs,rfl,n,hx,hd⟩:=h;refine⟨a,xs,rfl,λz=>z.elim n λz=>?_,hx,ah.out hc (by simp at hs;omega) hd⟩;subst z;rw[ai.fn hc h0] at hs;exact absurd hs (jE _)
  | .dict ds, v, hs, h => by
    have h0:=h;unfold ai at h⊢;obtain⟨a,xs,rfl,n,hx,hd⟩:=h;refine⟨a,xs,rfl,λz=>z.elim n λz=>?_,hx,aB.out hc (by simp at hs;omega) hd⟩;subst z;rw[ai.fn hc h0] at hs;exact absurd hs (jE _)
theorem ah.out{S:ax->Prop}{H:Hp}{c:ax}{D:PyData}(hc:ai S H D (.ref c)):∀{ds:List PyData} {vs:List V},sizeOf ds<sizeOf D->ah S H ds vs->ah (λx=>S x\/x=c) H ds vs
  |[],_,_,h=>by unfold ah at h⊢;exact h
  | d :: ds, _, hs, h => by
    unfold ah at h⊢;obtain⟨y,ys,e,h1,h2⟩:=h;exact⟨y,ys,e,ai.out hc (by simp at hs;omega) h1,ah.out hc (by simp at hs;omega) h2⟩
theorem aB.out{S:ax->Prop}{H:Hp}{c:ax}{D:PyData}(hc:ai S H D (.ref c)):∀{ds:List (PyData×PyData)} {vs:List (Key×V)},sizeOf ds<sizeOf D->aB S H ds vs->aB (λx=>S x\/x=c) H ds vs
  |[],_,_,h=>by unfold aB at h⊢;exact h
  | d :: ds, _, hs, h => by
    unfold aB at h⊢;obtain⟨y,ys,e,h1,h2⟩:=h;exact⟨y,ys,e,cN.out hc (by simp at hs;omega) h1,aB.out hc (by simp at hs;omega) h2⟩
theorem cN.out{S:ax->Prop}{H:Hp}{c:ax}{D:PyData}(hc:ai S H D (.ref c)):∀{d:PyData×PyData} {v:Key×V},sizeOf d<sizeOf D->cN S H d v->cN (λx=>S x\/x=c) H d v
  | (k, d), _, hs, h => by
    unfold cN at h⊢;exact⟨h.1,ai.out hc (by simp at hs;omega) h.2⟩
end
def lF(G:Gx)(ρ:Rh)(te:TE)(Φ:PyData->Prop):Prop:=∀nb σ H (Q:VK),Wd G nb ρ σ H->(∀v H' d,Φ d->Step G.B H H'->ai (λa=>H a≠none) H' d v->Q v H')->te σ H Q
section
variable{G:Gx}{ρ:Rh}{ta tb te:TE}{t:TA}{E:DE}{i j k m:Nat}{f:Bool}{K:PySem.W.Frag}{Φ:PyData->Prop}
theorem Wd.J4{nb:ax->Prop}{σ:qg}{H H1:Hp}{a:ax}(W:Wd G nb ρ σ H)(s:Step G.B H H1)(h:H a≠none):H1 a≠none:=λe=>h (W.none_of s e)
theorem lF.iO{n:Nat}{F:DF}(hm:cM F)(e:ρ[i]?=some .az)(h:Av G ρ t λes=>es.length+1=n/\F (es.map (·.2)) λf d=>f=true/\Φ d):lF G ρ (gm (fP n F) [] E0 (bz (cH i) t)) Φ:=λnb σ H Q W z=>by
 obtain⟨b,l,O,e1,B⟩:=W.v8 e;refine⟨.ref b,e1,h nb σ H _ W λes vs H1 ⟨hl,p⟩ s1 J=>?_⟩;have W1:=W.step s1;show fP n F ((V.ref b::vs)++[]) H1 Q E0;rw[fY];have hb:∀f,G.S nb f b:=λf=> .inr (.inr (.inl λn=>n b l O rfl));refine⟨by rw[eB,J.len,hl],b,l,vs,G.S nb (gz es),es.map (·.2),rfl,W1.az b l O,W1.gp,hb _,J.all λz=>z,hm _ _ _ p λf d ⟨hf,hp⟩ v H' bt c hd=>z v H' d hp (s1.trans (.yT O bt c)) (hd.av λa q=>?_)⟩;exact .inr ⟨hf,W.J4 s1 q⟩
theorem lF.cZ{n:Nat}{F:DF}(hm:cM F)(h:Av G ρ t λes=>es.length=n/\F (es.map (·.2)) λf d=>f=true/\Φ d):lF G ρ (gm (aU n F) [] E0 t) Φ:=λnb σ H Q W z=>
 h nb σ H _ W λes vs H1 ⟨hl,p⟩ s1 J=>by
  have W1:=W.step s1;rw[fY];refine⟨by rw[J.len,hl],G.S nb (gz es),es.map (·.2),W1.gp,J.all λz=>z,hm _ _ _ p λf d ⟨hf,hp⟩ v H' sm hd=>z v H' d hp (s1.trans (.same W1.az sm)) (hd.av λa q=>?_)⟩;exact .inr ⟨hf,W.J4 s1 q⟩
theorem lF.Nn{Θ:Bool->List PyData->Prop}(h:lF G ρ te λd=>∃ds,d= .list ds/\Θ true ds):aq G ρ te Θ:=λnb σ H Q W z=>
 h nb σ H _ W λv H' d ⟨ds,e,p⟩ st hd=>by
  subst e;have h0:=hd;obtain⟨c,xs,rfl,n,hx,u⟩:=hd.eN;have hc:H c=none:=jS λz=>n z;refine z true c xs H' ds p st hc hx ((ah.out h0 (by simp) u).av λx z=>?_);rcases z with z|z
  .exact .inl (W.gp x z)
  .exact .inr z
end
noncomputable def TU(mQ:List Int)(prs:aA):Nat:=(prs.filter λpr=>decide (pr.1∈mQ)).length
noncomputable def JZ(cs:List aA)(mQ:List Int):Bool:=cs.all λprs=>decide (TU mQ prs≠1)
structure KP(cs:List aA)(mQ g:List Int):Prop where
 sub:∃q:Int->Bool,g=mQ.filter q
 out:JZ cs g=true
 max:∀T:List Int,(∀x∈T,x∈mQ)->JZ cs T=true->∀x∈T,x∈g
theorem KP.mem{cs:List aA}{mQ g:List Int}(h:KP cs mQ g):∀x∈g,x∈mQ:=λx hx=>by
 obtain⟨q,e⟩:=h.sub;rw[e] at hx;exact(k6.mp hx).1
noncomputable def PU(row:List Int):Int:=match row.getLast? with|none=>0|some l=>l+1
noncomputable def BH(n:Int)(a:List Int):List Int:=(bo (n-PU a).toNat).map λ(i:Nat)=>PU a+(i:Int)
noncomputable def ext(n:Int)(a:List Int):List (List Int):=(BH n a).map λp=>a++[p]
theorem HL{α c:Type}{φ:α->c}{F V:List c}(h:F.Perm V):∀xs:List α,V=xs.map φ->∃ys:List α,F=ys.map φ/\ys.Perm xs:=by
  induction h with
  |nil=>intro xs e;exact⟨[],rfl,by cases xs<;>first|exact .nil|cases e⟩
  | cons x _ ih =>
    intro xs e;cases xs with
    |nil=>cases e
    | cons a xs =>
      obtain⟨e1,e2⟩:=uX e;obtain⟨ys,e3,p⟩:=ih xs e2;exact⟨a::ys,by rw[e3,e1];rfl,p.cons a⟩
  | swap x y l =>
    intro xs e
    match xs,e with
    | a :: b :: xs, e =>
      obtain⟨e1,e2⟩:=uX e;obtain⟨e3,e4⟩:=uX e2;exact⟨b::a::xs,by rw[e1,e3,e4];rfl, .swap a b xs⟩
  | trans _ _ d f =>
    intro xs e;obtain⟨ys,e1,j⟩:=f xs e;obtain⟨zs,e2,p2⟩:=d ys e1;exact⟨zs,e2,p2.trans j⟩
noncomputable def gI(r:List Int)(i:Nat):Int:=r.getD i 0
noncomputable def co(prs:aA)(j:Nat):Int:=(prs.map λpr=>if pr.1.toNat=j then pr.2 else 0).sum
def mU(p:Int)(m:Nat)(prs:aA):Prop:=(prs.map (·.1)).Nodup/\prs.length<=1000/\∀pr∈prs,0<=pr.1/\pr.1<m/\1<=pr.2/\pr.2<p
theorem jU{P:(ax->Prop)->Prop}{H:Hp}(Z:∀{S S':ax->Prop},(∀a,S' a->S a)->P S->P S')(hf:∀{S:ax->Prop} {p:ax},H p=none->P S->P λa=>S a\/a=p):∀{L:List ax} {S:ax->Prop},(∀a∈L,H a=none)->P S->P λa=>S a\/a∈L
 |[],S,_,h=>Z (λa z=>z.elim (λz=>z) λz=>by cases z) h
 | p :: L, S, hL, h => Z (λa z => by
   rcases z with z|z
   .exact .inl (.inl z)
   .rcases aK.mp z with z|z
    .exact .inr z
    .exact .inl (.inr z)) (hf (hL p (dj ..)) (jU Z hf (L:=L) (λa m=>hL a (cS _ m)) h))
section
variable{G:Gx}{ρ:Rh}{nb:ax->Prop}{σ:qg}{H H1:Hp}{i:Nat}{L:List ax}{c c':Cu}{f:Bool}{d:PyData}{p:ax}{o:HO}{E:DE}
theorem Wd.M4(W:Wd G nb ρ σ H)(s1:Step G.B H H1)(ha:∀a∈L,H a=none)(e:∀a∈L,H1 a≠none):Wd G (λx=>nb x\/x∈L) ρ σ H1/\(∀a∈L,NB G.B a)/\∀f x,G.S (λx=>nb x\/x∈L) f x->(G.S nb f x\/x∈L):=by
  have hN:∀a∈L,NB G.B a:=λa m=>NB.new W.az (ha a m);have hA:∀f x,G.S (λx=>nb x\/x∈L) f x->(G.S nb f x\/x∈L):=λf x z=>by
    rcases z with (z|z)|z|z|z
    · exact .inl (.inl z)
    · exact .inr z
    · exact .inl (.inr (.inl z))
    · exact .inl (.inr (.inr (.inl z)))
    · exact .inl (.inr (.inr (.inr z)))
  have W1:=W.step s1;have A:∀{S:ax->Prop} {d:PyData} {v:V},ai S H d v->ai (λa=>S a\/a∈L) H d v:=λ{S d v} h=>jU (P:=λS=>ai S H d v) (λz h=>ai.av z h) (λhp h=>ai.fresh hp h) ha h;have C:∀{S:ax->Prop} {d:List PyData} {v:List V},ah S H d v->ah (λa=>S a\/a∈L) H d v:=λ{S d v} h=>jU (P:=λS=>ah S H d v) (λz h=>ah.av z h) (λhp h=>ah.fresh hp h) ha h;have E:∀{S:ax->Prop} {d:List (PyData×PyData)} {v:List (Key×V)},aB S H d v->aB (λa=>S a\/a∈L) H d v:=λ{S d v} h=>jU (P:=λS=>aB S H d v) (λz h=>aB.av z h) (λhp h=>aB.fresh hp h) ha h;have D:∀{S:ax->Prop} {d:HD} {v:V},gF S H d v->gF (λa=>S a\/a∈L) H d v:=λ{S d v} h=>jU (P:=λS=>gF S H d v) (λz h=>gF.av h z) (λhp h=>gF.fresh h hp) ha h;refine⟨?_,hN,hA⟩;refine⟨W1.az,λx n=>?_,W1.old,λx n q=>?_,W.gA,W.len,W.gB,λh m=>((D (W.eu h m)).keep (s1.but λx z=> .inl (.inr (.inr (.inl z))))).av (hA h.1),λj s e'=>?_,W.apart,W.gJ,W.eG⟩
  · rcases n with n|n
    · exact W1.live x n
    · exact e x n
  · rcases n with n|n
    · exact W.dg x n q
    · cases z:G.H0 x with
      |none=>rfl
      |some o=>have:=ha x n;rw[W.old x o q z] at this;cases this
  · obtain⟨x,e1,h⟩:=W.ok j s e'
    refine⟨x,e1,?_⟩;cases s with
    |no=>trivial
    |d f d=>obtain⟨v,e,h⟩:=h;exact⟨v,e,((A h).keep (s1.but λx z=> .inl (.inr (.inr (.inl z))))).av (hA f)⟩
    |own c f es=>obtain⟨e,n,q,xs,hx,hd⟩:=h;exact⟨e, .inl n,q,xs,s1.1 _ _ q hx,((C hd).keep (s1.but λx z=> .inl (.inr (.inr (.inl z))))).av (hA f)⟩
    |az=>exact h
    |raw v=>exact h
    |bR c f es=>obtain⟨e,n,q,xs,hx,hd⟩:=h;exact⟨e, .inl n,q,xs,s1.1 _ _ q hx,((E hd).keep (s1.but λx z=> .inl (.inr (.inr (.inl z))))).av (hA f)⟩
    | cu c =>
      obtain⟨e,n,q⟩:=h;refine⟨e,λa ha=>⟨.inl (n a ha).1,(n a ha).2⟩,c.av (hA c.f) (c.keep (.of λx o hx e=>s1.1 x o ?_ e) (jU (P:=λS=>c.P S H) (λz h=>c.av z h) (λhp h=>c.fresh hp h) ha q))⟩;rcases hx with hx|hx
      · exact jS λz=>hx (.inl (.inr (.inr (.inl z))))
      · exact(n x hx).2
theorem pA.D5{x:Option V}{s:Sl}(h:pA G nb H x s):∀a∈s.adr,nb a/\NB G.B a:=by
 cases s with
 |own a f ds=>intro x hx;rw[br.mp hx];exact⟨h.2.1,h.2.2.1⟩
 |bR a f ds=>intro x hx;rw[br.mp hx];exact⟨h.2.1,h.2.2.1⟩
 |cu c=>exact h.2.1
 |no=>intro _ z;cases z
 |d _ _=>intro _ z;cases z
 |az=>intro _ z;cases z
 |raw _=>intro _ z;cases z
theorem Wd.Hg(W:Wd G nb ρ σ H)(s1:Step G.B H H1)(ha:∀a∈c.F,H a=none)(e:∀a∈c.F,H1 a≠none)(Z:c.P (λx=>G.S nb c.f x\/x∈c.F) H1):Wd G (λx=>nb x\/x∈c.F) (ρ.set i (.cu c)) (σ.set i (some c.v)) H1:=by
 obtain⟨W2,hN,hA⟩:=W.M4 s1 ha e;refine W2.set ⟨rfl,λa m=>⟨.inr m,hN a m⟩,c.av (hA c.f) Z⟩ (λ_ _ _ z=>by cases z) (λ_ _ _ z=>by cases z) (λx hx j t hj ht hc z=>?_);obtain⟨y,e1,h⟩:=W.ok j _ ht;exact W.live x (h.D5 x z).1 (ha x hx)
theorem Wd.Ck(W:Wd G nb ρ σ H)(e:ρ[i]?=some (.cu c))(hp:p∈c.F)(hv:c'.v=c.v)(M:∀a∈c'.F,a∈c.F)(h:c'.P (G.S nb c'.f) (upd H p o)):Wd G nb (ρ.set i (.cu c')) σ (upd H p o):=by
 obtain⟨x,e1,h1,h2,h3⟩:=W.ok i _ e;subst h1;have hil:i<ρ.length:=(bT.mp e).1;have W0:Wd G nb (ρ.set i .no) (σ.set i (some c.v)) H:=W.set trivial λ_ _ _ z=>by cases z
 have r:∀(j:Nat) s,(ρ.set i .no)[j]?=some s->s≠ .no->p∉s.adr:=λj s hs hn=>by
  have hij:i≠j:=λz=>by subst z;rw[cW hil] at hs;cases hs;exact hn rfl
  rw[bO hij] at hs;exact W.eG i j c s hij e hs p hp
 have W1:Wd G nb (ρ.set i .no) (σ.set i (some c.v)) (upd H p o):=W0.write (h2 p hp).1 (h2 p hp).2 (λj a f ds hs z=>r j _ hs (by intro z;cases z) (br.mpr z.symm)) (λj a f ds hs z=>r j _ hs (by intro z;cases z) (br.mpr z.symm)) (λj c hs=>r j _ hs (by intro z;cases z))
 have W2:=W1.set (i:=i) (s:= .cu c') (x:=some c.v) ⟨by rw[hv],λa m=>h2 a (M a m),h⟩ (λ_ _ _ z=>by cases z) (λ_ _ _ z=>by cases z) (λx hx j t hj ht hc=>by
  rw[bO (cB hj)] at ht;exact W.eG i j c t (cB hj) e ht x (M x hx))
 rw[lQ,lQ] at W2;have:σ.set i (some c.v)=σ:=by
  apply qU;intro j;by_cases hij:i=j;·subst hij;rw[cW (by rw[W.len];exact hil),e1]
  .rw[bO hij]
 rwa[this] at W2
theorem Wd.D1(W:Wd G nb ρ σ H)(e:ρ[i]?=some (.cu c))(h:c.P (G.S nb c.f) H->(∀a∈c.F,G.H0 a=none/\¬G.A a/\NB G.B a)->ai (G.S (λx=>nb x/\x∉c.F) f) H d c.v):Wd G (λx=>nb x/\x∉c.F) (ρ.set i (.d f d)) σ H:=by
 obtain⟨x,e1,h1,h2,h3⟩:=W.ok i _ e;subst h1;have hil:i<ρ.length:=(bT.mp e).1;have W0:Wd G nb (ρ.set i .no) (σ.set i (some c.v)) H:=W.set trivial λ_ _ _ z=>by cases z
 have W1:Wd G (λx=>nb x/\x∉c.F) (ρ.set i .no) (σ.set i (some c.v)) H:=by
  refine⟨W0.az,λx n=>W0.live x n.1,W0.old,λx n=>W0.dg x n.1,W0.gA,W0.len,W0.gB,λh m=>(W0.eu h m).av (bZ (λz=>z) λ_ z=>z.1),λj s e'=>?_,W0.apart,W0.gJ,W0.eG⟩;obtain⟨x,mJ,L⟩:=W0.ok j s e';refine⟨x,mJ,?_⟩;have hij:s≠ .no->i≠j:=λn z=>by subst z;rw[cW hil] at e';cases e';exact n rfl
  have ap:s≠ .no->∀a∈s.adr,a∉c.F:=λn a m z=>by
   have hij:=hij n;rw[bO hij] at e';exact W.eG i j c s hij e e' a z m
  cases s with
  |no=>trivial
  |d f d=>obtain⟨v,e,L⟩:=L;exact⟨v,e,L.av (bZ (λz=>z) λ_ z=>z.1)⟩
  |own a f es=>obtain⟨e2,n,q,xs,hx,hd⟩:=L;exact⟨e2,⟨n,ap (by intro z;cases z) a (br.mpr rfl)⟩,q,xs,hx,hd.av (bZ (λz=>z) λ_ z=>z.1)⟩
  |az=>exact L
  |raw v=>exact L
  |bR a f es=>obtain⟨e2,n,q,xs,hx,hd⟩:=L;exact⟨e2,⟨n,ap (by intro z;cases z) a (br.mpr rfl)⟩,q,xs,hx,hd.av (bZ (λz=>z) λ_ z=>z.1)⟩
  |cu c2=>obtain⟨e2,n,q⟩:=L;exact⟨e2,λa m=>⟨⟨(n a m).1,ap (by intro z;cases z) a m⟩,(n a m).2⟩,c2.av (bZ (λz=>z) λ_ z=>z.1) q⟩
 have W2:=W1.nh (i:=i) (f:=f) (d:=d) (v:=c.v) (h h3 λa m=>⟨W.dg a (h2 a m).1 (h2 a m).2,λz=>W.gA a z (W.dg a (h2 a m).1 (h2 a m).2),(h2 a m).2⟩);rw[lQ,lQ] at W2;have:σ.set i (some c.v)=σ:=by
  apply qU;intro j;by_cases hij:i=j;·subst hij;rw[cW (by rw[W.len];exact hil),e1]
  .rw[bO hij]
 rwa[this] at W2
end
noncomputable def zo(prs:aA)(pl:Int):Option Int:=(prs.find? λpr=>decide (pr.1=pl)).map (·.2)
noncomputable def D0(p:Int)(c:Nat):Option Int->List (Int×Int)
 |some f=>[((c:Int),sol p f 1)]
 |none=>[]
noncomputable def Bd(p:Int)(cs:List aA)(pl:Int)(i:Nat):List (Int×Int):=(bo i).flatMap λc=>D0 p c (zo (cs.getD c []) pl)
theorem Uu{p:Int}{cs:List aA}{pl:Int}{q:Int×Int}{i:Nat}(hi:i<=cs.length)(h:q∈Bd p cs pl i):∃(c:Nat) (prs:aA) (f:Int),cs[c]?=some prs/\c<i/\zo prs pl=some f/\q=((c:Int),sol p f 1):=by
  unfold Bd at h;obtain⟨c,hc,hq⟩:=AJ.mp h;have hc:=pX.mp hc;have e:cs[c]?=some cs[c]:=bw ∅;rw[k9,e] at hq;cases hf:zo cs[c] pl with
  |none=>simp[D0,hf] at hq
  | some f =>
    have hq:q∈D0 p c (zo cs[c] pl):=hq;rw[hf] at hq;exact⟨c,cs[c],f,e,hc,hf,br.mp hq⟩
noncomputable def tX(p:Int)(cs:List aA)(ws:List Int)(pl:Int):List Int:=
 (Bd p cs pl cs.length).map λq=>(ws.getD pl.toNat 0-dB (cs.getD q.1.toNat []) (ws.map some)%p*q.2)%p
structure Ej(p n:Int)(cs:List aA):Prop where
 hp:gG p
 qQ:p<10^40
 n0:1<=n
 n1:n<=400
 cl:cs.length<=400
 ok:∀prs∈cs,mU p n.toNat prs
noncomputable def Px(L:List Int)(w x:Int):Bool:=decide (x≠w) && decide (L.length<2*L.count x)
noncomputable def zw(L:List Int)(w:Int):List Int:=(L.filter (Px L w)).take 1
@[reducible] noncomputable def sW(t:Int×Int×Int):PyData:= .tuple [.int t.1, .int t.2.1, .int t.2.2]
noncomputable def OW(p:Int)(cs:List aA)(ws:List Int)(i:Nat):List (Int×Int×Int):=(zw (tX p cs ws (i:Int)) (ws.getD i 0)).map λx=>((i:Int),ws.getD i 0,x)
noncomputable def tB(p:Int)(cs:List aA)(ws:List Int)(m:Nat):List (Int×Int×Int):=(bo m).flatMap (OW p cs ws)
noncomputable def brk(p:Int)(cs:List aA)(ws:List Int):Nat:=cs.countP λprs=>decide (dB prs (ws.map some)%p≠0)
noncomputable abbrev Mb:=Int×Int×Int
theorem YU(b:List Mb):de (.list (b.map sW))=true:=by
 have h:df (b.map sW)<=1/\cU (b.map sW)=true:=by
  induction b with
  |nil=>simp[df,cU]
  |cons a r ih=>simp[sW,df,hG,cU,dy,ih.2];have:=ih.1;omega
 unfold de;simp only[dy,hG,h.2,Fz];have:=h.1;simp;omega
theorem Oc:de (.list [])=true:=by with_unfolding_all rfl
theorem YF(b:List Mb):(dE (.list (b.map sW)) (.list []) !=false)=decide (b=[]):=by
 cases b<;>simp[dE,eJ]
structure n6(P:bg)(w:cq)(K:PySem.W.Frag)(mg:Str->Option ag)(base:eC)(C:ax)(m:Str)(k:Nat)(ps:List Str)(sp:Sp):Prop where
 cl:fR K C
 ex:∃f fd,aW P w K mg base bu k f fd ps sp/\Binds K fd ps []/\Meth K C m f
structure Dl(P:bg)(w:cq)(K:PySem.W.Frag)(mg:Str->Option ag)(base:eC)(C:ax)(x:Str)(k:Nat)(ps:List Str)(sp:Sp):Prop where
 ex:∃f fd,aW P w K mg base bu k f fd ps sp/\Binds K fd ps []/\Mk K C f/\mg x=some (.ref C)
section
variable{X:Cx}{C:ax}{k:Nat}{ps:List Str}{sp:Sp}{x m:Str}{p pos apos:Pos}{e o:et}{es:List et}{ta:TE}{t:TA}
theorem wF{pl:Sem Bool}(c:n6 X.prog X.w X.K X.mg X.base C m k ps sp)(he:PE X o ta)(hr:dY k X.A)
  (ht : eval (.Call (.Attribute o m apos) [] [] pos) X.env = (do
   let ov<-eval o X.env
   standAt apos.atName
   let (f,first)<-holding [ov] (qc ov m pl)
   callWith pos f first (lj pos (cm [] X.env)) (yf pos (ql [] X.env))):=by rfl):
  PE X (.Call (.Attribute o m apos) [] [] pos) (t8 C m sp [] E0 ta bM):=by
 obtain⟨f,fd,F,b,mm⟩:=c.ex;exact WM (pl:=pl) he c.cl mm F hr b .nil Af ht
theorem Vj(c:Dl X.prog X.w X.K X.mg X.base C x k ps sp)(hr:dY (k+1) X.A)(ha:PA X (e::es) t)(hg:Gl X x:=by rfl)
  (a:(x==("__debug__":Str))=false:=by decide) (he:cm (e::es) X.env=(false,eval e X.env)::cm es X.env:=by rfl) (Y:(lj pos (cm es X.env)).any (·.1)=false:=by rfl):
  PE X (.Call (.Name x p) (e::es) [] pos) (FQ C sp [] E0 t):=by
 obtain⟨f,fd,F,b,M,m⟩:=c.ex;exact Z6 M F hr hg m b .nil Af ha a he Y
end
section
variable{G:Gx}{ρ:Rh}{nb:ax->Prop}{σ:qg}{H H':Hp}{i:Nat}{c c':Cu}{E:DE}
theorem Wd.P6(W:Wd G nb ρ σ H)(e:ρ[i]?=some (.cu c))(p:∀a o,a∉c.F->H a=some o->H' a=some o)(hv:c'.v=c.v)(M:∀a∈c'.F,a∈c.F\/H a=none\/(nb a/\NB G.B a/\∀(j:Nat) s,ρ[j]?=some s->a∉s.adr))(hl:∀a,a∈c.F\/a∈c'.F->H' a≠none)
    (h:c'.P (G.S (λx=>nb x\/x∈c'.F) c'.f) H'):Wd G (λx=>nb x\/x∈c'.F) (ρ.set i (.cu c')) σ H':=by
  obtain⟨T,e1,h1,h2,h3⟩:=W.ok i _ e;subst h1;have hil:i<ρ.length:=(bT.mp e).1;obtain⟨L,y⟩:∃L,L=c'.F.filter λa=>(H a).isNone:=⟨_,rfl⟩;have ha:∀a∈L,H a=none:=λa m=>by
    rw[y,k6] at m;exact HR.mp m.2
  have K:∀a∈c'.F,nb a\/a∈L:=λa m=>by
    rcases M a m with z|z|z
    · exact .inl (h2 a z).1
    · exact .inr (by rw[y];exact k6.mpr ⟨m,HR.mpr z⟩)
    · exact .inl z.1
  have hA:∀f x,G.S (λx=>nb x\/x∈c'.F) f x->(G.S nb f x\/x∈L):=λf x z=>by
    rcases z with (z|z)|z|z|z
    · exact .inl (.inl z)
    · exact(K x z).elim (λz=> .inl (.inl z)) .inr
    · exact .inl (.inr (.inl z))
    · exact .inl (.inr (.inr (.inl z)))
    · exact .inl (.inr (.inr (.inr z)))
  have bt:∀f,aY (G.S (λx=>nb x\/x∈c'.F) f) H H':=λf a o n q=>p a o (λz=>n (.inl (.inl (h2 a z).1))) q;have A:∀{S:ax->Prop} {d:PyData} {v:V},ai S H d v->ai (λa=>S a\/a∈L) H d v:=λ{S d v} h=>jU (P:=λS=>ai S H d v) (λz h=>ai.av z h) (λhp h=>ai.fresh hp h) ha h;have C:∀{S:ax->Prop} {d:List PyData} {v:List V},ah S H d v->ah (λa=>S a\/a∈L) H d v:=λ{S d v} h=>jU (P:=λS=>ah S H d v) (λz h=>ah.av z h) (λhp h=>ah.fresh hp h) ha h;have E:∀{S:ax->Prop} {d:List (PyData×PyData)} {v:List (Key×V)},aB S H d v->aB (λa=>S a\/a∈L) H d v:=λ{S d v} h=>jU (P:=λS=>aB S H d v) (λz h=>aB.av z h) (λhp h=>aB.fresh hp h) ha h;have D:∀{S:ax->Prop} {d:HD} {v:V},gF S H d v->gF (λa=>S a\/a∈L) H d v:=λ{S d v} h=>jU (P:=λS=>gF S H d v) (λz h=>gF.av h z) (λhp h=>gF.fresh h hp) ha h;have u:∀a∈c'.F,NB G.B a:=λa m=>(M a m).elim (λz=>(h2 a z).2) λz=>z.elim (λz=>NB.new W.az z) λz=>z.2.1;have I:j3 G.B H':=λb l eb=>by
    obtain⟨ns,t,c0,st,n,g1,g2,N⟩:=W.az b l eb;have hb:b∉c.F:=λz=>(h2 b z).2 b l eb rfl;have mZ:l∉c.F:=λz=>by
      obtain⟨_,_,_,_,_,_,O,_⟩:=W.gB b l eb;rw[W.dg l (h2 l z).1 (h2 l z).2] at O;cases O
    exact⟨ns,t,c0,st,n,p _ _ hb g1,p _ _ mZ g2,N⟩
  have r:∀(j:Nat) s,i≠j->ρ[j]?=some s->∀a∈s.adr,a∉c.F:=λj s hij hs a m z=>W.eG i j c s hij e hs a z m;refine⟨I,λa n=>?_,λa o n q=>?_,λa n q=>?_,W.gA,by rw[jd];exact W.len,W.gB,λh m=>((D (W.eu h m)).av (hA h.1)).keep (bt h.1),λj s e'=>?_,?_,?_,?_⟩
  · rcases n with n|n
    · by_cases z:a∈c.F
      · exact hl a (.inl z)
      · cases q:H a with
        |none=>exact absurd q (W.live a n)
        |some o=>rw[p a o z q];exact ie _
    · exact hl a (.inr n)
  · refine p a o (λz=>?_) (W.old a o n q)
    rw[W.dg a (h2 a z).1 n] at q;cases q
  · rcases n with n|n
    · exact W.dg a n q
    · rcases M a n with z|z|z
      · exact W.dg a (h2 a z).1 q
      · cases w:G.H0 a with
        |none=>rfl
        |some o=>rw[W.old a o q w] at z;cases z
      · exact W.dg a z.1 q
  · by_cases hij:i=j
    · subst hij
      rw[cW hil] at e';cases e';exact⟨some c.v,e1,by rw[hv],λa m=>⟨.inr m,u a m⟩,h⟩
    · rw[bO hij] at e'
      obtain⟨x,e2,q⟩:=W.ok j s e';refine⟨x,e2,?_⟩;have ap:=r j s hij e';cases s with
      |no=>trivial
      |d f d=>obtain⟨v,e,h⟩:=q;exact⟨v,e,((A h).av (hA f)).keep (bt f)⟩
      |own a f es=>obtain⟨e,n,q,xs,hx,hd⟩:=q;exact⟨e, .inl n,q,xs,p _ _ (ap a (br.mpr rfl)) hx,((C hd).av (hA f)).keep (bt f)⟩
      |az=>exact q
      |raw v=>exact q
      |bR a f es=>obtain⟨e,n,q,xs,hx,hd⟩:=q;exact⟨e, .inl n,q,xs,p _ _ (ap a (br.mpr rfl)) hx,((E hd).av (hA f)).keep (bt f)⟩
      | cu c2 =>
        obtain⟨e,n,q⟩:=q;refine⟨e,λa ha=>⟨.inl (n a ha).1,(n a ha).2⟩,c2.keep (.of λx o hx e=>p x o ?_ e) (c2.av (hA c2.f) (jU (P:=λS=>c2.P S H) (λz h=>c2.av z h) (λhp h=>c2.fresh hp h) ha q))⟩;rcases hx with hx|hx
        · exact λz=>hx (.inl (.inl (h2 x z).1))
        · exact ap x hx
  all_goals
    intro j k
  · intro a f as c2 g cs hjk q1 O
    have hj:i≠j:=λz=>by subst z;rw[cW hil] at q1;cases q1
    have hk:i≠k:=λz=>by subst z;rw[cW hil] at O;cases O
    rw[bO hj] at q1;rw[bO hk] at O;exact W.apart j k a f as c2 g cs hjk q1 O
  · intro a f as c2 g cs hjk q1 O
    have hj:i≠j:=λz=>by subst z;rw[cW hil] at q1;cases q1
    have hk:i≠k:=λz=>by subst z;rw[cW hil] at O;cases O
    rw[bO hj] at q1;rw[bO hk] at O;exact W.gJ j k a f as c2 g cs hjk q1 O
  · intro c2 s hjk q1 O a m z
    have J:∀(j:Nat) s,i≠j->ρ[j]?=some s->∀a∈s.adr,a∉c'.F:=λj s hij hs a m z=>by
      rcases M a z with w|w|w
      · exact r j s hij hs a m w
      · obtain⟨x,_,q⟩:=W.ok j s hs
        exact W.live a (q.D5 a m).1 w
      · exact w.2.2 j s hs m
    by_cases hj:i=j
    · subst hj
      rw[cW hil] at q1;cases q1;rw[bO hjk] at O;exact J k s hjk O a z m
    · rw[bO hj] at q1
      by_cases hk:i=k
      · subst hk
        rw[cW hil] at O;cases O;exact J j _ hj q1 a m z
      · rw[bO hk] at O
        exact W.eG j k c2 s hjk q1 O a m z
end
def gH(G:Gx)(ρ:Rh)(te:TE)(Φ:Rh->Pd):Prop:=∀nb σ H (Q:VK),Wd G nb ρ σ H->(∀aN C f v H' d,Φ C f d->Wd G aN C σ H'->ai (G.S aN f) H' d v->Q v H')->te σ H Q
def yZ(G:Gx)(ρ:Rh)(ta:TA)(Φ:Rh->List Fd->Prop):Prop:=∀nb σ H (Q:List V->Hp->Prop),Wd G nb ρ σ H->(∀aN C es vs H',Φ C es->Wd G aN C σ H'->jP G aN H' es vs->Q vs H')->ta σ H Q
section
variable{G:Gx}{ρ:Rh}{Φ:Rh->Pd}{ta tb te:TE}{t:TA}{c u:TT}{i:Nat}{E:DE}{s s':TS}
theorem gH.of(h:Ev G ρ te (Φ ρ)):gH G ρ te Φ:=λnb σ H Q W z=>h nb σ H Q W λf v H' d q st hv=>z nb ρ f v H' d q (W.step st) hv
theorem yZ.cons{Θ:Rh->List Fd->Prop}(h:gH G ρ te λC f d=>Av G C t λes=>Θ C ((f,d)::es)):yZ G ρ (bz te t) Θ:=λnb σ H Q W z=>
 h nb σ H _ W λaN C f v H1 d j W1 J=>j aN σ H1 _ W1 λes vs H2 p2 s2 O=>z aN C _ _ H2 p2 (W1.step s2) ⟨v,vs,rfl,J.keep s2.dJ,O⟩
namespace Sv
theorem DT{g:TG}(h:gH G ρ te λC f d=>Gv G C g f d E.nx):Sv G ρ (gE te g) E:=λnb σ H D W K=>h nb σ H _ W λaN C f v H1 d q W1 hv=>q aN σ H1 v _ W1 hv λL C p W'=>K.nx aN C L H1 p W'
theorem retS(h:gH G ρ te λ_=>E.rt):Sv G ρ (kY te) E:=λnb σ H D W K=>h nb σ H _ W λaN C f v H1 d q W1 hv=>K.rt aN C σ f v H1 d q W1 (hv.av (bZ (λz=>z) λ_ z=>z.elim))
theorem Ci(h:gH G ρ te λC f d=>∀nb v H,ai (G.S nb f) H d v->E.rw nb C v H):Sv G ρ (kY te) E:=λnb σ H D W K=>h nb σ H _ W λaN C f v H1 d q W1 hv=>K.rw aN C σ v H1 (q aN v H1 hv) W1
end Sv
end
structure rq(c c':Cu)(H H':Hp):Prop where
 v:c'.v=c.v
 f:c'.f=false
 sub:∀a∈c.F,a∈c'.F
 new:∀a∈c'.F,a∈c.F\/H a=none
 kp:∀a o,a∉c.F->H a=some o->H' a=some o
 lv:∀a∈c'.F,H' a≠none
abbrev CF:=Cu->List PyData->(Cu->Pd)->Prop
def pP(F:CF):Prop:=∀c ds (Φ Ψ:Cu->Pd),F c ds Φ->(∀c f d,Φ c f d->Ψ c f d)->F c ds Ψ
def iZ(n:Nat)(F:CF):Sp:=λvs H Q _=>vs.length=n/\∃(nb:ax->Prop) (c:Cu) (ws:List V) (ds:List PyData),vs=c.v::ws/\iK nb H/\(∀a∈c.F,nb a)/\c.f=false/\c.P nb H/\ah nb H ds ws/\
 F c ds λc' f d=>∀v H',rq c c' H H'->c'.P (λa=>nb a\/a∈c'.F) H'->ai (λa=>nb a\/a∈c'.F\/(f=true/\H a≠none)) H' d v->Q v H'
section
variable{G:Gx}{ρ:Rh}{Φ:Rh->Pd}{ta tb te:TE}{t:TA}{i:Nat}{E:DE}{c:Cu}{C:ax}{m:Str}{n:Nat}{F:CF}
theorem gH.QC{nb:ax->Prop}{σ:qg}{H1:Hp}{Q:VK}{es:List Fd}{vs:List V}(hm:pP F)(e:ρ[i]?=some (.cu c))(W1:Wd G nb ρ σ H1)(J:jP G nb H1 es vs)(hl:es.length+1=n)(b:c.f=false)(p:F c (es.map (·.2)) λc' f d=>Φ (ρ.set i (.cu c')) f d)
  (z:∀aN C f v H' d,Φ C f d->Wd G aN C σ H'->ai (G.S aN f) H' d v->Q v H'):iZ n F (c.v::(vs++[])) H1 Q E0:=by
 rw[fY];obtain⟨T,e1,h1,h2,h3⟩:=W1.ok i _ e;refine⟨by rw[eB,J.len,hl],G.S nb false,c,vs,es.map (·.2),rfl,W1.gp,λa m=> .inl (h2 a m).1,b,by rw[b] at h3;exact h3,J.all (f:=false) (λz=>by cases z),hm _ _ _ _ p λc' f d hp v H' to Z hd=>?_⟩;refine z _ _ f v H' d hp (W1.P6 (c':=c') e to.kp to.v (λa m=>(to.new a m).imp id .inl) (λa m=>m.elim (λm=>to.lv a (to.sub a m)) λm=>to.lv a m) (c'.av (λa y=>?_) Z)) (hd.av λa y=>?_)
 .rw[to.f] at y;rcases y with (y|y)|y|y|y
  .exact .inl (.inl y)
  .exact .inr y
  .exact .inl (.inr (.inl y))
  .exact .inl (.inr (.inr (.inl y)))
  .cases y.1
 .rcases y with (y|y)|y|y|y
  .exact .inl (.inl y)
  .exact .inr (.inl y)
  .exact .inl (.inr (.inl y))
  .exact .inl (.inr (.inr (.inl y)))
  .exact .inr (.inr ⟨y.1,W1.gp (f:=true) a (.inr (.inr (.inr ⟨rfl,y.2⟩)))⟩)
theorem gH.Ai(hm:pP F)(e:ρ[i]?=some (.cu c))(b:c.f=false)(hi:∀S H,c.P S H->∃a dx fs,c.v= .ref a/\H a=some (.ins C dx fs)/\fs.lookup m=none)
  (h:Av G ρ t λes=>es.length+1=n/\F c (es.map (·.2)) λc' f d=>Φ (ρ.set i (.cu c')) f d):gH G ρ (t8 C m (iZ n F) [] E0 (cH i) t) Φ:=λnb σ H Q W z=>by
 obtain⟨T,e1,h1,h2,h3⟩:=W.ok i _ e;subst h1;obtain⟨a,dx,fs,g1,g2,N⟩:=hi _ _ h3;refine⟨c.v,e1,a,dx,fs,g1,g2,N,h nb σ H _ W λes vs H1 ⟨hl,p⟩ s1 J=>?_⟩;exact gH.QC hm e (W.step s1) J hl b p z
end
noncomputable def oW(F:List ax)(H:Hp)(nb:ax->Prop):Gx:=⟨none,λa=>if a∈F then none else H a,λa=>nb a/\a∉F,[]⟩
structure CA(c c':Cu):Prop where
 v:c'.v=c.v
 f:c'.f=false
 sub:∀a∈c.F,a∈c'.F
noncomputable def objE(G:Gx)(c:Cu)(Φ:Cu->Pd):DE where
 nx:=λρ=>∃c',ρ[0]?=some (.cu c')/\CA c c'/\Φ c' true .none
 rt:=λ_ _=>False
 rw:=λnb ρ v H=>∃c' f d,ρ[0]?=some (.cu c')/\CA c c'/\Φ c' f d/\ai (G.S nb f) H d v
section
variable{ρ:Rh}{t:TS}{N:List Str}{ws:List V}{ds:List PyData}{nb:ax->Prop}{H:Hp}{Q:VK}{Φ:Cu->Pd}{c:Cu}
theorem Sv.v5(hl:iK nb H)(M:∀a∈c.F,nb a)(hf:c.f=false)(Z:c.P nb H)(hd:ah nb H ds ws)
    (I:∀c' f d v H',Φ c' f d->rq c c' H H'->c'.P (λa=>nb a\/a∈c'.F) H'->ai (λa=>nb a\/a∈c'.F\/(f=true/\H a≠none)) H' d v->Q v H')
    (r:ρ= .cu c::ds.map (Sl.d false)++cf (N.length-(ds.length+1)) .no) (h:Sv (oW c.F H nb) ρ t (objE (oW c.F H nb) c Φ)):t {nx:=λ_ H'=>Q .aL H',rt:=Q} (start N (c.v::ws)) H:=by
  have hlen:=hd.length;have u:∀a,NB (oW c.F H nb).B a:=λa b l e=>by cases e
  have key:∀{aN C L H' c'} {f:Bool} {d:PyData} {v:V},Wd (oW c.F H nb) aN C L H'->C[0]?=some (.cu c')->CA c c'->Φ c' f d->ai ((oW c.F H nb).S aN f) H' d v->Q v H':=λ{aN C L H' c' f d v} W e up p hv=>by
    obtain⟨T,e1,h1,h2,h3⟩:=W.ok 0 _ e;have vv:∀(f:Bool) a,nb a\/a∈c'.F\/(f=true/\H a≠none)->(oW c.F H nb).S aN f a:=λf a z=>by
      by_cases m:a∈c'.F;· exact .inl (h2 a m).1
      have m':a∉c.F:=λz=>m (up.sub a z);rcases z with z|z|z
      · exact .inr (.inl ⟨z,m'⟩)
      · exact absurd z m
      · exact .inr (.inr (.inr ⟨z.1,by show(if a∈c.F then none else H a)≠none;rw[if_neg m'];exact z.2⟩))
    refine I c' f d v H' p ⟨up.v,up.f,up.sub,λa m=>?_,λa o n q=>?_,λa m=>W.live a (h2 a m).1⟩ (c'.av (λa z=>by rw[up.f];exact vv false a (z.elim .inl λz=> .inr (.inl z))) h3) (hv.av (vv f))
    · have:=W.dg a (h2 a m).1 (h2 a m).2
      by_cases z:a∈c.F;· exact .inl z
      · exact .inr (by have q:(if a∈c.F then none else H a)=none:=this;rwa[if_neg z] at q)
    · exact W.old a o (u a) (by show(if a∈c.F then none else H a)=_;rw[if_neg n];exact q)
  refine h (λa=>a∈c.F) _ H _ ⟨λ_ _ z=>(by cases z),λa z=>hl a (M a z),λa o _ e=>?_,λa z _=>by show(if a∈c.F then none else H a)=none;rw[if_pos z],λa z=>?_,?_,λ_ _ z=>(by cases z),λ_ m=>(by cases m),λi s e=>?_,?_,?_,?_⟩ ⟨λaN C L H' ⟨c',e,up,p⟩ W=>key W e up p .aL,λ_ _ _ _ q _=>q.elim,λ_ _ _ _ q _=>q.elim,λ_ _ _ _ _ _ _ q _ _=>q.elim,λaN C L v H' ⟨c',f,d,e,up,p,hv⟩ W=>key W e up p hv⟩
  · have e:(if a∈c.F then none else H a)=some o:=e
    by_cases z:a∈c.F;· rw[if_pos z] at e;cases e
    · rwa[if_neg z] at e
  · show(if a∈c.F then none else H a)≠none
    rw[if_neg z.2];exact hl a z.1
  · rw[r];unfold start;simp[hlen]
  · rw[r] at e
    unfold start;have av:∀a,(oW c.F H nb).S (λa=>a∈c.F) false a->nb a:=λa z=>by
      rcases z with z|z|z|z
      · exact M a z
      · exact z.1
      · exact absurd (u a) z
      · cases z.1
    cases i with
    |zero=>simp at e;subst e;exact⟨some c.v,by simp,rfl,λa m=>⟨m,u a⟩,by rw[hf];exact c.av av Z⟩
    | succ i =>
      simp only[kU,lO,bN,eB] at e⊢;by_cases hi:i<ds.length
      · rw[gQ (by rw[ak];exact hi)] at e
        obtain⟨v,d,hv,rfl,q⟩:=lV hd e;refine⟨some v,?_,v,rfl,q.av av⟩;rw[gQ (by rw[ak,hlen];exact hi),cY,hv];rfl
      · rw[iD (by rw[ak];omega),g8] at e
        split at e
        · rename_i h'
          cases e;refine⟨none,?_,trivial⟩;rw[ak] at h';rw[iD (by rw[ak];omega),g8,if_pos (by rw[ak,hlen];exact h')]
        · cases e
  all_goals
    have sl:∀{i:Nat} {s:Sl},ρ[i+1]?=some s->s.adr=[]:=λ{i s} e1=>by
      rw[r] at e1;simp only[kU,lO] at e1;by_cases hi:i<ds.length
      · rw[gQ (by rw[ak];exact hi)] at e1
        obtain⟨_,_,_,z,_⟩:=lV hd e1;subst z;rfl
      · rw[iD (by rw[ak];omega),g8] at e1
        split at e1;· cases e1;rfl
        · cases e1
    have s0:∀{s:Sl},ρ[0]?=some s->s= .cu c:=λ{s} e1=>by rw[r] at e1;simp at e1;exact e1.symm
  · intro i j a f as c2 g cs hij e1
    cases i with
    |zero=>cases s0 e1
    |succ i=>cases sl e1
  · intro i j a f as c2 g cs hij e1
    cases i with
    |zero=>cases s0 e1
    |succ i=>cases sl e1
  · intro i j c2 s hij e1 e2 a m
    cases i with
    | zero =>
      cases j with
      |zero=>exact absurd rfl hij
      |succ j=>rw[sl e2];exact λz=>by cases z
    | succ i =>
      have:=sl e1;rw[show Sl.adr (.cu c2)=c2.F from rfl] at this;rw[this] at m;cases m
end
theorem Kp.sub{S:ax->Prop}{F b:List ax}{H H':Hp}(k:Kp S F H H')(h:∀a∈b,a∈F):Kp S b H H':=⟨λa m=>k.own a (h a m),k.lst,k.tup,k.bR⟩
noncomputable def lB(a:ax)(ds:List PyData):Cu where
 v:= .ref a
 F:=[a]
 f:=false
 P:=λS H=>∃xs,H a=some (.lst xs)/\ah S H ds xs
 keep:=λk ⟨xs,h,q⟩=>⟨xs,k.own _ (br.mpr rfl) _ h,ah.kp k q⟩
 av:=λz ⟨xs,h,q⟩=>⟨xs,h,q.av z⟩
 fresh:=λz ⟨xs,h,q⟩=>⟨xs,h,q.fresh z⟩
inductive Fl where
 |d (d:PyData)|cu (c:Cu)
noncomputable def Fl.adr:Fl->List ax
 | .d _=>[]
 | .cu c=>c.F
def lA(S:ax->Prop)(H:Hp)(v:V):Fl->Prop
 | .d d=>ai S H d v
 | .cu c=>v=c.v/\c.P S H
noncomputable abbrev Fs:=List (Str×Fl)
def cD(S:ax->Prop)(H:Hp):Fs->List (Str×V)->Prop
 |[],vs=>vs=[]
 |f::fs,vs=>∃v ws,vs=(f.1,v)::ws/\lA S H v f.2/\cD S H fs ws
noncomputable def cT(x dx:ax)(fs:Fs):List ax:=x::dx::fs.flatMap λf=>f.2.adr
theorem lA.map{S S':ax->Prop}{H H':Hp}{v:V}{fl:Fl}(h:lA S H v fl)(hd:∀d v,ai S H d v->ai S' H' d v)(hc:∀c,fl= .cu c->c.P S H->c.P S' H'):lA S' H' v fl:=by
 cases fl with
 |d d=>exact hd _ _ h
 |cu c=>exact⟨h.1,hc c rfl h.2⟩
theorem cD.map{S S':ax->Prop}{H H':Hp}:∀{fs:Fs} {vs:List (Str×V)},cD S H fs vs->(∀d v,ai S H d v->ai S' H' d v)->(∀f∈fs,∀c,f.2= .cu c->c.P S H->c.P S' H')->cD S' H' fs vs
 |[],_,h,_,_=>h
 |f::fs,_,⟨v,ws,e,h1,h2⟩,hd,hc=>⟨v,ws,e,h1.map hd (hc f (dj ..)),cD.map h2 hd λg m=>hc g (cS _ m)⟩
theorem LF{x dx:ax}{fs:Fs}{f:Str×Fl}(h:f∈fs){a:ax}(m:a∈f.2.adr):a∈cT x dx fs:=cS _ (cS _ (AJ.mpr ⟨f,h,m⟩))
noncomputable def bV(C x dx:ax)(fs:Fs):Cu where
 v:= .ref x
 F:=cT x dx fs
 f:=false
 P:=λS H=>(cT x dx fs).Nodup/\H dx=some (.own x)/\fs.length<=900/\∃vs,H x=some (.ins C dx vs)/\cD S H fs vs
 keep:=λk ⟨n,h,l,vs,q,r⟩=>⟨n,k.own _ (by simp[cT]) _ h,l,vs,k.own _ (by simp[cT]) _ q,r.map (λd v z=>ai.kp k z) λf m c e z=>c.keep (k.sub λa y=>LF m (by rw[e];exact y)) z⟩
 av:=λz ⟨n,h,l,vs,q,r⟩=>⟨n,h,l,vs,q,r.map (λd v y=>y.av z) λf m c e y=>c.av z y⟩
 fresh:=λz ⟨n,h,l,vs,q,r⟩=>⟨n,h,l,vs,q,r.map (λd v y=>y.fresh z) λf m c e y=>c.fresh z y⟩
theorem cD.get{S:ax->Prop}{H:Hp}{f:Str}{fl:Fl}:∀{fs:Fs} {vs:List (Str×V)},cD S H fs vs->fs.lookup f=some fl->∃v,vs.lookup f=some v/\lA S H v fl
  |[],_,h,e=>by simp at e
  | (g, x) :: fs, _, ⟨v, ws, e, h1, h2⟩, q => by
    subst e;rw[bJ] at q⊢;cases hb:(f==g) with
    |true=>rw[hb] at q;cases q;exact⟨v,rfl,h1⟩
    |false=>rw[hb] at q;exact cD.get h2 q
theorem cD.no{S:ax->Prop}{H:Hp}{f:Str}:∀{fs:Fs} {vs:List (Str×V)},cD S H fs vs->fs.lookup f=none->vs.lookup f=none
  |[],_,h,e=>by unfold cD at h;subst h;rfl
  | (g, x) :: fs, _, ⟨v, ws, e, h1, h2⟩, q => by
    subst e;rw[bJ] at q⊢;cases hb:(f==g) with
    |true=>rw[hb] at q;cases q
    |false=>rw[hb] at q;exact cD.no h2 q
noncomputable def ff(f:Str)(v:Fl):Fs->Fs
 |[]=>[(f,v)]
 |(g,x)::r=>if g=f then(g,v)::r else(g,x)::ff f v r
theorem cD.put{S:ax->Prop}{H:Hp}{f:Str}{fl:Fl}{v:V}(hv:lA S H v fl):∀{fs:Fs} {vs:List (Str×V)},cD S H fs vs->cD S H (ff f fl fs) (gf f v vs)
  |[],_,h=>by unfold cD at h;subst h;exact⟨v,[],rfl,hv,rfl⟩
  | (g, x) :: fs, _, ⟨w, ws, e, h1, h2⟩ => by
    subst e;unfold ff gf;by_cases h:g=f;· rw[if_pos h,if_pos h];exact⟨v,ws,rfl,hv,h2⟩
    · rw[if_neg h,if_neg h];exact⟨w,_,rfl,h1,cD.put hv h2⟩
theorem cD.len{S:ax->Prop}{H:Hp}:∀{fs:Fs} {vs:List (Str×V)},cD S H fs vs->vs.length=fs.length
 |[],_,h=>by unfold cD at h;subst h;rfl
 |f::fs,_,⟨v,ws,e,h1,h2⟩=>by subst e;simp[cD.len h2]
theorem bV.is{C x dx:ax}{fs:Fs}{m:Str}(hm:fs.lookup m=none):∀S H,(bV C x dx fs).P S H->∃a dx' vs,(bV C x dx fs).v= .ref a/\H a=some (.ins C dx' vs)/\vs.lookup m=none:=λS H ⟨n,h,l,vs,q,r⟩=>⟨x,dx,vs,rfl,q,r.no hm⟩
section
variable{G:Gx}{ρ:Rh}{Φ:Pd}{ta tb te:TE}{t:TA}{i:Nat}{E:DE}{C x dx l:ax}{fs:Fs}{K:PySem.W.Frag}{f m:Str}{d:PyData}{ds:List PyData}
theorem Wd.pZ{nb:ax->Prop}{σ:qg}{H:Hp}(W:Wd G nb ρ σ H)(e:ρ[i]?=some (.cu (bV C x dx fs))):∃vs,σ[i]?=some (some (.ref x))/\(∀a∈cT x dx fs,nb a/\NB G.B a)/\(cT x dx fs).Nodup/\H dx=some (.own x)/\fs.length<=900/\H x=some (.ins C dx vs)/\cD (G.S nb false) H fs vs:=by
 obtain⟨T,e1,h1,h2,n,h,l,vs,q,r⟩:=W.ok i _ e;subst h1;exact⟨vs,e1,h2,n,h,l,q,r⟩
theorem Ev.fld(e:ρ[i]?=some (.cu (bV C x dx fs)))(cl:fR K C)(na:gY K C f)(hl:fs.lookup f=some (.d d))(h:Φ false d):Ev G ρ (nW K (cH i) f) Φ:=λnb σ H Q W z=>by
 obtain⟨vs,e1,h2,n,h3,l,q,r⟩:=W.pZ e;obtain⟨v,g1,g2⟩:=r.get hl;exact⟨.ref x,e1,x,C,dx,vs,v,rfl,q,cl,na,g1,z false v H d h (.refl W.az) g2⟩
theorem lookup_mem{fl:Fl}:∀{fs:Fs},fs.lookup f=some fl->(f,fl)∈fs
  |[],h=>by simp at h
  | (g, y) :: r, h => by
    rw[bJ] at h;cases hb:(f==g) with
    |true=>rw[hb] at h;cases h;rw[beq_iff_eq.mp hb];exact dj ..
    |false=>rw[hb] at h;exact cS _ (lookup_mem h)
theorem L7{fl:Fl}(hl:fs.lookup f=some fl){a:ax}(m:a∈fl.adr):a∈cT x dx fs:=LF (lookup_mem hl) m
theorem G7{nb:ax->Prop}{σ:qg}{H:Hp}{Q:VK}{c:Cu}(W:Wd G nb ρ σ H)(e:ρ[i]?=some (.cu (bV C x dx fs)))(cl:fR K C)(na:gY K C f)(hl:fs.lookup f=some (.cu c))
  (z:(∀a∈c.F,nb a/\NB G.B a)->c.P (G.S nb false) H->Q c.v H):nW K (cH i) f σ H Q:=by
 obtain⟨vs,e1,h2,n,h3,len,q,r⟩:=W.pZ e;obtain⟨v,g1,g2,N⟩:=r.get hl;exact⟨.ref x,e1,x,C,dx,vs,v,rfl,q,cl,na,g1,by rw[g2];exact z (λa m=>h2 a (L7 hl m)) N⟩
theorem Er{fl sq:Fl}(h':sq.adr=fl.adr):∀{fs:Fs},fs.lookup f=some fl->((ff f sq fs).flatMap λg=>g.2.adr)=fs.flatMap λg=>g.2.adr
  |[],h=>by simp at h
  | (g, y) :: r, h => by
    unfold ff;rw[bJ] at h;cases hb:(f==g) with
    | true =>
      rw[hb] at h;cases h
      rw[if_pos (beq_iff_eq.mp hb).symm,qt,qt,h']
    | false =>
      rw[hb] at h;rw[if_neg (λz=>by rw[z,beq_self_eq_true] at hb;cases hb),qt,qt,Er h' h]
theorem Bj{fl sq:Fl}:∀{fs:Fs},fs.lookup f=some fl->(ff f sq fs).length=fs.length
  |[],h=>by simp at h
  | (g, y) :: r, h => by
    unfold ff;rw[bJ] at h;cases hb:(f==g) with
    |true=>rw[if_pos (beq_iff_eq.mp hb).symm];rfl
    | false =>
      rw[hb] at h;rw[if_neg (λz=>by rw[z,beq_self_eq_true] at hb;cases hb),eB,eB,Bj h]
theorem lA.wr{S:ax->Prop}{H:Hp}{v:V}{fl:Fl}{p:ax}{o:HO}(U:S p)(hp:p∉fl.adr)(h:lA S H v fl):lA S (upd H p o) v fl:=
 h.map (λd v z=>z.keep (aY.set U)) λc e z=>c.keep (.of λa o' m q=>by
  rw[bq];·exact q
  .rintro rfl;rcases m with m|m
   .exact m U
   .rw[e] at hp;exact hp m) z
theorem cD.CH{S:ax->Prop}{H:Hp}{p:ax}{o:HO}(U:S p):∀{fs:Fs} {vs:List (Str×V)},(p∉fs.flatMap λg=>g.2.adr)->cD S H fs vs->cD S (upd H p o) fs vs
  |[],_,_,h=>h
  | g :: fs, _, hp, ⟨v, ws, e, h1, h2⟩ => by
    rw[qt,iG] at hp;exact⟨v,ws,e,h1.wr U λz=>hp (.inl z),cD.CH U (λz=>hp (.inr z)) h2⟩
theorem cD.wr{S:ax->Prop}{H:Hp}{p:ax}{o:HO}{c c':Cu}(U:S p)(hp:p∈c.F)(hv:c'.v=c.v)(hc:c'.P S (upd H p o)):∀{fs:Fs} {vs:List (Str×V)},(fs.flatMap λg=>g.2.adr).Nodup->fs.lookup f=some (.cu c)->cD S H fs vs->cD S (upd H p o) (ff f (.cu c') fs) vs
  |[],_,_,h,_=>by simp at h
  | (g, y) :: r, _, hn, h, ⟨v, ws, e, h1, h2⟩ => by
    unfold ff;rw[qt,zk] at hn;rw[bJ] at h;cases hb:(f==g) with
    | true =>
      rw[hb] at h;cases h
      rw[if_pos (beq_iff_eq.mp hb).symm];exact⟨v,ws,e,⟨by rw[hv];exact h1.1,hc⟩,cD.CH U (λz=>hn.2.2 p hp p z rfl) h2⟩
    | false =>
      rw[hb] at h;rw[if_neg (λz=>by rw[z,beq_self_eq_true] at hb;cases hb)];exact⟨v,ws,e,h1.wr U λz=>hn.2.2 p z p (AJ.mpr ⟨_,lookup_mem h,hp⟩) rfl,cD.wr U hp hv hc hn.2.1 h h2⟩
theorem Wd.RL{nb:ax->Prop}{σ:qg}{H:Hp}{c c':Cu}{p:ax}{o:HO}(W:Wd G nb ρ σ H)(e:ρ[i]?=some (.cu (bV C x dx fs)))(hl:fs.lookup f=some (.cu c))(hp:p∈c.F)(hv:c'.v=c.v)(M:c'.F=c.F)(h:c'.P (G.S nb false) (upd H p o)):
  Wd G nb (ρ.set i (.cu (bV C x dx (ff f (.cu c') fs)))) σ (upd H p o):=by
 obtain⟨vs,e1,h2,n,h3,len,q,r⟩:=W.pZ e;have b:p∈cT x dx fs:=L7 hl hp;have U:G.S nb false p:= .inl (h2 p b).1;have hn:=n;unfold cT at hn;obtain⟨n1,n2⟩:=kh.mp hn;obtain⟨j,l⟩:=kh.mp n2;have u:p∈fs.flatMap λg=>g.2.adr:=AJ.mpr ⟨_,lookup_mem hl,hp⟩;have k:x≠p:=λz=>n1 (by rw[z];exact cS _ u);have d:dx≠p:=λz=>j (by rw[z];exact u);have t:cT x dx (ff f (.cu c') fs)=cT x dx fs:=by unfold cT;rw[Er (fl:= .cu c) (sq:= .cu c') M hl]
 refine W.Ck (c':=bV C x dx (ff f (.cu c') fs)) e b rfl (λa m=>by rw[show(bV C x dx (ff f (.cu c') fs)).F=cT x dx fs from t] at m;exact m) ?_;exact⟨by rw[t];exact n,by rw[bq d];exact h3,by rw[Bj hl];exact len,vs,by rw[bq k];exact q,cD.wr U hp hv h l hl r⟩
theorem cD.Pk{S:ax->Prop}{H:Hp}{fl:Fl}{v:V}{p:ax}{o:HO}(U:S p)(hv:lA S (upd H p o) v fl){fs:Fs}{vs:List (Str×V)}(hp:p∉fs.flatMap λg=>g.2.adr)(h:cD S H fs vs):cD S (upd H p o) (ff f fl fs) (gf f v vs):=cD.put hv (cD.CH U hp h)
theorem xr{fl:Fl}:∀{fs:Fs},fs.lookup f=none->ff f fl fs=fs++[(f,fl)]
  |[],_=>rfl
  | (g, y) :: r, h => by
    unfold ff;rw[bJ] at h;cases hb:(f==g) with
    |true=>rw[hb] at h;cases h
    | false =>
      rw[hb] at h;rw[if_neg (λz=>by rw[z,beq_self_eq_true] at hb;cases hb),xr h];rfl
theorem Sv.Yi(e:ρ[i]?=some (.cu (bV C x dx fs)))(cl:fR K C)(na:gY K C f)(hl:fs.lookup f=none\/∃d0,fs.lookup f=some (.d d0))(hlen:fs.length<900)(h:Ev G ρ te λ_ d=>E.nx (ρ.set i (.cu (bV C x dx (ff f (.d d) fs))))):Sv G ρ (GP K (cH i) te f) E:=λnb σ H D W KK=>
 h nb σ H _ W λb v H1 d q s1 hv=>by
  have W1:=W.step s1;obtain⟨vs,e1,h2,n,h3,len,u,r⟩:=W1.pZ e;have w:G.S nb false x:= .inl (h2 x (by simp[cT])).1;have hn:=n;unfold cT at hn;obtain⟨n1,n2⟩:=kh.mp hn;have k:dx≠x:=λz=>n1 (by rw[z];exact dj ..);have hx:x∉fs.flatMap λg=>g.2.adr:=λz=>n1 (cS _ z);have t:cT x dx (ff f (.d d) fs)=cT x dx fs:=by
   unfold cT;rcases hl with hl|⟨d0,hl⟩
   .rw[xr hl,Ms];show _::_::(_++([]++[]))=_;rw[fY,fY]
   .rw[Er (fl:= .d d0) (sq:= .d d) rfl hl]
  have c:(ff f (.d d) fs).length<=900:=by
   rcases hl with hl|⟨d0,hl⟩
   .rw[xr hl,cK,jn];omega
   .rw[Bj hl];exact len
  refine⟨.ref x,e1,x,C,dx,vs,rfl,u,cl,na,by rw[r.len];omega,KK.nx nb _ _ _ q ?_⟩;refine W1.Ck (c':=bV C x dx (ff f (.d d) fs)) e (by show x∈cT x dx fs;simp[cT]) rfl (λa m=>by rw[show(bV C x dx (ff f (.d d) fs)).F=cT x dx fs from t] at m;exact m) ?_;refine⟨by rw[t];exact n,by rw[bq k];exact h3,c,_,bx,cD.Pk w ?_ hx r⟩;exact(hv.av (bZ (λz=>by cases z) λ_ z=>z)).keep (aY.set w)
theorem Wd.SM{nb:ax->Prop}{σ:qg}{H H1:Hp}{c:Cu}{vs:List (Str×V)}{l:ax}(W:Wd G nb ρ σ H)(s1:Step G.B H H1)(e:ρ[i]?=some (.cu (bV C x dx fs)))(hl:fs.lookup f=none)(hlen:fs.length<900)(D:c.F=[l])(M:c.v= .ref l)(p:H l=none)(hl1:H1 l≠none)
  (Z:c.P (λa=>G.S nb false a\/a=l) H1) (u:H1 x=some (.ins C dx vs)):Wd G (λa=>(nb a\/a∈[l])\/a∈cT x dx (fs++[(f, .cu c)])) (ρ.set i (.cu (bV C x dx (fs++[(f, .cu c)])))) σ (upd H1 x (.ins C dx (gf f c.v vs))):=by
 have h:∀a∈[l],H a=none:=λa m=>by rw[br.mp m];exact p
 obtain⟨O,R,N,_⟩:=W.pZ e;have sQ:l∉cT x dx fs:=λz=>W.live l (N l z).1 p;obtain⟨W1,L,K⟩:=W.M4 s1 h (λa m=>by rw[br.mp m];exact hl1);obtain⟨J,e1,h2,n,h3,len,I,r⟩:=W1.pZ e;rw[u] at I;cases I;have hn:=n;unfold cT at hn;obtain⟨n1,n2⟩:=kh.mp hn;have k:dx≠x:=λz=>n1 (by rw[z];exact dj ..);have hx:x∉fs.flatMap λg=>g.2.adr:=λz=>n1 (cS _ z);have A:l≠x:=λz=>sQ (by rw[z];simp[cT]);have E:x∈cT x dx fs:=by simp[cT]
 have t:cT x dx (fs++[(f, .cu c)])=cT x dx fs++[l]:=by
  unfold cT;rw[Ms];show _::_::(_++(c.F++[]))=_;rw[D]
  rfl
 have U:∀{a},G.S (λy=>(nb y\/y∈[l])\/y∈cT x dx (fs++[(f, .cu c)])) false a->G.S (λy=>nb y\/y∈[l]) false a:=λ{a} z=>by
  rcases z with (z|z)|z|z|z
  .exact .inl z
  .rw[t,iG] at z;rcases z with z|z
   .exact .inl (h2 a z).1
   .exact .inl (.inr z)
  .exact .inr (.inl z)
  .exact .inr (.inr (.inl z))
  .exact .inr (.inr (.inr z))
 refine W1.P6 (c:=bV C x dx fs) (c':=bV C x dx (fs++[(f, .cu c)])) e (λa o na q=>?_) rfl (λa m=>?_) (λa m=>?_) ?_;·rw[bq (λz=>na (by rw[z];exact E))];exact q
 .rw[show(bV C x dx (fs++[(f, .cu c)])).F=cT x dx fs++[l] from t,iG] at m;rcases m with m|m
  .exact .inl m
  .rw[br.mp m];refine .inr (.inr ⟨.inr (br.mpr rfl),L l (br.mpr rfl),λj s hs z=>?_⟩);obtain⟨y,_,q⟩:=W.ok j s hs;exact W.live l (q.D5 l z).1 p
 .by_cases z:a=x;·rw[z,bx];exact ie _
  .rw[bq z];rcases m with m|m
   .exact W1.live a (h2 a m).1
   .rw[show(bV C x dx (fs++[(f, .cu c)])).F=cT x dx fs++[l] from t,iG] at m;rcases m with m|m
    .exact W1.live a (h2 a m).1
    .rw[br.mp m];exact hl1
 .refine⟨?_,by rw[bq k];exact h3,by rw[cK,jn];omega,_,bx,?_⟩
  .rw[t,zk];exact⟨n,by simp,λa m b m' z=>sQ (by rw[br.mp m'] at z;rw[<-z];exact m)⟩
  .have w:G.S (λy=>nb y\/y∈[l]) false x:= .inl (h2 x E).1;have:=cD.Pk (f:=f) (fl:= .cu c) (v:=c.v) (o:= .ins C dx (gf f c.v vs)) w ⟨rfl,c.keep (S:=G.S (λy=>nb y\/y∈[l]) false) (.of λa o m q=>?_) (c.av (λa z=>?_) Z)⟩ hx r
   .rw[xr hl] at this;exact this.map (λd v z=>z.av λa=>U) λg m c' e z=>c'.av (λa=>U) z
   .rw[bq];·exact q
    .rintro rfl;rcases m with m|m
     .exact m w
     .rw[D] at m;exact A (br.mp m).symm
   .rcases K false a z with z|z
    .exact .inl z
    .exact .inr (br.mp z)
theorem Sv.Z2(e:ρ[i]?=some (.cu (bV C x dx fs)))(cl:fR K C)(na:gY K C f)(hl:fs.lookup f=none)(hlen:fs.length<900)(h:aq G ρ te λ_ ds=>∀l,E.nx (ρ.set i (.cu (bV C x dx (fs++[(f, .cu (lB l ds))]))))):Sv G ρ (GP K (cH i) te f) E:=λnb σ H D W KK=>
 h nb σ H _ W λb l xs H1 ds q s1 p B hd=>by
  obtain⟨vs,e1,h2,n,h3,len,u,r⟩:=(W.step s1).pZ e;refine⟨.ref x,e1,x,C,dx,vs,rfl,u,cl,na,by rw[r.len];omega,KK.nx _ _ _ _ (q l) (W.SM (c:=lB l ds) s1 e hl hlen rfl rfl p (by rw[B];exact ie _) ⟨xs,B,hd.av λa z=>?_⟩ u)⟩;rcases z with z|z
  .exact .inl (bZ (λw=>by cases w) (λ_ w=>w) a z)
  .exact .inr z
theorem Sv.Lo{l:ax}(e:ρ[i]?=some (.cu (bV C x dx fs)))(cl:fR K C)(na:gY K C f)(hl:fs.lookup f=some (.cu (lB l ds)))(h:Ev G ρ te λ_ d=>Ev G ρ tb λ_ y=>∃k j,y= .int k/\ir ds.length k=some j/\E.nx (ρ.set i (.cu (bV C x dx (ff f (.cu (lB l (ds.set j d))) fs))))):Sv G ρ (gE te (pO (nW K (cH i) f) tb tF)) E:=λnb σ H D W KK=>
 h nb σ H _ W λg v H1 d q s1 hv=>G7 (W.step s1) e cl na hl λM ⟨xs,hx,hd⟩=>q nb σ H1 _ (W.step s1) λg' u H2 y ⟨k,j,o,hj,p⟩ s2 hu=>by
  subst o;have W2:=(W.step s1).step s2;have sQ:=M l (br.mpr rfl);have U:G.S nb false l:= .inl sQ.1;refine⟨l,xs,k,j,rfl,hu.cP,s2.1 _ _ sQ.2 hx,by rw[hd.length];exact hj,KK.nx nb _ _ _ p (W2.RL (c:=lB l ds) (c':=lB l (ds.set j d)) e hl (br.mpr rfl) rfl rfl ⟨_,bx,?_⟩)⟩;exact(ah.set' ((hv.av (bZ (λz=>by cases z) λ_ z=>z)).keep s2.dJ) j (hd.keep s2.dJ)).keep (aY.set U)
theorem aq.IH{l:ax}{Θ:Bool->List PyData->Prop}(e:ρ[i]?=some (.cu (bV C x dx fs)))(cl:fR K C)(na:gY K C f)(hl:fs.lookup f=some (.cu (lB l ds)))(h:Θ (gh ds) ds):aq G ρ (fq (iS K) (bz (nW K (cH i) f) bM)) Θ:=λnb σ H Q W z=>by
 show nW K (cH i) f σ H _;exact G7 W e cl na hl λM ⟨xs,hx,hd⟩=>⟨l,xs,rfl, .inl (.of hx),λp hp=>aq.fin (f:=false) W (.refl W.az) hp hd (by rw[qK];exact h) z⟩
def jR(G:Gx)(ρ:Rh)(ta:TA)(Φ:List PyData->Prop):Prop:=∀nb σ H (Q:List V->Hp->Prop),Wd G nb ρ σ H->(∀ds vs H',Φ ds->Step G.B H H'->ah (λa=>¬NB G.B a) H' ds vs->Q vs H')->ta σ H Q
theorem jR.nil{Θ:List PyData->Prop}(h:Θ []):jR G ρ bM Θ:=λnb σ H Q W z=>z [] [] H h (.refl W.az) .nil
theorem jR.cons{Θ:List PyData->Prop}(h:Ev G ρ te λ_ d=>jR G ρ t λds=>Θ (d::ds)):jR G ρ (bz te t) Θ:=λnb σ H Q W z=>
 h nb σ H _ W λf v H1 d j s1 J=>j nb σ H1 _ (W.step s1) λds vs H2 p2 s2 O=>z _ _ H2 p2 (s1.trans s2) (.cons ((J.av λa y=> .inr (.inr (.inl y))).keep (s2.but λ_ y=>y)) O)
theorem jR.fld{Θ:List PyData->Prop}{l:ax}(e:ρ[i]?=some (.cu (bV C x dx fs)))(cl:fR K C)(na:gY K C f)(hl:fs.lookup f=some (.cu (lB l ds)))(h:jR G ρ t λes=>Θ (.list ds::es)):jR G ρ (bz (nW K (cH i) f) t) Θ:=λnb σ H Q W z=>by
 show nW K (cH i) f σ H _;exact G7 W e cl na hl λM ⟨xs,hx,hd⟩=>h nb σ H _ W λes vs H2 p2 s2 O=>z _ _ H2 p2 s2 (.cons (.lst (λy=>y (M l (br.mpr rfl)).2) (s2.1 _ _ (M l (br.mpr rfl)).2 hx) ((hd.av λa y=> .inr (.inr (.inl y))).keep (s2.but λ_ y=>y))) O)
theorem Ev.Hy{n:Nat}{F:DF}(hm:cM F)(h:jR G ρ t λds=>ds.length=n/\F ds λf d=>(f=true\/jH d=true)/\Φ true d):Ev G ρ (gm (aU n F) [] E0 t) Φ:=λnb σ H Q W z=>
 h nb σ H _ W λds vs H1 ⟨hl,p⟩ s1 J=>by
  have W1:=W.step s1;rw[fY];refine⟨by rw[J.length,hl],λa=>¬NB G.B a,ds,λa y=>NB.nB W1.az y,J,hm _ _ _ p λf d ⟨hf,hp⟩ v H' sm hd=>z true v H' d hp (s1.trans (.same W1.az sm)) ?_⟩;rcases hf with hf|hf
  .exact hd.av λa y=> .inr ⟨hf,W1.gp (f:=true) a y⟩
  .exact hd.lU hf
theorem Sv.make{n:Nat}{F:CF}(hm:pP F)(h:Av G ρ t λes=>es.length+1=n/\∀x dx,F (bV C x dx []) (es.map (·.2)) λc' _ d=>d= .none/\E.nx (ρ.set i (.cu c'))):Sv G ρ (gE (FQ C (iZ n F) [] E0 t) (ic i)) E:=λnb σ H D W KK=>
 h nb σ H _ W λes vs H1 ⟨hl,p⟩ s1 J x dx hx k T=>by
  have W1:=W.step s1;have V:cA H1 (upd (upd H1 dx (.own x)) x (.ins C dx [])):=λa o e=>by
   rw[bq (iP e hx),bq (iP e k)];exact e
  have g:∀a,G.S nb false a->H1 a≠none:=λa y=>W1.gp a y;have A:ah (λa=>G.S nb false a\/a∈[x,dx]) (upd (upd H1 dx (.own x)) x (.ins C dx [])) (es.map (·.2)) vs:=by
   have hq:=J.all (f:=false) λz=>by cases z
   generalize es.map (·.2)=dl at hq;refine ah.keep (aY.of V) ?_
   exact jU (P:=λS=>ah S H1 dl vs) (λz h=>ah.av z h) (λhp h=>ah.fresh hp h) (L:=[x,dx]) (λa m=>by
    rcases aK.mp m with m|m
    .rw[m];exact hx
    .rw[br.mp m];exact k) hq
  rw[fY];refine⟨by rw[eB,J.len,hl],λa=>G.S nb false a\/a∈[x,dx],bV C x dx [],vs,es.map (·.2),rfl,λa y=>?_,λa m=> .inr m,rfl,?_,A,hm _ _ _ _ (p x dx) λc' f d ⟨l,hp⟩ v H' to Z hd=>?_⟩
  .rcases y with y|y
   .cases e:H1 a with
    |none=>exact absurd e (g a y)
    |some o=>rw[V a o e];exact ie _
   .rcases aK.mp y with m|m
    .rw[m,bx];exact ie _
    .rw[br.mp m,bq T,bx];exact ie _
  .refine⟨by simp[cT,cB T],by rw[bq T,bx],⋯,[],bx,rfl⟩
  .subst l;refine⟨hd.zW,?_⟩;have b:∀a∈c'.F,H1 a=none:=λa m=>by
    rcases to.new a m with y|y
    .rcases aK.mp y with m|m
     .rw[m];exact hx
     .rw[br.mp m];exact k
    .cases e:H1 a with
     |none=>rfl
     |some o=>rw[V a o e] at y;cases y
   have st:Step G.B H1 H':=by
    have sm:cA H1 H':=λa o e=>to.kp a o (λm=>by
     rcases aK.mp m with m|m
     .rw[m,hx] at e;cases e
     .rw[br.mp m,k] at e;cases e) (V a o e)
    exact .same W1.az sm
   have:=W1.Hg (i:=i) (c:=c') st b to.lv (c'.av (λa y=>?_) Z)
   .rw[to.v] at this;exact KK.nx _ _ _ _ hp this
   .rw[to.f] at y;rcases y with y|y
    .exact .inl (.inl y)
    .exact .inr y
theorem gH.tup{Φ:Rh->Pd}(h:yZ G ρ t λC es=>es.length<=10000/\Φ C (gz es) (.tuple (es.map (·.2)))):gH G ρ (o7 t) Φ:=λnb σ H Q W z=>
 h nb σ H _ W λaN C es vs H1 ⟨hl,p⟩ W1 J=>⟨eS (by rw[J.len];exact hl) ⋯,λa ha=>z aN C _ _ _ _ p (W1.step (.same W1.az (cL ha)))
  (.tup (W1.fresh ha) bx ((J.all λz=>z).keep (aY.of (cL ha))))⟩
end
noncomputable def bK(p:Int)(cs:List aA)(wd:Wo):Nat->List bf
  |0=>[]
  | i + 1 => match cG p (cs.getD i []) 0 wd with
    |some (a,x)=>if a∈(bK p cs wd i).map (·.1) then bK p cs wd i else bK p cs wd i++[(a,(i:Int),x)]
    |none=>bK p cs wd i
theorem nO{p:Int}{cs:List aA}{wd:Wo}:∀i,((bK p cs wd i).map (·.1)).Nodup
  |0=>by simp[bK]
  | i + 1 => by
    unfold bK;split
    · split
      · exact nO i
      · rename_i a x e c
        rw[cI,zk];refine⟨nO i,by simp,λy hy z hz e=>c ?_⟩;simp at hz;rw[<-hz,<-e];exact hy
    · exact nO i
theorem uD{p:Int}{cs:List aA}{wd:Wo}{m:bf}:∀{i},m∈bK p cs wd i->0<=m.2.1/\m.2.1<i/\cG p (cs.getD m.2.1.toNat []) 0 wd=some (m.1,m.2.2)/\∀c:Nat,(c:Int)<m.2.1->∀x,cG p (cs.getD c []) 0 wd≠some (m.1,x)
  |0,h=>by simp[bK] at h
  | i + 1, h => by
    have key:∀{c:Nat},(∃x,cG p (cs.getD c []) 0 wd=some (m.1,x))->c<i->m.1∈(bK p cs wd i).map (·.1):=λ{c} hx hc=>by
      clear h;induction i with
      |zero=>omega
      | succ i ih =>
        unfold bK;by_cases e:c=i
        · subst e
          obtain⟨x,hx⟩:=hx;rw[hx];dsimp only;split;· rename_i h;exact h
          · simp
        · have:=ih ∅
          split
          · split
            · exact this
            · rw[cI];exact qC _ this
          · exact this
    unfold bK at h;split at h
    · rename_i a x e
      split at h;· obtain⟨h1,h2,h3⟩:=uD h;exact⟨h1,∅,h3⟩
      · rename_i c
        rcases iG.mp h with h|h
        · obtain⟨h1,h2,h3⟩:=uD h;exact⟨h1,∅,h3⟩
        · simp at h
          subst h;refine⟨by simp,by simp;omega,by simpa using e,λc' l O M=>c ?_⟩;exact key ⟨O,M⟩ (by simpa using l)
    · obtain⟨h1,h2,h3⟩:=uD h;exact⟨h1,∅,h3⟩
theorem KZ{p:Int}{cs:List aA}{wd:Wo}{c:Nat}{a x:Int}(hx:cG p (cs.getD c []) 0 wd=some (a,x)):∀{i},c<i->a∈(bK p cs wd i).map (·.1)
  |0,h=>∅
  | i + 1, h => by
    unfold bK;by_cases e:c=i
    · subst e
      rw[hx];dsimp only;split;· rename_i h;exact h
      · simp
    · have:=KZ hx (i:=i) ∅
      split
      · split
        · exact this
        · rw[cI];exact qC _ this
      · exact this
noncomputable def aR(p:Int)(cs:List aA)(wd:Wo):List bf:=(bK p cs wd cs.length).mergeSort λa b=>decide (a.1<=b.1)
theorem uS(p:Int)(cs:List aA)(wd:Wo):(aR p cs wd).Perm (bK p cs wd cs.length):=List.mergeSort_perm _ _
theorem Pa(p:Int)(cs:List aA)(wd:Wo):(aR p cs wd).Pairwise λa b=>a.1<b.1:=by
 have h1:(aR p cs wd).Pairwise λa b=>decide (a.1<=b.1)=true:=List.pairwise_mergeSort (λa b c h1 h2=>by simp at h1 h2⊢;omega) (λa b=>by simp;omega) _;have h2:((aR p cs wd).map (·.1)).Nodup:=((uS p cs wd).map _).nodup_iff.mpr (nO _);have h3:(aR p cs wd).Pairwise λa b=>a.1≠b.1:=D6.mp h2;exact(h1.and h3).imp λ⟨a,b⟩=>by simp at a;omega
theorem MA:∀{a b:List bf},(a.Pairwise λx y=>x.1<y.1)->(b.Pairwise λx y=>x.1<y.1)->a.Perm b->a=b
  |[],b,_,_,h=>by rw[List.nil_perm.mp h]
  |x::a,[],_,_,h=>by cases List.perm_nil.mp h
  | x :: a, y :: b, h1, h2, h => by
    obtain⟨x1,x2⟩:=m8.mp h1;obtain⟨n,d⟩:=m8.mp h2;have e:x=y:=by
      rcases aK.mp (h.mem_iff.mp (dj ..)) with e|e
      · exact e
      rcases aK.mp (h.symm.mem_iff.mp (dj ..)) with e'|e'
      · exact e'.symm
      have:=n x e;have:=x1 y e';omega
    subst e;rw[MA x2 d h.cons_inv]
theorem JL{p:Int}{cs:List aA}{wd:Wo}{ms:List bf}(h:ms.Perm (bK p cs wd cs.length))(hs:(ms.map (·.1)).Pairwise (· <= ·)):ms=aR p cs wd:=by
 refine MA ?_ (Pa p cs wd) (h.trans (uS p cs wd).symm);have h2:(ms.map (·.1)).Nodup:=(h.map _).nodup_iff.mpr (nO _);exact((D6.mp hs).and (D6.mp h2)).imp λ⟨a,b⟩=>∅
theorem Np{p:Int}{cs:List aA}{wd:Wo}{m:bf}(h:m∈aR p cs wd):0<=m.2.1/\m.2.1<cs.length/\cG p (cs.getD m.2.1.toNat []) 0 wd=some (m.1,m.2.2)/\∀c:Nat,(c:Int)<m.2.1->∀x,cG p (cs.getD c []) 0 wd≠some (m.1,x):=uD ((uS p cs wd).mem_iff.mp h)
theorem DA{p:Int}{cs:List aA}{wd:Wo}{c:Nat}{a x:Int}(hc:c<cs.length)(h:cG p (cs.getD c []) 0 wd=some (a,x)):∃m∈aR p cs wd,m.1=a:=by
 have:=KZ h hc;obtain⟨m,hm,e⟩:=dG.mp this;exact⟨m,(uS p cs wd).mem_iff.mpr hm,e⟩
theorem ZI{p:Int}{cs:List aA}{wd:Wo}(h:aR p cs wd=[]):outs p cs wd=[]:=by
 unfold outs;rw[JR];intro c hc hs;obtain⟨⟨a,x⟩,e⟩:=CZ.mp hs;obtain⟨m,hm,_⟩:=DA (pX.mp hc) e;rw[h] at hm;cases hm
theorem YT{p:Int}{prs:aA}{wd:Wo}{ms:List bf}{a x:Int}(h:cG p prs 0 wd=some (a,x))(ha:∀m∈ms,m.1.toNat≠a.toNat)(hl:∀m∈ms,wd[m.1.toNat]?=some none)(h0:∀pr∈prs,0<=pr.1):cG p prs 0 (A4 wd ms)=some (a,x):=by
  have keep:∀{ms:List bf} {wd:Wo} {k:Nat},(∀m∈ms,m.1.toNat≠k)->(A4 wd ms)[k]?=wd[k]?:=λ{ms}=>by
    induction ms with
    |nil=>intro wd k _;rfl
    | cons m r ih =>
      intro wd k hk;show(A4 (wd.set m.1.toNat (some m.2.2)) r)[k]?=_;rw[ih λm' hm'=>hk m' (cS _ hm'),bO (hk m (dj ..))]
  obtain⟨pr,e1,e2,e3⟩:=V7 h;have same:∀q∈prs,(A4 wd ms)[q.1.toNat]?=wd[q.1.toNat]?:=λq hq=>keep λm hm z=>by
    have b:q∈fJ wd prs:=by
      unfold fJ;exact k6.mpr ⟨hq,by rw[<-z,hl m hm];rfl⟩
    rw[e1,br] at b;exact ha m hm (by rw[z,b,e2])
  have e4:fJ (A4 wd ms) prs=fJ wd prs:=by
    unfold fJ;exact List.filter_congr λq hq=>by rw[same q hq]
  have e5:dB prs (A4 wd ms)=dB prs wd:=by
    unfold dB
    congr 1
    exact wm λq hq=>by unfold oX;rw[same q hq]
  unfold cG at h⊢;rw[e4,e5];exact h
theorem xu(wd:Wo)(a b:List bf):A4 wd (a++b)=A4 (A4 wd a) b:=by unfold A4;rw[ou]
theorem m9.cat{p:Int}{cs:List aA}{wd:Wo}{a b:List bf}(h1:m9 p cs wd a)(h2:m9 p cs (A4 wd a) b):m9 p cs wd (a++b):=λj hj=>by
 by_cases h:j<a.length
 .obtain⟨m,e1,e2⟩:=h1 j h;refine⟨m,by rw[gQ h];exact e1,?_⟩;rw[List.take_append_of_le_length ∅];exact e2
 .rw[cK] at hj;obtain⟨m,e1,e2⟩:=h2 (j-a.length) ∅;refine⟨m,by rw[iD ∅];exact e1,?_⟩;rw[List.take_append,rV ∅,xu];exact e2
theorem rY{p:Int}{cs:List aA}{wd:Wo}(hp:0<p){m:bf}(h:m∈aR p cs wd)(h0:∀prs∈cs,∀pr∈prs,0<=pr.1/\pr.1<wd.length):0<=m.1/\m.1<wd.length/\wd[m.1.toNat]?=some none/\0<=m.2.2/\m.2.2<p:=by
 obtain⟨a1,a2,g,_⟩:=Np h;obtain⟨pr,b1,b2,b3,b4,b5⟩:=Aj hp g;have hc:m.2.1.toNat<cs.length:=∅
 rw[k9,bw hc] at b1;have:=h0 _ (fZ hc) pr b1;rw[b2] at this;exact⟨this.1,this.2,b3,b4,b5⟩
theorem JU{p:Int}{cs:List aA}{wd:Wo}(hp:0<p)(h0:∀prs∈cs,∀pr∈prs,0<=pr.1/\pr.1<wd.length):m9 p cs wd (aR p cs wd):=λj hj=>by
 refine⟨_,bw hj,?_⟩;have hm:(aR p cs wd)[j]∈aR p cs wd:=fZ hj;obtain⟨a1,a2,g,_⟩:=Np hm;obtain⟨b1,b2,b3,b4,b5⟩:=rY hp hm h0;have tk:∀m∈(aR p cs wd).take j,m∈aR p cs wd/\m.1.toNat≠(aR p cs wd)[j].1.toNat:=λm h=>by
  have hm':=EJ h;refine⟨hm',λz=>?_⟩;obtain⟨c1,_⟩:=rY hp hm' h0;have hlt:m.1<(aR p cs wd)[j].1:=by
   obtain⟨i,hi,e⟩:=List.mem_take_iff_getElem.mp h;rw[<-e];exact C0.mp (Pa p cs wd) i j ∅ hj ∅
  omega
 have hc:(aR p cs wd)[j].2.1.toNat<cs.length:=∅
 have dP:∀pr∈cs.getD (aR p cs wd)[j].2.1.toNat [],0<=pr.1:=λpr h=>by
  rw[k9,bw hc] at h;exact(h0 _ (fZ hc) pr h).1
 have:=YT g (λm h=>(tk m h).2) (λm h=>(rY hp (tk m h).1 h0).2.2.1) dP;exact ZS a1 a2 this
noncomputable def jo(p:Int)(cs:List aA):Nat->Wo->List (List bf)
 |0,_=>[]
 |k+1,wd=>if aR p cs wd=[] then[] else aR p cs wd::jo p cs k (A4 wd (aR p cs wd))
theorem xE{p:Int}{cs:List aA}{wd:Wo}(hp:0<p)(h0:∀prs∈cs,∀pr∈prs,0<=pr.1/\pr.1<wd.length):cnt (A4 wd (aR p cs wd))+(aR p cs wd).length=cnt wd:=by
 have:=BI hp (JU hp h0) (aR p cs wd).length (aH _);rwa[fW] at this
theorem NL{p:Int}{cs:List aA}(hp:0<p):∀{k:Nat} {wd:Wo},(∀prs∈cs,∀pr∈prs,0<=pr.1/\pr.1<wd.length)->cnt wd<=k->jo p cs (k+1) wd=jo p cs k wd
  | 0, wd, h0, h => by
    have e:aR p cs wd=[]:=by
      cases e:aR p cs wd with
      |nil=>rfl
      | cons m r =>
        have:=xE hp h0;rw[e] at this;simp at this;omega
    unfold jo;rw[if_pos e];all_goals rfl
  | k + 1, wd, h0, h => by
    rw[jo]
    conv=>rhs;rw[jo]
    by_cases e:aR p cs wd=[];· rw[if_pos e,if_pos e]
    · rw[if_neg e,if_neg e]
      congr 1
      have:=xE hp h0;have hl:0<(aR p cs wd).length:=vf.mpr e;exact NL hp (λprs hp pr hr=>by rw[iy];exact h0 prs hp pr hr) ∅
noncomputable def cX(p:Int)(cs:List aA)(wd:Wo):List (List bf):=jo p cs (cnt wd) wd
theorem Yu{p:Int}{cs:List aA}(hp:0<p){wd:Wo}(h0:∀prs∈cs,∀pr∈prs,0<=pr.1/\pr.1<wd.length):∀{k:Nat},cnt wd<=k->jo p cs k wd=cX p cs wd:=λ{k} h=>by
 obtain⟨j,rfl⟩:∃j,k=cnt wd+j:=⟨k-cnt wd,∅⟩;clear h;induction j with
 |zero=>rfl
 |succ j ih=>rw[<-vi,NL hp h0 ∅,ih]
theorem AM{p:Int}{cs:List aA}{wd:Wo}(h:aR p cs wd=[]):cX p cs wd=[]:=by
 unfold cX;cases cnt wd with
 |zero=>rfl
 |succ k=>rw[jo,if_pos h]
theorem uV{p:Int}{cs:List aA}{wd:Wo}(hp:0<p)(h0:∀prs∈cs,∀pr∈prs,0<=pr.1/\pr.1<wd.length)(h:aR p cs wd≠[]):cX p cs wd=aR p cs wd::cX p cs (A4 wd (aR p cs wd)):=by
 have hc:=xE hp h0;have hl:0<(aR p cs wd).length:=vf.mpr h;obtain⟨k,hk⟩:∃k,cnt wd=k+1:=⟨cnt wd-1,∅⟩;have e:cX p cs wd=jo p cs (k+1) wd:=by unfold cX;rw[hk]
 rw[e,jo,if_neg h,Yu hp (λprs hp pr hr=>by rw[iy];exact h0 prs hp pr hr) ∅]
theorem PN{p:Int}{cs:List aA}(hp:0<p):∀{k:Nat} {wd:Wo},(∀prs∈cs,∀pr∈prs,0<=pr.1/\pr.1<wd.length)->cnt wd<=k->m9 p cs wd (cX p cs wd).flatten/\aR p cs (A4 wd (cX p cs wd).flatten)=[]/\∀r∈cX p cs wd,r≠[]
  | k, wd, h0, hk => by
    by_cases e:aR p cs wd=[]
    · rw[AM e]
      exact⟨λj hj=>by simp at hj,e,λr hr=>by cases hr⟩
    · have hl:0<(aR p cs wd).length:=vf.mpr e
      have hc:=xE hp h0;rw[uV hp h0 e];obtain⟨k,rfl⟩:∃k',k=k'+1:=⟨k-1,∅⟩;obtain⟨G,C,f⟩:=PN hp (k:=k) (wd:=A4 wd (aR p cs wd)) (λprs hp pr hr=>by rw[iy];exact h0 prs hp pr hr) ∅;refine⟨(JU hp h0).cat G,?_,λr hr=>?_⟩
      · show aR p cs (A4 wd (aR p cs wd++_))=[]
        rw[xu];exact C
      · rcases aK.mp hr with z|z
        · rw[z];exact e
        · exact f r z
noncomputable def fG(p:Int)(cs:List aA)(wd:Wo):Wo:=A4 wd (cX p cs wd).flatten
theorem Ob{p:Int}{cs:List aA}{wd:Wo}(hp:0<p)(h0:∀prs∈cs,∀pr∈prs,0<=pr.1/\pr.1<wd.length):m9 p cs wd (cX p cs wd).flatten/\aR p cs (fG p cs wd)=[]/\(∀r∈cX p cs wd,r≠[])/\outs p cs (fG p cs wd)=[]/\(fG p cs wd).length=wd.length:=by
 obtain⟨h1,h2,h3⟩:=PN hp h0 (aH _);exact⟨h1,h2,h3,ZI h2,iy⟩
theorem NU{p:Int}{cs:List aA}{wd:Wo}(h:aR p cs wd=[]):fG p cs wd=wd:=by unfold fG;rw[AM h];rfl
theorem Lq{p:Int}{cs:List aA}{wd:Wo}(hp:0<p)(h0:∀prs∈cs,∀pr∈prs,0<=pr.1/\pr.1<wd.length)(h:aR p cs wd≠[]):fG p cs wd=fG p cs (A4 wd (aR p cs wd)):=by
 unfold fG;rw[uV hp h0 h];exact xu _ _ _
noncomputable abbrev dS(r:List bf):PyData:= .list (r.map cz)
noncomputable def kc(nd:PyData)(l:ax)(wd:Wo):Fs:=[("net", .d nd),("letters", .cu (lB l (wd.map bS)))]
noncomputable abbrev kM(m:bf):Int×PyData:=(m.1,cz m)
theorem sj(ms:List bf):(ms.map kM).map (·.1)=ms.map (·.1):=by rw[oY];rfl
theorem Cc:∀{ms:List bf} {m:bf},(ms.map (·.1)).Nodup->m∈ms->j9 (ms.map kM) m.1=some (cz m)
  | x :: r, m, nd, h => by
    rw[bN,ve];rw[bN,kh] at nd;rcases aK.mp h with e|e
    · subst e;rw[if_pos rfl]
    · rw[if_neg (λz=>nd.1 (by rw[show x.1=m.1 from z];exact List.mem_map_of_mem e)),Cc nd.2 e]
theorem vQ{p:Int}{cs:List aA}{wd:Wo}(hp:0<p)(h0:∀prs∈cs,∀pr∈prs,0<=pr.1/\pr.1<wd.length):∀{i},i<=cs.length->(bK p cs wd i).length<=wd.length:=λ{i} hi=>by
 have nd:=nO (p:=p) (cs:=cs) (wd:=wd) i;have:=L9 (m:=wd.length) nd λk hk=>by
  obtain⟨m,hm,e⟩:=dG.mp hk;obtain⟨a1,a2,g,_⟩:=uD hm;obtain⟨pr,b1,b2,_⟩:=Aj hp g;have hc:m.2.1.toNat<cs.length:=∅
  rw[k9,bw hc] at b1;have:=h0 _ (fZ hc) pr b1;omega
 rw[ak] at this;omega
theorem dZ.rg{p:Int}{cs:List aA}{m:Nat}(h:dZ p cs m):∀prs∈cs,∀pr∈prs,0<=pr.1/\pr.1<m:=λprs hp pr hr=>⟨((h.2.2.2 prs hp).2.1 pr hr).1,((h.2.2.2 prs hp).2.1 pr hr).2.1⟩
theorem Ml{p:Int}{cs:List aA}{wd:Wo}(hN:dZ p cs wd.length)(hW:dU wd):dU (A4 wd (aR p cs wd)):=by
  have key:∀{ms:List bf} {wd:Wo},dU wd->(∀m∈ms,Sm m.2.2)->dU (A4 wd ms):=λ{ms}=>by
    induction ms with
    |nil=>intro wd h _;exact h
    | cons m r ih =>
      intro wd h hm;refine ih (wd:=wd.set m.1.toNat (some m.2.2)) (λx hx=>?_) λm' h'=>hm m' (cS _ h');rcases L4 hx with z|z
      · exact h x z
      · cases z;exact hm m (dj ..)
  have p2:=hN.1.1;have qQ:=hN.2.1;refine key hW λm hm=>?_;obtain⟨_,_,_,b4,b5⟩:=rY ∅ hm hN.rg;unfold Sm;omega
theorem Xo(wd:Wo):gh (wd.map bS)=true:=by
 unfold gh;rw[qv];intro x hx;obtain⟨o,_,rfl⟩:=dG.mp hx;cases o<;>rfl
theorem Ud(nd:PyData)(l:ax)(wd Lu:Wo):ff "letters" (.cu (lB l (Lu.map bS))) (kc nd l wd)=kc nd l Lu:=by
 unfold kc ff;rw[if_neg (by decide+kernel)];unfold ff;rw[if_pos rfl]
theorem JA{p:Int}{cs:List aA}:∀{k:Nat} {wd:Wo},(jo p cs k wd).length<=k
  |0,wd=>by simp[jo]
  | k + 1, wd => by
    rw[jo];split;· simp
    · simp[JA]
theorem CC{p:Int}{cs:List aA}{wd:Wo}:(cX p cs wd).length<=wd.length:=eS JA (NF wd)
theorem Mx(ms:List bf):de (dS ms)=true:=YU ms
theorem JF(ms:List bf):dE (dS ms) (.list [])=decide (ms=[]):=by
 have:=YF ms;rw[tq] at this;exact this
theorem Sn{wd:Wo}{x:Int}:x∈jl wd↔0<=x/\wd[x.toNat]?=some none:=by
 unfold jl;rw[dG];constructor
 .rintro⟨i,hi,rfl⟩;obtain⟨h1,h2⟩:=k6.mp hi;exact⟨∅,by simpa using h2⟩
 .rintro⟨h0,h1⟩;refine⟨x.toNat,k6.mpr ⟨pX.mpr (bT.mp h1).1,by simpa using h1⟩,∅⟩
theorem Zo(wd:Wo):(jl wd).length<=wd.length:=by
 unfold jl;rw[ak];exact eS (List.length_filter_le _ _) (by simp)
noncomputable def om(wd:Wo)(i:Nat):List Int:=((bo i).filter λi=>wd[i]?==some none).map λ(i:Nat)=>(i:Int)
theorem Yj(wd:Wo)(i:Nat):om wd (i+1)=if wd[i]?=some none then om wd i++[(i:Int)] else om wd i:=by
 unfold om;rw[pC,nP,cI];by_cases h:wd[i]?=some none;·rw[if_pos h,tH (by rw[h];rfl)];rfl
 .rw[if_neg h,uY (by simpa using h)];simp
theorem Hs{p a b:Int}(hp:gG p)(h:p∣a*b):p∣a\/p∣b:=by
 by_cases ha:p∣a;·exact .inl ha
 .right
  have hg:la p a=1:=by
   have d1:(la p a:Int)∣p:=pE ..;have X:(la p a:Int)∣a:=oi ..;have h0:0<(la p a:Int):=by
    have:la p a≠0:=λz=>by have:=(Kc.mp z).1;have:=hp.1;omega
    omega
   rcases hp.2 _ h0 d1 with e|e
   .exact_mod_cast e
   .rw[e] at X;exact absurd X ha
  have h':p.natAbs∣a.natAbs*b.natAbs:=by rw[<-BN];exact Ad.mpr h
  have c:k8 p.natAbs a.natAbs:=hg;exact Ad.mp (c.dvd_of_dvd_mul_left h')
section
variable{prog:bg}{w:cq}{A:cx}{E:ag->ar->Prop}{s:ar}
theorem V1{a:ax}{vs:List (Key×ag)}{ms:List Int}{Q:ag->ar->Prop}(L:A.handled=none)(lo:(a==fo)=false)(hd:s.heap.DictOf (iV prog w) a vs)(hk:vs.map (·.1)=ms.map dq)(r:ms.length<=4000)
    (h:∀h' j (l:ax) (out:List ag) (ns:List Int) (e:Nat),(∀b o,s.heap.get? b=some o->h'.get? b=some o)->s.heap.objs.size<=l->h'.get? l=some (lx "list" out.toArray e)->en out ns->ns.Pairwise (· <= ·)->ns.Perm ms->
      Q (.ref l) {s with heap:=h',toks:=j}):wpAny (be prog w) A (call (.builtin "sorted") [.ref a]) Q E s:=by
  obtain⟨ep,S⟩:=hd.dictAt;have d:vs.length=ms.length:=by have:=congrArg mf hk;simpa using this
  refine NY kind_sorted plain_sorted entry_sorted (args_sorted1 _) ?_;unfold hZ.«sorted»;refine ae (m:=checkCount "sorted" 1 1 _) (aw (ae ?_));refine U1 (A:=A.in1) (PySem.W.kdl_dict lo) L S (by rw[d];exact eS r ⋯) λh1 z items k1 k2 hil c=>?_;have hI:en items ms:=by
    have key:∀(its:List ag) (us:List (Key×ag)) (ms:List Int),us.map (·.1)=ms.map dq->its.length=us.length->(∀(i:Nat) v,its[i]?=some v->∃k x,us[i]?=some (k,x)/\(iV prog w).is k v=true)->en its ms:=by
      intro its;induction its with
      | nil =>
        intro us ms e l _;cases us with
        | nil => cases ms with
          |nil=>exact .nil
          |cons _ _=>cases e
        |cons _ _=>cases l
      | cons v its ih =>
        intro us ms e l hp;cases us with
        |nil=>cases l
        | cons u us => cases ms with
          |nil=>cases e
          | cons m ms =>
            have e1:u.1=dq m:=by injection e
            have e2:us.map (·.1)=ms.map dq:=by injection e
            obtain⟨k,x,J,O⟩:=hp 0 v rfl;have J:u=(k,x):=by simpa using J
            subst J;have e1:k=dq m:=e1;subst e1;obtain⟨t,rfl⟩:=xV (k:=m) (v:=v) O;exact .cons m t (ih us ms e2 (by simpa using l) λi v q=>by simpa using hp (i+1) v (by simpa using q))
    exact key items vs ms hk hil c
  have hlen:items.length=ms.length:=by rw[hil,d]
  refine ae (mN ?_);have p:(h1.push (lx "list" items.toArray 0)).get? h1.objs.size=some (lx "list" items.toArray 0):=fT _ rfl;refine ae (du (c5 sT ⟨_,p,rfl⟩ rl (YJ p hI ∅ λout f a1 a2 g=>⟨_,rfl,?_⟩) (sX _)));obtain⟨e,he⟩:=vc (out:=out) p;refine aw ⟨_,rfl,h _ z h1.objs.size out.toList f e (λb o q=>?_) k2 (by simpa using he) a1 g a2⟩;have lb:=bP (k1 b o q);rw[td (dN lb) (by rw[lE];exact nM lb)];exact bW _ (k1 b o q)
end
def AA:List V->Hp->VK->Prop:=λxs H Q=>∃a,∃kvs:List (Key×V),∃ms:List Int,xs=[.ref a]/\Rd H a (.dK kvs)/\kvs.map (·.1)=ms.map dq/\ms.length<=4000/\
 ∀l (N:List Int),H l=none->N.Pairwise (· <= ·)->N.Perm ms->Q (.ref l) (upd H l (.lst (N.map V.int)))
theorem NV{X:Cx}(hc:X.calm=true):fK X (.builtin "sorted") AA:=by
 intro pins s σ H xs us Q I rv h;obtain⟨a,kvs,ms,rfl,p,hk,r,q⟩:=h;obtain⟨u,rfl,ru⟩:=vals1 rv;cases ru;obtain⟨z,hd,vs,rel,dd⟩:=pH I.hok p;refine V1 (I.ok.hd hc) hd dd (by rw[<-rel.keys];exact hk) r λh' j l out ns e kp hl b hI pw pp=>?_;have new:c7 X.prog X.w (upd H l (.lst (ns.map V.int))) h' l (.lst (ns.map V.int)):=by
  refine⟨?_,out,e,Ek hI,b⟩;rw[ak,pp.length_eq];exact eS r ⋯
 exact⟨.ref l,_,I.laid (t':=j) kp hl new,rfl,q _ _ (I.hok.fresh hl) pw pp⟩
theorem aq.Ly{G:Gx}{ρ:Rh}{i:Nat}{a:ax}{f:Bool}{ks:Ks}{Θ:Bool->List PyData->Prop}(e:ρ[i]?=some (.bR a f ks))(hl:ks.length<=4000)(h:∀N:List Int,N.Pairwise (· <= ·)->N.Perm (ks.map (·.1))->Θ true (N.map .int)):
  aq G ρ (fq AA (bz (cH i) bM)) Θ:=λnb σ H Q W z=>by
 obtain⟨x,e1,h1,h2,h3,ps,hp,hd⟩:=W.ok i _ e;subst h1;refine⟨.ref a,e1,a,ps,ks.map (·.1),rfl, .inl hp,aB.keys hd,by rw[ak];exact hl,λl N hl' hw b=>?_⟩;exact aq.fin (f:=true) W (.refl W.az) hl' (Dr N) (h N hw b) z
inductive Oi where
 |own (b:ax)|dat (x:PyData)
inductive OO where
 |lst (xs:List Oi)|tup (xs:List Oi)|bR (ks:List (Int×Oi))
noncomputable abbrev dH:=List (ax×OO)
def fh(S:ax->Prop)(H:Hp):Oi->V->Prop
 | .own b,v=>v= .ref b
 | .dat x,v=>ai S H x v
def fO(S:ax->Prop)(H:Hp)(xs:List Oi)(vs:List V):Prop:=vs.length=xs.length/\∀(i:Nat) x v,xs[i]?=some x->vs[i]?=some v->fh S H x v
noncomputable def Q3(ks:List (Int×Oi))(vs:List V):List (Key×V):=List.zipWith (λk v=>(dq k.1,v)) ks vs
def oO(S:ax->Prop)(H:Hp)(a:ax):OO->Prop
 | .lst xs=>∃vs,H a=some (.lst vs)/\fO S H xs vs
 | .tup xs=>∃vs,H a=some (.tup vs)/\fO S H xs vs
 | .bR ks=>∃vs,H a=some (.dK (Q3 ks vs))/\fO S H (ks.map (·.2)) vs
def jC(S:ax->Prop)(H:Hp)(L:dH):Prop:=(L.map (·.1)).Nodup/\∀a o,L.lookup a=some o->oO S H a o
section
variable{S S':ax->Prop}{H H':Hp}{x:Oi}{v:V}{xs:List Oi}{vs:List V}{a b:ax}{o:OO}{L:dH}{F:List ax}{p:ax}
theorem vd{L:dH}:∀{a:ax} {o:OO},L.lookup a=some o->a∈L.map (·.1):=by
  induction L with
  |nil=>intro a o h;cases h
  | cons q L ih =>
    intro a o h;rw[bN];by_cases c:a=q.1;· rw[c];exact dj ..
    · rw[bJ,beq_false_of_ne c] at h
      exact cS _ (ih h)
theorem Ff{L:dH}:∀{a:ax},a∈L.map (·.1)->∃o,L.lookup a=some o:=by
  induction L with
  |nil=>intro a h;cases h
  | cons q L ih =>
    intro a h;by_cases c:a=q.1;· exact⟨q.2,by rw[c];simp[ed]⟩
    · rw[bJ,beq_false_of_ne c]
      rw[bN] at h;exact ih ((aK.mp h).resolve_left c)
theorem fh.kp(m:Kp S F H H')(h:fh S H x v):fh S H' x v:=by
 cases x with
 |own b=>exact h
 |dat x=>exact ai.kp m h
theorem fh.av(b:∀a,S' a->S a)(h:fh S H x v):fh S' H x v:=by
 cases x with
 |own b=>exact h
 |dat x=>exact ai.av b h
theorem fh.fresh(hp:H p=none)(h:fh S H x v):fh (λa=>S a\/a=p) H x v:=by
 cases x with
 |own b=>exact h
 |dat x=>exact ai.fresh hp h
theorem fh.keep(m:aY S H H')(h:fh S H x v):fh S H' x v:=by
 cases x with
 |own b=>exact h
 |dat x=>exact ai.keep m h
theorem fO.imp(h:fO S H xs vs)(q:∀x v,fh S H x v->fh S' H' x v):fO S' H' xs vs:=⟨h.1,λi x v e1 e2=>q x v (h.2 i x v e1 e2)⟩
theorem oO.imp(h:oO S H a o)(q:∀x v,fh S H x v->fh S' H' x v)(e:∀ho,H a=some ho->H' a=some ho):oO S' H' a o:=by
 cases o with
 |lst xs=>obtain⟨vs,h1,h2⟩:=h;exact⟨vs,e _ h1,h2.imp q⟩
 |tup xs=>obtain⟨vs,h1,h2⟩:=h;exact⟨vs,e _ h1,h2.imp q⟩
 |bR ks=>obtain⟨vs,h1,h2⟩:=h;exact⟨vs,e _ h1,h2.imp q⟩
theorem oO.live(h:oO S H a o):H a≠none:=by
 cases o with
 |lst xs=>obtain⟨vs,h1,h2⟩:=h;rw[h1];exact ie _
 |tup xs=>obtain⟨vs,h1,h2⟩:=h;rw[h1];exact ie _
 |bR ks=>obtain⟨vs,h1,h2⟩:=h;rw[h1];exact ie _
theorem jC.live(h:jC S H L):∀a∈L.map (·.1),H a≠none:=λa m=>by
 obtain⟨o,e⟩:=Ff m;exact(h.2 a o e).live
theorem fO.at{k:Int}(h:fO S H xs vs)(e:bC xs k=some x):∃v,bC vs k=some v/\fh S H x v:=by
  unfold bC at e⊢;rw[h.1];cases z:ir xs.length k with
  |none=>rw[z] at e;cases e
  | some j =>
    rw[z] at e;have e:xs[j]?=some x:=e;have hj:=(bT.mp e).1;have hv:vs[j]?=some (vs[j]'(by rw[h.1];exact hj)):=bw _;exact⟨_,hv,h.2 j x _ e hv⟩
theorem fO.snoc(h:fO S H xs vs)(q:fh S H x v):fO S H (xs++[x]) (vs++[v]):=by
 refine⟨by rw[cK,cK,h.1];rfl,λi y u e1 e2=>?_⟩;by_cases c:i<xs.length
 .rw[gQ c] at e1;rw[gQ (by rw[h.1];exact c)] at e2;exact h.2 i y u e1 e2
 .rw[iD ∅] at e1;rw[iD (by rw[h.1];omega),h.1] at e2;cases hi:i-xs.length with
  |zero=>rw[hi] at e1 e2;simp at e1 e2;subst e1 e2;exact q
  |succ m=>rw[hi] at e1;simp at e1
theorem fO.nil:fO S H [] []:=⟨rfl,λi x v e=>by simp at e⟩
theorem fO.cons(q:fh S H x v)(h:fO S H xs vs):fO S H (x::xs) (v::vs):=by
 refine⟨by rw[eB,eB,h.1],λi y u e1 e2=>?_⟩;cases i with
 |zero=>simp at e1 e2;subst e1 e2;exact q
 |succ i=>exact h.2 i y u (by simpa using e1) (by simpa using e2)
theorem fO.pN{ds:List PyData}(h:ah S H ds vs):fO S H (ds.map .dat) vs:=by
 refine⟨by rw[ak,h.length],λi x v e1 e2=>?_⟩;rw[cY] at e1;obtain⟨d,hd,rfl⟩:=pF.mp e1;obtain⟨y,hy,hq⟩:=h.get hd;rw[hy] at e2;cases e2;exact hq
theorem Ll{ds:List PyData}:∀{vs:List V},vs.length=ds.length->(∀(i:Nat) d v,ds[i]?=some d->vs[i]?=some v->ai S H d v)->ah S H ds vs:=by
  induction ds with
  |nil=>intro vs h _;rw[nA.mp h];exact .nil
  | cons d ds ih =>
    intro vs h q;cases vs with
    |nil=>cases h
    |cons v vs=>exact .cons (q 0 d v rfl rfl) (ih (by simpa using h) λi d' D e1 e2=>q (i+1) d' D (by simpa using e1) (by simpa using e2))
end
noncomputable def j7(L:dH)(b:ax)(o:OO):dH:=L.map λq=>if q.1=b then(b,o) else q
theorem Nm(L:dH)(b:ax)(o:OO):(j7 L b o).map (·.1)=L.map (·.1):=by
 unfold j7;rw[oY];apply wm;intro q _;show(if q.1=b then(b,o) else q).1=q.1;split;·rename_i h;exact h.symm
 .rfl
theorem uF{L:dH}{a b:ax}{o:OO}(h:a≠b):(j7 L b o).lookup a=L.lookup a:=by
  induction L with
  |nil=>rfl
  | cons q L ih =>
    show ed a ((if q.1=b then(b,o) else q)::j7 L b o)=_;by_cases c:q.1=b
    · rw[if_pos c,bJ,beq_false_of_ne h,ih]
      rw[bJ,beq_false_of_ne (by rw[c];exact h)]
    · rw[if_neg c,bJ,bJ,ih]
theorem Iz{L:dH}{b:ax}{o:OO}(h:b∈L.map (·.1)):(j7 L b o).lookup b=some o:=by
  induction L with
  |nil=>cases h
  | cons q L ih =>
    show ed b ((if q.1=b then(b,o) else q)::j7 L b o)=_;by_cases c:q.1=b;· rw[if_pos c,bJ,beq_self_eq_true]
    · rw[if_neg c,bJ,beq_false_of_ne (λz=>c z.symm)]
      rw[bN] at h;exact ih ((aK.mp h).resolve_left λz=>c z.symm)
theorem jC.put{S:ax->Prop}{H:Hp}{L:dH}{b:ax}{D:HO}{o:OO}(h:jC S H L)(hb:b∈L.map (·.1))(U:S b)(hk:oO S (upd H b D) b o):jC S (upd H b D) (j7 L b o):=by
 refine⟨by rw[Nm];exact h.1,λa o' e=>?_⟩;by_cases c:a=b
 .subst c;rw[Iz hb] at e;cases e;exact hk
 .rw[uF c] at e;exact(h.2 a o' e).imp (λx v q=>q.keep (aY.set U)) λd q=>by rw[bq c];exact q
noncomputable def stC(v:V)(f:Bool)(L:dH):Cu where
 v:=v
 F:=L.map (·.1)
 f:=f
 P:=λS H=>jC S H L
 keep:=λk p=>⟨p.1,λa o e=>(p.2 a o e).imp (λx v q=>q.kp k) λD q=>k.own _ (vd e) _ q⟩
 av:=λz p=>⟨p.1,λa o e=>(p.2 a o e).imp (λx v q=>q.av z) λD q=>q⟩
 fresh:=λhp p=>⟨p.1,λa o e=>(p.2 a o e).imp (λx v q=>q.fresh hp) λD q=>q⟩
def iU(G:Gx)(ρ:Rh)(te:TE)(Ψ:ax->Prop):Prop:=∀nb σ H (Q:VK),Wd G nb ρ σ H->(∀b H',Ψ b->Step G.B H H'->Q (.ref b) H')->te σ H Q
section
variable{G:Gx}{ρ:Rh}{ta tb te:TE}{t:TA}{E:DE}{i j:Nat}{v:V}{f:Bool}{L:dH}{K:PySem.W.Frag}{Φ:Pd}{Ψ:ax->Prop}{r:ax}
theorem Wd.rQ{nb:ax->Prop}{σ:qg}{H:Hp}(W:Wd G nb ρ σ H)(e:ρ[i]?=some (.cu (stC v f L))):σ[i]?=some (some v)/\(∀a∈L.map (·.1),nb a/\NB G.B a)/\jC (G.S nb f) H L:=by
 obtain⟨x,e1,h1,h2,h3⟩:=W.ok i _ e;exact⟨by rw[e1,h1];rfl,h2,h3⟩
theorem iU.root(e:ρ[i]?=some (.cu (stC (.ref r) f L)))(h:Ψ r):iU G ρ (cH i) Ψ:=λnb σ H Q W z=>⟨.ref r,(W.rQ e).1,z r H h (.refl W.az)⟩
theorem iU.mh(e:ρ[i]?=some (.cu (stC v f L)))(h:iU G ρ ta λb=>Ev G ρ tb λ_ y=>∃k xs c,y= .int k/\L.lookup b=some (.tup xs)/\bC xs k=some (.own c)/\Ψ c):iU G ρ (dM (aT K) ta tb) Ψ:=λnb σ H Q W z=>
 h nb σ H _ W λb H1 q s1=>q nb σ H1 _ (W.step s1) λg u H2 y ⟨k,xs,c,o,hb,hc,p⟩ s2 hu=>by
  subst o;obtain⟨vs,h1,h2⟩:=(((W.step s1).step s2).rQ e).2.2.2 b _ hb;obtain⟨D,e1,e2⟩:=h2.at hc;have e2:D= .ref c:=e2;subst e2;exact⟨b,vs,k, .ref c,rfl,hu.cP,dX.of h1,e1,z c H2 p (s1.trans s2)⟩
theorem Ev.MV(e:ρ[i]?=some (.cu (stC v f L)))(h:iU G ρ ta λb=>∃xs,(L.lookup b=some (.lst xs)\/L.lookup b=some (.tup xs))/\Φ true (.int (xs.length:Int))):Ev G ρ (fq (eX K) (bz ta bM)) Φ:=λnb σ H Q W z=>
 h nb σ H _ W λb H1 ⟨xs,hb,p⟩ s1=>by
  rcases hb with hb|hb
  .obtain⟨vs,h1,h2⟩:=((W.step s1).rQ e).2.2.2 b _ hb;exact⟨b,vs,rfl, .inl (aZ.of h1),by rw[h2.1];exact z true _ H1 _ p s1 (.int _)⟩
  .obtain⟨vs,h1,h2⟩:=((W.step s1).rQ e).2.2.2 b _ hb;exact⟨b,vs,rfl, .inr (dX.of h1),by rw[h2.1];exact z true _ H1 _ p s1 (.int _)⟩
theorem jC.mono{nb:ax->Prop}{H:Hp}{g:Bool}(h:jC (G.S nb f) H L):jC (G.S nb (f && g)) H L:=⟨h.1,λa o e=>(h.2 a o e).imp (λx v q=>q.av (bZ (λz=>by rw[eY] at z;exact z.1) λ_ z=>z)) λ_ q=>q⟩
theorem Sv.Ic(e:ρ[i]?=some (.cu (stC v f L)))(h:iU G ρ ta λb=>∃xs,L.lookup b=some (.lst xs)/\xs.length<10000/\Ev G ρ te λg d=>E.nx (ρ.set i (.cu (stC v (f && g) (j7 L b (.lst (xs++[.dat d]))))))):
  Sv G ρ (q9 (lX K "list" D7 ta (bz te bM))) E:=λnb σ H D W KK=>
 h nb σ H _ W λb H1 ⟨xs,hb,hl,q⟩ s1=>by
  have W1:=W.step s1;obtain⟨vs,h1,h2⟩:=(W1.rQ e).2.2.2 b _ hb;refine⟨.inl ⟨rfl,_,aZ.of h1⟩,?_⟩;refine q nb σ H1 _ W1 λg u H2 d p s2 hu=>?_;have W2:=W1.step s2;obtain⟨_,M,hk⟩:=W2.rQ e;obtain⟨vs,h1,h2⟩:=hk.2 b _ hb;have hbm:=vd hb
  refine⟨b,vs,u,rfl,rfl,h1,eK (by rw[h2.1];exact hl) ⋯,KK.nx nb _ _ _ p (W2.Ck e hbm rfl (λa ha=>by
   have ha:a∈(j7 L b (.lst (xs++[.dat d]))).map (·.1):=ha;rw[Nm] at ha;exact ha) ?_)⟩
  have U:G.S nb (f && g) b:= .inl (M b hbm).1;refine hk.mono.put hbm U ⟨_,bx,?_⟩;refine fO.snoc ((h2.imp λx v q=>(q.av (bZ (λz=>by rw[eY] at z;exact z.1) λ_ z=>z)).keep (aY.set U))) ?_;exact(hu.av (bZ (λz=>by rw[eY] at z;exact z.2) λ_ z=>z)).keep (aY.set U)
end
inductive jY(L:dH):Oi->PyData->Prop
 |dat (x:PyData):jY L (.dat x) x
 |lst {b:ax} {xs:List Oi} {ds:List PyData} (e:L.lookup b=some (.lst xs)) (h:ds.length=xs.length) (q:∀(i:Nat) x d,xs[i]?=some x->ds[i]?=some d->jY L x d):jY L (.own b) (.list ds)
 |tup {b:ax} {xs:List Oi} {ds:List PyData} (e:L.lookup b=some (.tup xs)) (h:ds.length=xs.length) (q:∀(i:Nat) x d,xs[i]?=some x->ds[i]?=some d->jY L x d):jY L (.own b) (.tuple ds)
theorem jY.Qg{S S':ax->Prop}{H:Hp}{L:dH}(h:jC S H L)(U:∀a,S' a->S a)(hn:∀a∈L.map (·.1),¬S' a){x:Oi}{d:PyData}(q:jY L x d):∀{v:V},fh S H x v->ai S' H d v:=by
  induction q with
  |dat x=>intro v hv;exact ai.av U hv
  | lst e hl _ ih =>
    intro v hv;have hv:v=_:=hv;subst hv;obtain⟨vs,h1,h2⟩:=h.2 _ _ e;refine .lst (hn _ (vd e)) h1 (Ll (by rw[h2.1,hl]) λi d v e1 e2=>?_);have hi:=(bT.mp e1).1;have hx:=bw (l:=_) (i:=i) (by rw[<-hl];exact hi);exact ih i _ d hx e1 (h2.2 i _ v hx e2)
  | tup e hl _ ih =>
    intro v hv;have hv:v=_:=hv;subst hv;obtain⟨vs,h1,h2⟩:=h.2 _ _ e;refine .tup (hn _ (vd e)) h1 (Ll (by rw[h2.1,hl]) λi d v e1 e2=>?_);have hi:=(bT.mp e1).1;have hx:=bw (l:=_) (i:=i) (by rw[<-hl];exact hi);exact ih i _ d hx e1 (h2.2 i _ v hx e2)
section
variable{G:Gx}{ρ:Rh}{ta tb te:TE}{t:TA}{E:DE}{i j:Nat}{f:Bool}{L:dH}{K:PySem.W.Frag}{Φ:Pd}{r:ax}{d:PyData}
theorem Wd.U4{nb:ax->Prop}{σ:qg}{H:Hp}(W:Wd G nb ρ σ H)(e:ρ[i]?=some (.cu (stC (.ref r) f L)))(hd:jY L (.own r) d):Wd G (λx=>nb x/\x∉L.map (·.1)) (ρ.set i (.d f d)) σ H:=
 W.D1 e λp hn=>hd.Qg p (bZ (λz=>z) λ_ z=>z.1) (λa m z=>by
  obtain⟨J,O,Y⟩:=hn a m;rcases z with z|z|z|z
  .exact z.2 m
  .exact O z
  .exact z Y
  .exact z.2 J) rfl
theorem Tv.Gr{a:TT}{Θ:Bool->Prop}(i:Nat)(e:ρ[i]?=some (.cu (stC (.ref r) f L)))(hd:jY L (.own r) d)(h:Tv G (ρ.set i (.d f d)) a Θ):Tv G ρ a Θ:=λnb σ H Q W z=>h _ σ H Q (W.U4 e hd) z
end
abbrev SF:=List PyData->(V->dH->Prop)->Prop
def o6(F:SF):Prop:=∀ds (Φ Ψ:V->dH->Prop),F ds Φ->(∀v L,Φ v L->Ψ v L)->F ds Ψ
def qY(H H':Hp)(L:dH):Prop:=(∀a∈L.map (·.1),H a=none)/\jC (λa=>H a≠none\/a∈L.map (·.1)) H' L
def BA(n:Nat)(F:SF):Sp:=λvs H Q _=>vs.length=n/\∃(nb:ax->Prop) (ds:List PyData),iK nb H/\ah nb H ds vs/\F ds λv L=>∀H',cA H H'->qY H H' L->Q v H'
noncomputable def FT(G:Gx)(Ψ:V->dH->Prop):DE where
 nx:=λ_=>False
 rt:=λ_ _=>False
 rw:=λ_ _ v H=>∃L,Ψ v L/\qY G.H0 H L
section
variable{G:Gx}{ρ:Rh}{ta tb te:TE}{t:TA}{E:DE}{i j:Nat}{K:PySem.W.Frag}
theorem Sv.Tj{n:Nat}{F:SF}(hm:o6 F)(h:Av G ρ t λes=>es.length=n/\F (es.map (·.2)) λv L=>(L.map (·.1)).Nodup->E.nx (ρ.set i (.cu (stC v true L)))):Sv G ρ (gE (gm (BA n F) [] E0 t) (ic i)) E:=λnb σ H D W KK=>
 h nb σ H _ W λes vs H1 ⟨hl,p⟩ s1 J=>by
  have W1:=W.step s1;show BA n F (vs++[]) H1 _ E0;rw[fY];refine⟨by rw[J.len,hl],G.S nb (gz es),es.map (·.2),W1.gp,J.all λz=>z,hm _ _ _ p λv L hp H' sm ⟨f,hok⟩=>?_⟩;refine KK.nx _ _ _ _ (hp hok.1) (W1.Hg (i:=i) (c:=stC v true L) (.same W1.az sm) f hok.live ⟨hok.1,λa o e=>(hok.2 a o e).imp (λx u q=>q.av λb z=>?_) λ_ q=>q⟩);exact z.imp (λz=>W1.gp b z) λz=>z
theorem Ev.Iq{n:Nat}{F:SF}{Φ:Pd}(hm:o6 F)(h:Av G ρ t λes=>es.length=n/\F (es.map (·.2)) λv L=>∃r d,v= .ref r/\jY L (.own r) d/\Φ true d):Ev G ρ (gm (BA n F) [] E0 t) Φ:=λnb σ H Q W z=>
 h nb σ H _ W λes vs H1 ⟨hl,p⟩ s1 J=>by
  have W1:=W.step s1;show BA n F (vs++[]) H1 _ E0;rw[fY];refine⟨by rw[J.len,hl],G.S nb (gz es),es.map (·.2),W1.gp,J.all λz=>z,hm _ _ _ p λv L ⟨r,d,ev,hd,hp⟩ H' sm ⟨f,hok⟩=>?_⟩;subst ev;exact z true _ H' d hp (s1.trans (.same W1.az sm)) (hd.Qg hok (λa q=> .inl (W1.gp a q)) (λa m q=>W1.gp a q (f a m)) rfl)
theorem Sv.OM{N:List Str}{vs:List V}{ds:List PyData}{nb:ax->Prop}{H:Hp}{Q:VK}{Φ:V->dH->Prop}{b:TS}(hl:iK nb H)(hd:ah nb H ds vs)(I:∀v L H',Φ v L->cA H H'->qY H H' L->Q v H')
  (r:ρ=ds.map (Sl.d false)++cf (N.length-ds.length) .no) (h:Sv ⟨none,H,nb,[]⟩ ρ b (FT ⟨none,H,nb,[]⟩ Φ)):b {nx:=λ_ H'=>Q .aL H',rt:=Q} (start N vs) H:=
 Ie (P:=λσ H1=>b {nx:=λ_ H'=>Q .aL H',rt:=Q} σ H1) hl hd r λaN σ H1 W=>h aN σ H1 _ W
  ⟨λ_ _ _ _ q _=>q.elim,λ_ _ _ _ q _=>q.elim,λ_ _ _ _ q _=>q.elim,λ_ _ _ _ _ _ _ q _ _=>q.elim,λc g k v H2 ⟨L,q,hn⟩ W2=>I v L H2 q (λa o e=>W2.old a o (λ_ _ z=>(by cases z)) e) hn⟩
end
def XZ:TS:=λ_ _ _=>False
theorem zx{X:Cx}{st:fb}:PS X st XZ:=λ_ _ _ _ _ _ h=>h.elim
theorem R.Qy{K:PySem.W.Frag}{a:ax}{xs:List V}{g:TG}{tc:TT}{te:TE}{acc:ax}{d:Hp->Prop}{σ:qg}{H:Hp}(Pv:Nat->qg->Hp->Prop)(h0:Pv 0 σ H)(hl:∀i σ H,i<=xs.length->Pv i σ H->dX K H a xs)
  (hs:∀i x σ H,xs[i]?=some x->Pv i σ H->g x σ H λk H2=>tc k H2 λb H3=>if b=true then te k H3 λv H4=>∃ys,H4 acc=some (.lst ys)/\ys.length<sizeLine/\Pv (i+1) k (upd H4 acc (.lst (ys++[v]))) else Pv (i+1) k H3)
  (hd:∀σ H,Pv xs.length σ H->d H):nH (Dh K a) g tc te acc d σ H:=by
 refine⟨λi m σ H=>m=xs.length-i/\i<=xs.length/\Pv i σ H,⟨xs.length,by simp,fj _,h0⟩,?_⟩;rintro i m σ H ⟨rfl,hi,p⟩;have q:=hl i σ H hi p;by_cases hlt:i<xs.length
 .refine .inr ⟨⟨xs,xs[i],q,by simp[hlt]⟩,Pv (i+1),λL H' r=>⟨xs.length-(i+1),∅,rfl,hlt,r⟩,λx H' y=>?_⟩;obtain⟨e,y⟩:=y;subst e;exact hs i x σ _ (y xs q) p
 .have e:i=xs.length:=∅
  subst e;exact .inl ⟨⟨xs,q,aH _⟩,hd σ H p⟩
section
variable{G:Gx}{ρ bU:Rh}{te:TE}{gt:TG}{tc:TT}{mp:List (Option Nat)}{K:PySem.W.Frag}{Θ:Bool->List PyData->Prop}
theorem aq.Zt{t0:TE}(hm:(mp.filterMap id).Nodup)(r:kJ mp ρ=bU)(h:Ev G ρ t0 λfi x=>∃es,x= .tuple es/\es.length<=10000/\∀v,g6 (G.hd fi (.tuple es) v) bU es.length (λi d=>es[i]?=some d) fi gt tc te Θ):aq G ρ (jK (yG K t0) gt tc te mp) Θ:=λnb σ H Q W z=>
 h nb σ H _ W λfi v H1 x ⟨es,ex,hn,q⟩ s1 hv=>by
  subst ex;obtain⟨fl,I,h0,ht,he⟩:=q v;have W0:=(W.step s1).hd hv;obtain⟨a,xs,rfl,n,hx,hd⟩:=hv.ofT;refine⟨a,rfl,⟨xs, .of hx⟩,λacc g=>?_⟩;have c:Wd (G.hd fi (.tuple es) (.ref a)) nb bU (L2.fU mp σ) H1:=by rw[<-r];exact W0.fU hm
  have W1:=c.more g (o:= .lst []);have hN:=NB.new s1.2 g;have hno:=tQ c g;have dz:Step G.B H1 (upd H1 acc (.lst [])):= .same s1.2 (cL g);have f:NB G.B a:=jS λz=>n (.inr (.inr (.inl z)));refine R.Qy (xs:=xs) (λi σ H=>∃ds ys,Wd (G.hd fi (.tuple es) (.ref a)) (λx=>nb x\/x=acc) bU σ H/\Step G.B H1 H/\H acc=some (.lst ys)/\ah (G.S (λx=>nb x\/x=acc) fl) H ds ys/\ds.length<=i/\I i ds) ⟨[],[],W1,dz,bx, .nil,aH _,h0⟩ ?_ ?_ ?_
  .rintro i σ H hi ⟨ds,ys,W,st,_⟩;exact .of (st.1 _ _ f hx)
  .rintro i x σ H hi ⟨ds,ys,W,st,hy,j,hl,hI⟩;obtain⟨N,l,e',_,h',d'⟩:=W.jD.2.ofT;cases e';rw[st.1 _ _ f hx] at h';cases h'
   have hil:i<es.length:=by have:=(bT.mp hi).1;have:=d'.length;omega
   obtain⟨O,M,dx⟩:=d'.get (bw hil);rw[hi] at M;cases M
   exact L2.uo (G:=G.hd fi (.tuple es) (.ref a)) hn hil W (.inr rfl) hN hno st g hy j hl dx (ht i _ ds (bw hil) hl hI) λL H' k l W' st' M j hl' b=>⟨k,l,W',st',M,j,hl',b⟩
  .rintro σ H' ⟨ds,ys,W',st,hy,j,hl,hI⟩;rw[hd.length] at hl hI;exact L2.uL W s1 g st hy j (he ds hl hI) z
end
section
variable{p n m:Int}{c1 c2 cs:List aA}{u w:List Int}
theorem Ti{ws:List Int}(b:Ej p n cs)(hl:ws.length=n.toNat)(hw:∀x∈ws,0<=x/\x<p)(h:brk p cs ws=0):tB p cs ws n.toNat=[]:=by
  have hb:=List.countP_eq_zero.mp h;refine List.flatMap_eq_nil_iff.mpr λi hi=>?_;have hi:=pX.mp hi;unfold OW;have a:zw (tX p cs ws (i:Int)) (ws.getD i 0)=[]:=by
    cases e:zw (tX p cs ws (i:Int)) (ws.getD i 0) with
    |nil=>rfl
    | cons x r =>
      exfalso;have hx:x∈zw (tX p cs ws (i:Int)) (ws.getD i 0):=by rw[e];exact dj
      have Lx:=k6.mp (EJ hx);have hg:=Lx.2;unfold Px at hg;rw[eY,decide_eq_true_eq] at hg;refine hg.1 ?_;have hm:=Lx.1;unfold tX at hm;obtain⟨q,hq,rfl⟩:=dG.mp hm;obtain⟨c,prs,f,hc,_,_,rfl⟩:=Uu (aH _) hq;have hz:=hb prs (fQ hc);have hz:dB prs (ws.map some)%p=0:=by simpa using hz
      show(ws.getD (i:Int).toNat 0-dB (cs.getD (c:Int).toNat []) (ws.map some)%p*sol p f 1)%p=_;rw[oy,oy,show cs.getD c []=prs by rw[k9,hc];rfl,hz,qh,DO];have:=hw (ws.getD i 0) (by rw[k9,bw ∅];exact fZ _);exact qP this.1 this.2
  rw[a];rfl
inductive Way(p:Int)(cs:List aA)(n k:Nat)(ws:List Int):Prop
 |held (hb:brk p cs ws=0) (ht:tB p cs ws n=[])
 |rest (hb:brk p cs ws≠0) (ht:tB p cs ws n=[])
 |on (hb:brk p cs ws≠0) (ht:tB p cs ws n≠[])
theorem way(b:Ej p n cs){ws:List Int}(hl:ws.length=n.toNat)(hw:∀x∈ws,0<=x/\x<p)(k:Nat):Way p cs n.toNat k ws:=by
 by_cases h1:brk p cs ws=0;·exact .held h1 (Ti b hl hw h1)
 by_cases h2:tB p cs ws n.toNat=[];·exact .rest h1 h2
 .exact .on h1 h2
end
def TQ(cs:List aA):Prop:=cs.Pairwise λa b=>∀x y:Int,x≠y->x∈a.map (·.1)->y∈a.map (·.1)->x∈b.map (·.1)->y∈b.map (·.1)->False
structure Ym(p n:Int)(cs:List aA)(ws:List Int):Prop where
 v:Ej p n cs
 a:TQ cs
 t:∀prs∈cs,dB prs (ws.map some)%p=0
 l:ws.length=n.toNat
 r:∀x∈ws,0<=x/\x<p
section
variable{p n:Int}{cs:List aA}{ws xs O:List Int}{i:Nat}
theorem wr(h:Ym p n cs ws)(hi:i<n.toNat):0<=ws.getD i 0/\ws.getD i 0<p:=by
 have:=h.l;exact h.r _ (by rw[k9,bw ∅];exact fZ _)
end
section
variable{p n:Int}{d:Nat}{cs:List aA}{ws L:List Int}
def only(cs:List aA)(L:List Int)(x:Int)(c:Nat):Prop:=((cs.getD c []).filter λpr=>decide (pr.1∈L)).map (·.1)=[x]
end
section
variable{prog:bg}{w:cq}{A:cx}{E:ag->ar->Prop}{h:eC}{g:Array p3}{d:Drawn}{t:Nat}{os:OsState}{a:ax}{o:Obj}{K:PySem.W.Frag}
 {nm q:Str} {C N:ax} {bs bm:List ag} {hdct:Bool} {sn:List Str} {sub:List ag} {ab:Bool} {col:Option Bool} {dd:Option ax} {k0 k1 k2 k3 k5:Option ag} {newId:String}
end
noncomputable def DW(x:Str):It:=⟨λi _=>i<x.cps.size,λi H v H'=>H'=H/\∃c,x.cps[i]?=some c/\v= .str ⟨#[c]⟩,λi _=>i=x.cps.size⟩
theorem Qj{P:bg}{w:cq}{K:PySem.W.Frag}{tg:et}(x:Str)(t:Tok)(it:ax){ty:String}(f:ty="str_ascii_iterator" \/ty="str_iterator"):Turn P w K tg (DW x) [it] it (λi h=>h.IsStrIter it ty x t i) where
 mem:=by simp
 obj:=λi h st b hb=>by
  have e:b=it:=by simpa using hb
  subst e;obtain⟨o,e,c,d⟩:=st;exact⟨o,e,λv z=>by rw[d] at z;cases z⟩
 keep:=λi h h' st k=>let ⟨o,D,r⟩:=st;⟨o,k it (by simp) o D,r⟩
 item:=by
  intro X hP hw hK hc i pins s σ H E I hf st hg;subst hP hw hK;have hg:i<x.cps.size:=hg;obtain⟨C,Y,G,T,V,J⟩:=hf it (by simp);have hx:x.cps[i]?=some x.cps[i]:=by simp[hg]
  rcases f with rfl|rfl
  .refine wpAny_pyNext_ascii_item st hx λh' st' sb=>?_;have I1:Inv X pins σ H {s with heap:=h',toks:=s.toks+1}:=I.turned (t':=s.toks+1) (λb o hb e=>(sb.2 b hb).trans e) C Y T V J;obtain⟨o,e,c,d⟩:=id st';exact⟨_,rfl,sN (s:={s with heap:=h',toks:=s.toks+1}) e c d ⋯ ⟨.str ⟨#[x.cps[i]]⟩,H,I1,⟨_,rfl⟩,⟨rfl,_,hx,rfl⟩,st',λb hb=>(hf b hb).1⟩⟩
  .refine wpAny_pyNext_wide_item st hx λh' st' sb=>?_;have I1:Inv X pins σ H {s with heap:=h',toks:=s.toks+1}:=I.turned (t':=s.toks+1) (λb o hb e=>(sb.2 b hb).trans e) C Y T V J;obtain⟨o,e,c,d⟩:=id st';exact⟨_,rfl,sN (s:={s with heap:=h',toks:=s.toks+1}) e c d ⋯ ⟨.str ⟨#[x.cps[i]]⟩,H,I1,⟨_,rfl⟩,⟨rfl,_,hx,rfl⟩,st',λb hb=>(hf b hb).1⟩⟩
 done:=by
  intro X hP hw hK hc i pins s σ H E I hf st hg;subst hP hw hK;have hg:i=x.cps.size:=hg;obtain⟨C,Y,G,T,V,J⟩:=hf it (by simp);have hx:x.cps[i]?=none:=by simp[hg]
  rcases f with rfl|rfl
  .exact wpAny_pyNext_ascii_end (I.ok.hd hc) st hx λh' eb=>⟨rfl,I.turned (t':=s.toks) (λb o hb e=>eb b o hb e) C Y T V J⟩
  .exact wpAny_pyNext_wide_end (I.ok.hd hc) st hx λh' eb=>⟨rfl,I.turned (t':=s.toks) (λb o hb e=>eb b o hb e) C Y T V J⟩
 self:=λ_ _ _ _ _ st h=>by
  rcases f with rfl|rfl
  .exact wpAny_pyIter_striter_ascii st h
  .exact wpAny_pyIter_striter_wide st h
def HH(tl:TE):TI:=λσ H R=>tl σ H λx H1=>∃z,x= .str z/\R (DW z) H1
section
variable{X:Cx}{tg l:et}{tl:TE}
theorem UN(hl:PE X l tl):PI X tg l (HH tl):=by
 intro pins s σ H R I h;refine aP (hl pins s σ H _ I h) λv s1 ⟨x,H1,I1,C,J⟩=>?_;obtain⟨z,e,q⟩:=J;subst e;obtain⟨t,rfl⟩:=C;cases ha:z.cps.all (· <128)
 .refine wpAny_pyIter_wide ha ?_;refine⟨s1.heap.objs.size,[s1.heap.objs.size],_,_,H1,rfl,I1.kept (t':=s1.toks) λb o e=>bW _ e,Qj z t _ (.inr rfl),⟨_,fT _ rfl,rfl,rfl⟩,λb hb=>?_,q⟩;have e:b=s1.heap.objs.size:=by simpa using hb
  subst e;exact I1.nX (aH _) (I1.hok.fresh (aH _))
 .refine wpAny_pyIter_ascii ha ?_;refine⟨s1.heap.objs.size,[s1.heap.objs.size],_,_,H1,rfl,I1.kept (t':=s1.toks) λb o e=>bW _ e,Qj z t _ (.inl rfl),⟨_,fT _ rfl,rfl,rfl⟩,λb hb=>?_,q⟩;have e:b=s1.heap.objs.size:=by simpa using hb
  subst e;exact I1.nX (aH _) (I1.hok.fresh (aH _))
def DC:V->Option Int->Option Int->Hp->VK->Prop:=λx lo hi H Q=>∃z,x= .str z/\z.length<=sizeLine/\Q (.str (wi z lo hi)) H
theorem Ub:CD X DC:=by
  intro pins s σ H x v vl vu lo hi sl Q I rx hs pl pu h;obtain⟨z,rfl,hz,q⟩:=h;obtain⟨t,rfl⟩:=rx;refine⟨"str",_,F.slot_str_getitem.lookup,j2 _ _ _,?_⟩;have fin:∀(l u:Option (Int×Tok)),l.map (·.1)=lo->u.map (·.1)=hi->s.heap.IsSlice sl l u none->wpAny (be X.prog X.w) X.A (xn (.str z t) (.ref sl)) (EP X pins σ Q) X.xe s:=λl u e1 e2 r=>by
    subst e1 e2;refine wpAny_getItem_str_slice r rfl (post_val_or_str ⟨eS (Txt.slice_le z _ _) hz,λt' k=>?_⟩);exact⟨.str _,H,I.tok _,⟨_,rfl⟩,q⟩
  cases pl with
  | none =>
    cases pu with
    |none=>exact fin none none rfl rfl hs
    |int j a=>exact fin none (some (j,a)) rfl rfl hs
  | int i b =>
    cases pu with
    |none=>exact fin (some (i,b)) none rfl rfl hs
    |int j a=>exact fin (some (i,b)) (some (j,a)) rfl rfl hs
def LL:V->List V->Hp->VK->Prop:=λx vs H Q=>∃z y,x= .str z/\vs=[.str y]/\Q (.bl (i7 z y)) H
theorem JN:pM X "str.startswith" LL:=by
 intro pins s σ H x vs v us Q I rx rv h;obtain⟨z,y,rfl,rfl,q⟩:=h;obtain⟨t,rfl⟩:=rx;obtain⟨u,rfl,ru⟩:=rv.one;obtain⟨t',rfl⟩:=ru;exact SC.startswith ⟨.bl _,H,I,rfl,q⟩
def KC(neg:Bool):R2:=λx y H Q=>∃i j,x= .str i/\y= .str j/\Q (.bl ((!(eD j i 0 j.length 1).isEmpty) !=neg)) H
theorem OI:dQ X (da .In) (KC false):=by
 intro pins s σ H x y u v Q I rx ry h;obtain⟨i,j,e1,e2,q⟩:=h;exact Vs pins s σ H x y u v Q I rx ry ⟨i,j,e1,e2,by simpa using q⟩
def xj:List V->Hp->VK->Prop:=λxs H Q=>∃z,xs=[.str z]/\z.length<=sizeLine/\Q (.int z.length) H
theorem Py:fK X (.builtin "len") xj:=Xu
def rJoin:V->List V->Hp->VK->Prop:=λx vs H Q=>∃(z:Str) (a:ax) (ys:List Str),x= .str z/\vs=[.ref a]/\H a=some (.lst (ys.map .str))/\wt z ys=true/\Q (.str (g4 z ys)) H
theorem TL{us:List ag}:∀{ys:List Str},Vals (ys.map V.str) us->∃l:List (Str×Tok),us=rD l/\l.map (·.1)=ys:=by
  intro ys;induction ys generalizing us with
  |nil=>intro h;cases h;exact⟨[],rfl,rfl⟩
  | cons y ys ih =>
    intro h;cases h with
    | cons r t =>
      obtain⟨l,rfl,e⟩:=ih t;obtain⟨k,rfl⟩:=r;exact⟨(y,k)::l,rfl,by rw[bN,e]⟩
theorem Ke:pM X "str.join" rJoin:=by
 intro pins s σ H x vs v us Q I rx rv h;obtain⟨z,a,ys,rfl,rfl,p,hok,q⟩:=h;obtain⟨t,rfl⟩:=rx;obtain⟨u,rfl,ru⟩:=rv.one;cases ru;obtain⟨zz,its,n,r,hl,e⟩:=I.qM p;obtain⟨l,rfl,B⟩:=TL r;exact SC.join (l:=l) ⟨_,e,rfl,n,rfl⟩ B hok λt' k=>⟨.str _,H,I.tok _,⟨_,rfl⟩,q⟩
end
theorem ue{S:ax->Prop}{H:Hp}{x:Str}:ai S H (.str x) (.str x):=by unfold ai;rfl
theorem R.Xm{x:Str}{g:TG}{tc:TT}{te:TE}{acc:ax}{d:Hp->Prop}{σ:qg}{H:Hp}(Pv:Nat->qg->Hp->Prop)(h0:Pv 0 σ H)
  (hs:∀i c σ H,x.cps[i]?=some c->Pv i σ H->g (.str ⟨#[c]⟩) σ H λk H2=>tc k H2 λb H3=>if b=true then te k H3 λv H4=>∃ys,H4 acc=some (.lst ys)/\ys.length<sizeLine/\Pv (i+1) k (upd H4 acc (.lst (ys++[v]))) else Pv (i+1) k H3)
  (hd:∀σ H,Pv x.cps.size σ H->d H):nH (DW x) g tc te acc d σ H:=by
 refine⟨λi m σ H=>m=x.cps.size-i/\i<=x.cps.size/\Pv i σ H,⟨x.cps.size,by simp,fj _,h0⟩,?_⟩;rintro i m σ H ⟨rfl,hi,p⟩;by_cases hlt:i<x.cps.size
 .refine .inr ⟨hlt,Pv (i+1),λL H' r=>⟨x.cps.size-(i+1),∅,rfl,hlt,r⟩,λy H' z=>?_⟩;obtain⟨e,c,hc,o⟩:=z;subst e o;exact hs i c σ _ hc p
 .have e:i=x.cps.size:=∅
  subst e;exact .inl ⟨rfl,hd σ H p⟩
section
variable{G:Gx}{ρ bU:Rh}{ta tb te:TE}{gt:TG}{K:PySem.W.Frag}{Θ:Bool->List PyData->Prop}{Φ:Pd}{tc:TT}{mp:List (Option Nat)}{t0:TE}
theorem aq.Rl(hm:(mp.filterMap id).Nodup)(r:kJ mp ρ=bU)(h:Ev G ρ t0 λ_ y=>∃x,y= .str x/\x.cps.size<=10000/\g6 G bU x.cps.size (λi d=>∃c,x.cps[i]?=some c/\d= .str ⟨#[c]⟩) true gt tc te Θ):aq G ρ (jK (HH t0) gt tc te mp) Θ:=λnb σ H Q W z=>
 h nb σ H _ W λf v H1 y ⟨x,ex,hn,q⟩ s1 hv=>by
  subst ex;obtain⟨fl,I,h0,ht,he⟩:=q;have hv:v= .str x:=by unfold ai at hv;exact hv
  subst hv;refine⟨x,rfl,λacc g=>?_⟩;have W0:Wd G nb bU (L2.fU mp σ) H1:=by rw[<-r];exact(W.step s1).fU hm
  have W1:=W0.more g (o:= .lst []);have hN:=NB.new s1.2 g;have hno:=tQ W0 g;have dz:Step G.B H1 (upd H1 acc (.lst [])):= .same s1.2 (cL g);refine R.Xm (λi σ H=>∃ds xs,Wd G (λx=>nb x\/x=acc) bU σ H/\Step G.B H1 H/\H acc=some (.lst xs)/\ah (G.S (λx=>nb x\/x=acc) fl) H ds xs/\ds.length<=i/\I i ds) ⟨[],[],W1,dz,bx, .nil,aH _,h0⟩ ?_ ?_
  .rintro i c σ H hc ⟨ds,xs,W,st,hx,hd,hl,hI⟩;have hi:i<x.cps.size:=(qo.mp hc).1;exact uo hn hi W (.inr rfl) hN hno st g hx hd hl ue (ht i _ ds ⟨c,hc,rfl⟩ hl hI) λL H' k l W' st' M j hl' b=>⟨k,l,W',st',M,j,hl',b⟩
  .rintro σ H' ⟨ds,xs,W',st,hx,hd,hl,hI⟩;exact uL W s1 g st hx hd (he ds hl hI) z
theorem ai.lJ{S:ax->Prop}{H:Hp}{x:Str}{v:V}(h:ai S H (.str x) v):v= .str x:=by unfold ai at h;exact h
theorem Ev.ZN{tl th:TO}(h:Ev G ρ te λ_ y=>∃x,y= .str x/\x.length<=sizeLine/\Ov G ρ tl λlo=>Ov G ρ th λhi=>Φ true (.str (wi x lo hi))):Ev G ρ (se DC te tl th) Φ:=λnb σ H Q W z=>
 h nb σ H _ W λf v H1 y ⟨x,ex,hl,q⟩ s1 hv=>by
  subst ex;rw[hv.lJ];exact q nb σ H1 _ (W.step s1) λlo H2 q s2=>q nb σ H2 _ ((W.step s1).step s2) λhi H3 q s3=>⟨x,rfl,hl,z true _ H3 _ q ((s1.trans s2).trans s3) ue⟩
theorem Ev.starts(h:Ev G ρ ta λ_ x=>∃a,x= .str a/\Ev G ρ tb λ_ y=>∃b,y= .str b/\Φ true (.bool (i7 a b))):Ev G ρ (lX K "str" LL ta (bz tb bM)) Φ:=λnb σ H Q W z=>
 h nb σ H _ W λf v H1 d ⟨a,e,q⟩ s1 hv=>by
  subst e;rw[hv.lJ];refine⟨rfl,q nb σ H1 _ (W.step s1) λg u H2 y ⟨b,o,p⟩ s2 hu=>?_⟩;subst o;rw[hu.lJ];exact⟨a,b,rfl,rfl,z true _ H2 _ p (s1.trans s2) (.bl _)⟩
theorem Ev.vv{neg:Bool}(h:Ev G ρ ta λ_ x=>∃a,x= .str a/\Ev G ρ tb λ_ y=>∃b,y= .str b/\Φ true (.bool ((!(eD b a 0 b.length 1).isEmpty) !=neg))):Ev G ρ (dM (KC neg) ta tb) Φ:=λnb σ H Q W z=>
 h nb σ H _ W λf v H1 d ⟨a,e,q⟩ s1 hv=>by
  subst e;rw[hv.lJ];refine q nb σ H1 _ (W.step s1) λg u H2 y ⟨b,o,p⟩ s2 hu=>?_;subst o;rw[hu.lJ];exact⟨a,b,rfl,rfl,z true _ H2 _ p (s1.trans s2) (.bl _)⟩
theorem Ev.OS(h:Ev G ρ ta λ_ x=>∃a,x= .str a/\a.length<=sizeLine/\Φ true (.int a.length)):Ev G ρ (fq xj (bz ta bM)) Φ:=λnb σ H Q W z=>
 h nb σ H _ W λf v H1 d ⟨a,e,hl,q⟩ s1 hv=>by
  subst e;rw[hv.lJ];exact⟨a,rfl,hl,z true _ H1 _ q s1 (.int _)⟩
theorem OR{S:ax->Prop}{H:Hp}:∀{ys:List Str} {xs:List V},ah S H (ys.map .str) xs->xs=ys.map V.str
  |[],xs,h=>by unfold ah at h;exact h
  | y :: ys, xs, h => by
    unfold ah at h;obtain⟨v,vs,e,h1,h2⟩:=h;rw[e,h1.lJ,OR h2]
    rfl
theorem Ev.join(h:Ev G ρ ta λ_ x=>∃z,x= .str z/\Ev G ρ tb λ_ y=>∃ys:List Str,y= .list (ys.map .str)/\wt z ys=true/\Φ true (.str (g4 z ys))):Ev G ρ (lX K "str" rJoin ta (bz tb bM)) Φ:=λnb σ H Q W z=>
 h nb σ H _ W λf v H1 d ⟨a,e,q⟩ s1 hv=>by
  subst e;rw[hv.lJ];refine⟨rfl,q nb σ H1 _ (W.step s1) λg u H2 y ⟨ys,o,hok,p⟩ s2 hu=>?_⟩;subst o;obtain⟨b,xs,rfl,n,hx,hd⟩:=hu.eN;have ex:=OR hd;subst ex;exact⟨a,b,ys,rfl,rfl,hx,hok,z true _ H2 _ p (s1.trans s2) ue⟩
end
end L2
namespace L2
open PySem PySem.Spec PyProof.Rows Builtin.Str
def xK(x y:Str):Prop:=(y.length==0)=false/\x.length<=sizeLine/\(partsBetween x (occurrences x y 0 x.length (x.length+1)) y.length).length<=sizeLine
theorem Vt{prog:bg}{w:cq}{A:cx}{E:ag->ar->Prop}{s:ar}{x y:Str}{t u:Tok}{Q:ag->ar->Prop}(ok:xK x y)
  (fin:∀(l:List (Str×Tok)) (k:Nat),l.map (·.1)=hM x y->Q (.ref s.heap.objs.size) {s with heap:=s.heap.push {cls:= .type "list",data:= .seq (rD l).toArray},toks:=k}):wpAny (be prog w) A (call (.builtin "str.split") [.str x t, .str y u]) Q E s:=by
 obtain⟨o1,o2,a⟩:=ok;have sl:=Iv;by_cases c1:(decide (x.length<y.length)||decide (strKind x<strKind y))=true
 .refine l6 sl (j2 _ _ _) Bq (Fp _ _) (meets_str_split_cannot_occur x y t u c1) ?_;exact fin [(x,t)] s.toks (if_pos c1).symm
 have n1:=rP.mpr c1;by_cases c2:(occurrences x y 0 x.length (x.length+1)).isEmpty=true
 .refine l6 sl (j2 _ _ _) Bq (Fp _ _) (meets_str_split_not_found x y t u n1 o1 c2) ?_;exact fin [(x,t)] s.toks ((if_neg c1).trans (if_pos c2)).symm
 have n2:=rP.mpr c2;refine l6 sl (j2 _ _ _) Bq (Fp _ _) (meets_str_split_sep x y t u n1 o1 n2 o2 a) ?_;have f:=fin (numbered s.toks (partsBetween x (occurrences x y 0 x.length (x.length+1)) y.length)) (s.toks+(partsBetween x (occurrences x y 0 x.length (x.length+1)) y.length).length) ((numbered_texts _ _).trans ((if_neg c1).trans (if_neg c2)).symm);rw[<-strsFrom_eq] at f;exact f
def HF:V->List V->Hp->VK->Prop:=λx vs H Q=>∃z y,x= .str z/\vs=[.str y]/\xK z y/\(hM z y).length<=sizeLine/\∀p,H p=none->Q (.ref p) (upd H p (.lst ((hM z y).map .str)))
theorem LO:∀(l:List (Str×Tok)),Vals ((l.map (·.1)).map V.str) (rD l)
 |[]=> .nil
 |p::l=> .cons ⟨p.2,rfl⟩ (LO l)
theorem Mz{X:Cx}:pM X "str.split" HF:=by
 intro pins s σ H x vs v us Q I rx rv h;obtain⟨z,y,rfl,rfl,ok,J,q⟩:=h;obtain⟨t,rfl⟩:=rx;obtain⟨u,rfl,ru⟩:=rv.one;obtain⟨t',rfl⟩:=ru;refine Vt ok λl k e=>?_;refine⟨.ref s.heap.objs.size,_,I.laid (t':=k) (o:= .lst ((hM z y).map .str)) (λb ob q=>bW _ q) (aH _) ?_,rfl,q _ (I.hok.fresh (aH _))⟩;refine⟨by rw[ak];exact J,rD l,0,?_,fT _ rfl⟩;rw[<-e];exact LO l
theorem JS{S:ax->Prop}{H:Hp}:∀ys:List Str,ah S H (ys.map .str) (ys.map V.str)
 |[]=> .nil
 |y::ys=> .cons ue (JS ys)
theorem aq.split{G:Gx}{ρ:Rh}{ta tb:TE}{K:PySem.W.Frag}{Θ:Bool->List PyData->Prop}(h:Ev G ρ ta λ_ x=>∃a,x= .str a/\Ev G ρ tb λ_ y=>∃b,y= .str b/\xK a b/\(hM a b).length<=sizeLine/\Θ true ((hM a b).map .str)):aq G ρ (lX K "str" HF ta (bz tb bM)) Θ:=λnb σ H Q W z=>
 h nb σ H _ W λf v H1 d ⟨a,e,q⟩ s1 hv=>by
  subst e;rw[hv.lJ];refine⟨rfl,q nb σ H1 _ (W.step s1) λg u H2 y ⟨b,o,ok,J,p⟩ s2 hu=>?_⟩;subst o;rw[hu.lJ];refine⟨a,b,rfl,rfl,ok,J,λc hc=>?_⟩;have R:H c=none:=W.none_of (s1.trans s2) hc;refine z true c _ _ _ p ((s1.trans s2).trans (.same ((W.step (s1.trans s2)).az) (cL hc))) R bx ?_;exact JS _
end L2
namespace L2
open PySem PySem.Spec PyProof.Rows PySem.NumText
section
variable{x:Str}{i:Int}
theorem VM(h0:0<=i):(wi x (some i) none).cps.toList=x.cps.toList.drop i.toNat:=by
 by_cases h:i<=x.length
 .rw[slice_from_eq h0 h rfl];show hJ _ _=_;rw[rV];rw[rF];have:x.cps.toList.length=x.length:=by simp[eQ]
  omega
 .rw[slice_beyond ∅];have:x.cps.toList.length=x.length:=by simp[eQ]
  rw[List.drop_eq_nil_of_le ∅]
  rfl
theorem Ow(c:Nat):i7 x ⟨#[c]⟩=decide (x.cps.toList.head?=some c):=by
  obtain⟨⟨l⟩⟩:=x;cases l with
  |nil=>rfl
  | cons a r =>
    unfold i7 y8;by_cases e:a=c
    · subst e
      simp[eQ]
    · simp[eQ,e]
end
theorem wL{x y:Str}(h:x.cps.toList=y.cps.toList):x=y:=by
 obtain⟨a⟩:=x;obtain⟨b⟩:=y
 congr 1
 exact Array.toList_inj.mp h
noncomputable def CY:Str:="0123456789"
theorem Uc(c:Nat):(!(eD CY ⟨#[c]⟩ 0 CY.length 1).isEmpty)=decide (48<=c/\c<=57):=by
 rw[StrLaws.found_one,show CY.cps.toList=[48,49,50,51,52,53,54,55,56,57] by decide];rw[mS,decide_eq_true_eq,decide_eq_true_eq];simp only[aK,cC,or_false];omega
noncomputable def gR(x:Str):List Nat:=if x.cps.toList.head?=some 45 then x.cps.toList.drop 1 else x.cps.toList
def pG(x:Str)(j:Int):Prop:=gR x≠[]/\((gR x).length:Int)<=j/\lh (gR x)/\¬((gR x).head?=some 48/\1<x.length)
open Classical in
noncomputable def rE(x:Str)(j:Int):Option Int:=if pG x j then PySem.intText? x else none
theorem OQ{x:Str}{j:Int}(h:pG x j)(hl:x.length<=640):∃n,PySem.intText? x=some n:=by
 obtain⟨h1,h2,h3,h4⟩:=h;unfold gR at h1 h2 h3;by_cases c:x.cps.toList.head?=some 45
 .rw[if_pos c] at h1 h3;obtain⟨cs,m⟩:∃cs,x.cps.toList=45::cs:=by
   cases e:x.cps.toList with
   |nil=>rw[e] at c;cases c
   |cons a r=>rw[e] at c;cases c;exact⟨r,rfl⟩
  rw[m] at h1 h3;exact⟨_,PySem.intText_neg m h3 h1 ∅⟩
 .rw[if_neg c] at h1 h3;exact⟨_,Ko h3 h1 ∅⟩
theorem Hx{x:Str}{j n:Int}(h:pG x j)(e:PySem.intText? x=some n):rE x j=some n:=by unfold rE;rw[if_pos h,e]
theorem Qu{x:Str}{j:Int}(h:¬pG x j):rE x j=none:=by unfold rE;rw[if_neg h]
end L2
namespace L2
open PySem PySem.Spec PyProof.Rows PySem.NumText
noncomputable abbrev sg(c:Nat):Str:=⟨#[c]⟩
theorem join_eq(a:Str)(ys:List Str):g4 a ys=nf a ys:=StrLaws.glued_eq_join a ys
theorem Bi(c:Nat):∀(a:Str) (r:List Str),(nf (sg c) (a::r)).cps.toList=a.cps.toList++(r.map λy=>c::y.cps.toList).flatten
  |a,[]=>by rw[mP,xJ,fY];rfl
  | a, b :: r => by
    have ih:=Bi c b r;show((a.cps++(sg c).cps)++(nf (sg c) (b::r)).cps).toList=_;rw[gZ,gZ,ih,bN,qO];simp[sg]
theorem Zx{c:Nat}:∀{A B:List Str},A≠[]->B≠[]->(∀a∈A,c∉a.cps.toList)->(∀b∈B,c∉b.cps.toList)->nf (sg c) A=nf (sg c) B->A=B:=by
  have cut:∀{x y s t:List Nat},c∉x->c∉y->x++(c::s)=y++(c::t)->x=y/\s=t:=by
    intro x;induction x with
    | nil =>
      intro y s t _ hy e;cases y with
      |nil=>exact⟨rfl,by simpa using e⟩
      |cons b y=>simp at e;exact absurd (by rw[e.1];exact dj) hy
    | cons a x ih =>
      intro y s t hx hy e;cases y with
      |nil=>simp at e;exact absurd (by rw[<-e.1];exact dj) hx
      | cons b y =>
        simp at e;obtain⟨J,O⟩:=ih (λz=>hx (cS _ z)) (λz=>hy (cS _ z)) e.2;exact⟨by rw[e.1,J],O⟩
  intro A;induction A with
  |nil=>intro B h;exact absurd rfl h
  | cons a r ih =>
    intro B _ hB hA hb e;cases B with
    |nil=>exact absurd rfl hB
    | cons b t =>
      have e2:=congrArg (λx:Str=>x.cps.toList) e;rw[Bi,Bi] at e2;have ha:=hA a dj;have vV:=hb b dj;cases r with
      | nil =>
        cases t with
        |nil=>rw[mP,xJ,fY,fY] at e2;rw[wL e2]
        | cons d t =>
          rw[mP,xJ,fY,bN,qO] at e2;exact absurd (by rw[e2];exact jB _ (by simp)) ha
      | cons r0 r =>
        cases t with
        | nil =>
          rw[mP,xJ,fY,bN,qO] at e2;exact absurd (by rw[<-e2];exact jB _ (by simp)) vV
        | cons t0 t =>
          rw[bN,qO,bN,qO,kU,kU] at e2;obtain⟨J,O⟩:=cut ha vV e2;have:=ih (B:=t0::t) (by simp) (by simp) (λx hx=>hA x (cS _ hx)) (λx hx=>hb x (cS _ hx)) (wL (by rw[Bi,Bi];exact O));rw[wL J,this]
theorem Jw{c:Nat}{A:List Str}(hA:A≠[])(h:∀a∈A,c∉a.cps.toList):hM (g4 (sg c) A) (sg c)=A:=by
 rw[join_eq];refine Zx (c:=c) ?_ hA (StrLaws.split_free _ c) h (StrLaws.join_split _ _);intro z;have:=split_pos (nf (sg c) A) (sg c);rw[z] at this;exact absurd this ⋯
theorem HA{x:Str}{c:Nat}(h:x.length+2<=sizeLine):xK x (sg c)/\(hM x (sg c)).length<=sizeLine:=by
 refine⟨⟨rfl,∅,?_⟩,eS (split_le x (sg c)) h⟩;have h1:=StrLaws.occ_length_le_len x (sg c) 0 x.length (x.length+1);unfold uj;simp;omega
noncomputable abbrev nS(n:Int):Str:=dA (toString n)
theorem LY(n:Int){c:Nat}(h:c≠45/\(c<48\/57<c)):c∉(nS n).cps.toList:=λz=>int_text_free' c h n z
theorem Lc(m:Nat):lh ((cv 10 m).map fA):=λc hc=>by
 obtain⟨ch,a,e⟩:=dG.mp hc;rw[<-e];exact digit_range (Nat.isDigit_of_mem_toDigits ⋯ ⋯ a)
theorem To(m:Nat):(nS (m:Int)).cps.toList=(cv 10 m).map fA:=PySem.W.KIN.signs_num m
theorem QY(m:Nat):(nS (-((m:Int)+1))).cps.toList=45::(cv 10 (m+1)).map fA:=by
 have e:(-((m:Int)+1))=Int.negSucc m:=∅
 rw[e];unfold nS;rw[signs_ofString];show("-" ++Nat.repr (m+1)).toList.map fA=_;rw[String.toList_append,cI,Nat.toList_repr]
 rfl
theorem Jx:∀(k m:Nat),1<=k->m<10^k->(cv 10 m).length<=k:=by
  intro k;induction k with
  |zero=>intro m h;omega
  | succ k ih =>
    intro m _ hm;by_cases h:m<10;· rw[Cr h];simp
    · have h2:m%10<10:=rG m ⋯
      have t:cv 10 (m/10)++cv 10 (m%10)=cv 10 (10*(m/10)+m%10):=O2 ⋯ ∅ h2;rw[tD] at t;have hk:1<=k:=C7 λz=>by subst z;simp at hm;omega
      have:=ih (m/10) hk (by rw[wa] at hm;omega);rw[<-t,cK,Cr h2];simp;omega
theorem Oh(m:Nat):(cv 10 m).map fA≠[]/\(((cv 10 m).map fA).head?=some 48->m=0):=by
  induction m using rB with
  | _ m ih =>
    by_cases h:m<10
    · rw[Cr h]
      refine⟨by simp,λz=>?_⟩;have e:=PySem.W.KIN.digit_back m h;simp at z;omega
    · have h2:m%10<10:=rG m ⋯
      have t:cv 10 (m/10)++cv 10 (m%10)=cv 10 (10*(m/10)+m%10):=O2 ⋯ ∅ h2;rw[tD] at t;obtain⟨G,C⟩:=ih (m/10) ∅;rw[<-t,cI];refine⟨by simp[G],λz=>?_⟩;rw[List.head?_append] at z;cases e:((cv 10 (m/10)).map fA).head? with
      |none=>exact absurd (List.head?_eq_none_iff.mp e) G
      | some c =>
        rw[e] at z;cases z;have:=C e;omega
theorem rW{n:Int}(h:n.natAbs<10^60):rE (nS n) 60=some n/\(nS n).length<=61/\1<=(nS n).length:=by
  have hcl:(nS n).cps.toList.length=(nS n).length:=by simp[eQ]
  rcases Int.lt_or_le n 0 with hn|hn
  · obtain⟨m,rfl⟩:∃m:Nat,n= -((m:Int)+1):=⟨(-n-1).toNat,∅⟩
    have e:=QY m;have hd:=Lc (m+1);obtain⟨h1,h2⟩:=Oh (m+1);have hl:=Jx 60 (m+1) ⋯ ∅;have hlen:(nS (-((m:Int)+1))).length=(cv 10 (m+1)).length+1:=by rw[<-hcl,e];simp
    have hf:gR (nS (-((m:Int)+1)))=(cv 10 (m+1)).map fA:=by unfold gR;rw[e];rfl
    have hi:=PySem.intText_neg e hd h1 (by rw[hlen];omega);rw[JE] at hi;refine⟨Hx ⟨by rw[hf];exact h1,by rw[hf,ak];omega,by rw[hf];exact hd,λz=>?_⟩ (hi.trans (by congr 1)),∅,∅⟩;rw[hf] at z;have:=h2 z.1;omega
  · obtain⟨m,rfl⟩:=B5 hn
    have e:=To m;have hd:=Lc m;obtain⟨h1,h2⟩:=Oh m;have hl:=Jx 60 m ⋯ ∅;have hl1:=vf.mpr h1;rw[ak] at hl1;have hlen:(nS (m:Int)).length=(cv 10 m).length:=by rw[<-hcl,e];simp
    have hf:gR (nS (m:Int))=(cv 10 m).map fA:=by
      unfold gR;rw[e,if_neg];intro z;cases L:(cv 10 m).map fA with
      |nil=>exact h1 L
      | cons c r =>
        rw[L] at z;cases z;have:=hd 45 (by rw[L];exact dj);omega
    have hi:=Ko (x:=nS (m:Int)) (by rw[e];exact hd) (by rw[e];exact h1) (by rw[hlen];omega);rw[e,JE] at hi;refine⟨Hx ⟨by rw[hf];exact h1,by rw[hf,ak];omega,by rw[hf];exact hd,λz=>?_⟩ hi,∅,∅⟩;rw[hf] at z;have h0:=h2 z.1;subst h0;have:=z.2;rw[hlen] at this;exact absurd this ⋯
def vG:List V->Hp->VK->Prop:=λxs H Q=>∃i,xs=[.int i]/\i.natAbs.log2<1920/\Q (.str (nS i)) H
theorem RG{X:Cx}:fK X (.type "str") vG:=Ws
def Gm(K:PySem.W.Frag)(tl:TE):TI:=λσ H R=>oH K tl σ H R\/yG K tl σ H R
theorem Wu{X:Cx}{K:PySem.W.Frag}{tg l:et}{tl:TE}(c:X.K=K)(hl:PE X l tl):PI X tg l (Gm K tl):=by
 subst c;intro pins s σ H R I h;rcases h with h|h
 .exact M8 hl pins s σ H R I h
 .exact XC hl pins s σ H R I h
section
variable{G:Gx}{ρ:Rh}{te ta:TE}{gt:TG}{tc:TT}{mp:List (Option Nat)}{K:PySem.W.Frag}{Θ:Bool->List PyData->Prop}{Φ:Pd}
theorem aq.Jt(h:aq G ρ (jK (oH K ta) gt tc te mp) Θ):aq G ρ (jK (Gm K ta) gt tc te mp) Θ:=λnb σ H Q W z=> .inl (h nb σ H Q W z)
theorem aq.HI(h:aq G ρ (jK (yG K ta) gt tc te mp) Θ):aq G ρ (jK (Gm K ta) gt tc te mp) Θ:=λnb σ H Q W z=> .inr (h nb σ H Q W z)
theorem Ev.UU(h:Ev G ρ ta λ_ x=>∃i,x= .int i/\i.natAbs<10^60/\Φ true (.str (nS i))):Ev G ρ (fq vG (bz ta bM)) Φ:=λnb σ H Q W z=>
 h nb σ H _ W λf v H1 d ⟨i,e,hi,q⟩ s1 hv=>by
  subst e;rw[hv.cP];refine⟨i,rfl,?_,z true _ H1 _ q s1 ue⟩;by_cases c:i.natAbs=0;·rw[c];decide
  .exact eK (DU c|>.mpr (eK hi (by decide:10^60<=2^200))) ⋯
end
noncomputable def eT(first:Str)(b:List Str):Str:=g4 (sg 32) (first::b)
theorem RP{first:Str}{b:List Str}(h1:32∉first.cps.toList)(h2:∀o∈b,32∉o.cps.toList):hM (eT first b) (sg 32)=first::b:=
 Jw (by simp) λa ha=>(aK.mp ha).elim (λe=>e▸h1) (h2 a)
noncomputable def pT(ys:List Str):Nat:=(ys.map (·.length)).sum
theorem join_le(c:Nat)(a:Str)(r:List Str):(g4 (sg c) (a::r)).length=a.length+pT r+r.length:=by
  have e:=congrArg mf (Bi c a r);rw[<-join_eq] at e;have h1:(g4 (sg c) (a::r)).cps.toList.length=(g4 (sg c) (a::r)).length:=by simp[eQ]
  have h2:a.cps.toList.length=a.length:=by simp[eQ]
  have h3:∀r:List Str,((r.map λy=>c::y.cps.toList).flatten).length=pT r+r.length:=by
    intro r;induction r with
    |nil=>rfl
    | cons b r ih =>
      have h4:b.cps.toList.length=b.length:=by simp[eQ]
      have h5:pT (b::r)=b.length+pT r:=by unfold pT;rw[bN,vk]
      rw[bN,qO,cK,ih,eB,h4,h5,eB];omega
  rw[cK,h3] at e;omega
theorem Bz{c B:Nat}{ys:List Str}(O:∀y∈ys,y.length<=B)(h:ys.length*B+ys.length<=16777216):wt (sg c) ys=true:=by
 unfold wt;rw[n4];exact StrLaws.joinFits O (by show _+_*1<=_;omega)
theorem rO{B:Nat}:∀{ys:List Str},(∀y∈ys,y.length<=B)->pT ys<=ys.length*B
  |[],_=>fj _
  | y :: ys, h => by
    have:=rO (ys:=ys) λz hz=>h z (cS _ hz);have h1:=h y dj;unfold pT at this⊢;rw[bN,vk,eB,Nat.succ_mul];omega
section
variable{G:Gx}{ρ:Rh}{te:TE}{E:DE}{i:Nat}
theorem Sv.XW{Ψ:V->dH->Prop}{B:ax}{ds:List PyData}(j:Nat)(t:j≠i)(s:j<ρ.length)(hE:E.rw=(FT G Ψ).rw)(R:ρ[i]?=some (.own B true ds))(h:aq G ρ te λg es=>g=true/\∀c a1,c≠B->c≠a1->B≠a1->Ψ (.ref c) [(c, .tup [.own B, .own a1]),(B, .lst (ds.map .dat)),(a1, .lst (es.map .dat))]):
  Sv G ρ (kY (o7 (bz (cH i) (bz te bM)))) E:=λnb σ H D W KK=>by
 obtain⟨T,n,F,C,P,L,v,K⟩:=W.ok i _ R;subst F;refine⟨.ref B,n,?_⟩;refine h nb σ H _ W λg a1 O H1 es ⟨f,p⟩ s1 k nE hd1=>?_;subst f;refine⟨by show 2<=sizeLine;decide,λc hc=>?_⟩;have W1:=vg (i:=j) W s1 k nE hd1;obtain⟨x2,g2,Q,m,u,xs,hx,r⟩:=W1.ok i (.own B true ds) (by rw[bO t];exact R);obtain⟨x3,N,M,w,I,ys,hy,J⟩:=W1.ok j (.own a1 true es) (by rw[cW s]);have d:B≠a1:=λz=>by rw[z,k] at v;cases v
 have e:c≠B:=λz=>by rw[z,hx] at hc;cases hc
 have U:c≠a1:=λz=>by rw[z,hy] at hc;cases hc
 have qT:cA H1 (upd H1 c (.tup [.ref B, .ref a1])):=cL hc;have W2:=W1.step (Step.same W1.az qT)
 suffices hh:qY G.H0 (upd H1 c (.tup [.ref B, .ref a1])) [(c, .tup [.own B, .own a1]),(B, .lst (ds.map .dat)),(a1, .lst (es.map .dat))] from KK.rw _ _ _ _ _ (by rw[hE];exact⟨_,p c a1 e U d,hh⟩) W2
 have a:[(c,OO.tup [.own B, .own a1]),(B, .lst (ds.map .dat)),(a1, .lst (es.map .dat))].map (·.1)=[c,B,a1]:=rfl;have hN:∀b,b=c\/b=B\/b=a1->G.H0 b=none:=λb z=>by
  rcases z with z|z|z
  .subst z;cases q:G.H0 b with
   |none=>rfl
   |some o=>rw[W1.old b o (NB.new W1.az hc) q] at hc;cases hc
  .subst z;exact W1.dg b m u
  .subst z;exact W1.dg b w I
 have sub:∀b,(G.H0 b≠none\/b∈[c,B,a1])->(G.S (λx=>nb x\/x=a1) true b\/b=c):=λb z=>by
  rcases z with z|z
  .exact .inl (.inr (.inr (.inr ⟨rfl,z⟩)))
  .simp at z;rcases z with z|z|z
   .exact .inr z
   .exact .inl (.inl (z▸m))
   .exact .inl (.inl (z▸w))
 have up:∀{x:Oi} {y:V},fh (G.S (λx=>nb x\/x=a1) true) H1 x y->fh (λb=>G.H0 b≠none\/b∈[c,B,a1]) (upd H1 c (.tup [.ref B, .ref a1])) x y:=λ{x y} q=>((q.fresh hc).av sub).keep (aY.of qT);refine⟨λb z=>hN b (by rw[a] at z;simpa using z),?_,λb o l=>?_⟩
 .rw[a];simp[e,U,d]
 rw[a];by_cases h1:b=c
 .subst h1;rw[bJ,beq_self_eq_true] at l;cases l;exact⟨_,bx, .cons rfl (.cons rfl .nil)⟩
 .rw[bJ,beq_false_of_ne h1] at l;by_cases h2:b=B
  .subst h2;rw[bJ,beq_self_eq_true] at l;cases l;exact⟨xs,by rw[bq h1];exact hx,(fO.pN r).imp λx y q=>up q⟩
  .rw[bJ,beq_false_of_ne h2] at l;by_cases h3:b=a1
   .subst h3;rw[bJ,beq_self_eq_true] at l;cases l;exact⟨ys,by rw[bq h1];exact hy,(fO.pN J).imp λx y q=>up q⟩
   .rw[bJ,beq_false_of_ne h3] at l;cases l
end
end L2
namespace L2
inductive FC where
 |lt (a b:Int)|ck (prs:aA) (r:Int)
noncomputable abbrev DX:=List (Int×FC)
structure Pc where
 wd:Wo
 wh:Int->Option PyData
structure Po(L:dH)(o o1 o2:ax)(m:Int)(ns gs:List Int):Prop where
 nd:[o,o1,o2].Nodup
 h0:L.lookup o=some (.lst [.dat (.int m), .own o1, .own o2])
 h1:L.lookup o1=some (.lst (ns.map λn=> .dat (.int n)))
 h2:L.lookup o2=some (.lst (gs.map λn=> .dat (.int n)))
variable{p n many:Int}{es:DX}
end L2
namespace L2
def uK(nb:ax->Prop)(H H':Hp)(L:dH):Prop:=(∀a∈L.map (·.1),H a=none)/\jC (λa=>nb a\/a∈L.map (·.1)) H' L
def rJ(n:Nat)(F:SF):Sp:=λvs H Q _=>vs.length=n/\∃(nb:ax->Prop) (ds:List PyData),iK nb H/\ah nb H ds vs/\F ds λv L=>∀H',cA H H'->uK nb H H' L->Q v H'
noncomputable def Lw(G:Gx)(Ψ:V->dH->Prop):DE where
 nx:=λ_=>False
 rt:=λ_ _=>False
 rw:=λ_ _ v H=>∃L,Ψ v L/\uK G.A G.H0 H L
section
variable{G:Gx}{ρ:Rh}{ta tb te:TE}{t:TA}{E:DE}{i j:Nat}{K:PySem.W.Frag}
theorem Sv.Hd{n:Nat}{F:SF}{Ψ:V->dH->Prop}(hE:E.rw=(FT G Ψ).rw)(hm:o6 F)(h:Av G ρ t λes=>es.length=n/\gz es=true/\F (es.map (·.2)) Ψ):Sv G ρ (kY (gm (rJ n F) [] E0 t)) E:=λnb σ H D W KK=>
 h nb σ H _ W λes vs H1 ⟨hl,hf,p⟩ s1 J=>by
  have W1:=W.step s1;show rJ n F (vs++[]) H1 _ E0;rw[fY];refine⟨by rw[J.len,hl],G.S nb (gz es),es.map (·.2),W1.gp,J.all λz=>z,hm _ _ _ p λv L hp H' sm ⟨f,hok⟩=>?_⟩;rw[hf] at hok;have W2:=W1.step (Step.same W1.az sm);have hN:∀b∈L.map (·.1),G.H0 b=none:=λb z=>by
   cases q:G.H0 b with
   |none=>rfl
   |some o=>have h1:=f b z;rw[W1.old b o (NB.new W1.az h1) q] at h1;cases h1
  refine KK.rw nb ρ σ v H' (by rw[hE];exact⟨L,hp,hN,hok.1,λa o e=>(hok.2 a o e).imp (λx y q=>q.av (S':=λb=>G.H0 b≠none\/b∈L.map (·.1)) λb z=>z.imp (λz=> .inr (.inr (.inr ⟨rfl,z⟩))) λz=>z) λ_ q=>q⟩) W2
theorem Sv.T3{N:List Str}{vs:List V}{ds:List PyData}{nb:ax->Prop}{H:Hp}{Q:VK}{Φ:V->dH->Prop}{b:TS}(hl:iK nb H)(hd:ah nb H ds vs)(I:∀v L H',Φ v L->cA H H'->uK nb H H' L->Q v H')
  (r:ρ=ds.map (Sl.d false)++cf (N.length-ds.length) .no) (h:Sv ⟨none,H,nb,[]⟩ ρ b (Lw ⟨none,H,nb,[]⟩ Φ)):b {nx:=λ_ H'=>Q .aL H',rt:=Q} (start N vs) H:=
 Ie (P:=λσ H1=>b {nx:=λ_ H'=>Q .aL H',rt:=Q} σ H1) hl hd r λaN σ H1 W=>h aN σ H1 _ W
  ⟨λ_ _ _ _ q _=>q.elim,λ_ _ _ _ q _=>q.elim,λ_ _ _ _ q _=>q.elim,λ_ _ _ _ _ _ _ q _ _=>q.elim,λc g k v H2 ⟨L,q,hn⟩ W2=>I v L H2 q (λa o e=>W2.old a o (λ_ _ z=>(by cases z)) e) hn⟩
theorem Sv.VF{Ψ:V->dH->Prop}{B:ax}{ds:List PyData}{f:Bool}(j:Nat)(t:j≠i)(s:j<ρ.length)(hE:E.rw=(Lw G Ψ).rw)(R:ρ[i]?=some (.own B f ds))(h:aq G ρ te λg es=>∀c a1,c≠B->c≠a1->B≠a1->Ψ (.ref c) [(c, .tup [.own B, .own a1]),(B, .lst (ds.map .dat)),(a1, .lst (es.map .dat))]):
  Sv G ρ (kY (o7 (bz (cH i) (bz te bM)))) E:=λnb σ H D W KK=>by
 obtain⟨T,n,F,C,P,L,v,K⟩:=W.ok i _ R;subst F;refine⟨.ref B,n,?_⟩;refine h nb σ H _ W λg a1 O H1 es p s1 k nE hd1=>?_;refine⟨by show 2<=sizeLine;decide,λc hc=>?_⟩;have W1:=vg (i:=j) W s1 k nE hd1;obtain⟨x2,g2,Q,m,u,xs,hx,r⟩:=W1.ok i (.own B f ds) (by rw[bO t];exact R);obtain⟨x3,N,M,w,I,ys,hy,J⟩:=W1.ok j (.own a1 g es) (by rw[cW s]);have d:B≠a1:=λz=>by rw[z,k] at v;cases v
 have e:c≠B:=λz=>by rw[z,hx] at hc;cases hc
 have U:c≠a1:=λz=>by rw[z,hy] at hc;cases hc
 have qT:cA H1 (upd H1 c (.tup [.ref B, .ref a1])):=cL hc;have W2:=W1.step (Step.same W1.az qT)
 suffices hh:uK G.A G.H0 (upd H1 c (.tup [.ref B, .ref a1])) [(c, .tup [.own B, .own a1]),(B, .lst (ds.map .dat)),(a1, .lst (es.map .dat))] from KK.rw _ _ _ _ _ (by rw[hE];exact⟨_,p c a1 e U d,hh⟩) W2
 have a:[(c,OO.tup [.own B, .own a1]),(B, .lst (ds.map .dat)),(a1, .lst (es.map .dat))].map (·.1)=[c,B,a1]:=rfl;have hN:∀b,b=c\/b=B\/b=a1->G.H0 b=none:=λb z=>by
  rcases z with z|z|z
  .subst z;cases q:G.H0 b with
   |none=>rfl
   |some o=>rw[W1.old b o (NB.new W1.az hc) q] at hc;cases hc
  .subst z;exact W1.dg b m u
  .subst z;exact W1.dg b w I
 have sub:∀g b,(G.A b\/b∈[c,B,a1])->(G.S (λx=>nb x\/x=a1) g b\/b=c):=λg b z=>by
  rcases z with z|z
  .exact .inl (.inr (.inl z))
  .simp at z;rcases z with z|z|z
   .exact .inr z
   .exact .inl (.inl (z▸m))
   .exact .inl (.inl (z▸w))
 have up:∀{g:Bool} {x:Oi} {y:V},fh (G.S (λx=>nb x\/x=a1) g) H1 x y->fh (λb=>G.A b\/b∈[c,B,a1]) (upd H1 c (.tup [.ref B, .ref a1])) x y:=λ{g x y} q=>((q.fresh hc).av (sub g)).keep (aY.of qT);refine⟨λb z=>hN b (by rw[a] at z;simpa using z),?_,λb o l=>?_⟩
 .rw[a];simp[e,U,d]
 rw[a];by_cases h1:b=c
 .subst h1;rw[bJ,beq_self_eq_true] at l;cases l;exact⟨_,bx, .cons rfl (.cons rfl .nil)⟩
 .rw[bJ,beq_false_of_ne h1] at l;by_cases h2:b=B
  .subst h2;rw[bJ,beq_self_eq_true] at l;cases l;exact⟨xs,by rw[bq h1];exact hx,(fO.pN r).imp λx y q=>up q⟩
  .rw[bJ,beq_false_of_ne h2] at l;by_cases h3:b=a1
   .subst h3;rw[bJ,beq_self_eq_true] at l;cases l;exact⟨ys,by rw[bq h1];exact hy,(fO.pN J).imp λx y q=>up q⟩
   .rw[bJ,beq_false_of_ne h3] at l;cases l
end
noncomputable def g9(c B a1:ax)(ms:List bf)(ls:List Int):dH:=[(c, .tup [.own B, .own a1]),(B, .lst ((ms.map cz).map .dat)),(a1, .lst ((ls.map a4).map .dat))]
theorem Fy{c B a1:ax}{ms:List bf}{ls:List Int}(h0:c≠B)(h1:c≠a1)(h2:B≠a1):jY (g9 c B a1 ms ls) (.own c) (.tuple [.list (ms.map cz), .list (ls.map .int)]):=by
 have l0:(g9 c B a1 ms ls).lookup c=some (.tup [.own B, .own a1]):=by unfold g9;simp
 have F:(g9 c B a1 ms ls).lookup B=some (.lst ((ms.map cz).map .dat)):=by unfold g9;rw[bJ,beq_false_of_ne h0.symm];simp
 have V:(g9 c B a1 ms ls).lookup a1=some (.lst ((ls.map a4).map .dat)):=by unfold g9;rw[bJ,beq_false_of_ne h1.symm];show ed a1 [_,_]=_;rw[bJ,beq_false_of_ne h2.symm];simp
 have pN:∀(ds:List PyData) (i:Nat) x d,(ds.map Oi.dat)[i]?=some x->ds[i]?=some d->jY (g9 c B a1 ms ls) x d:=λds i x d e1 e2=>by
  rw[cY,e2] at e1;cases e1;exact .dat d
 refine .tup l0 rfl λi x d e1 e2=>?_
 match i with
 |0=>cases e1;cases e2;exact .lst F (by simp) (pN _)
 |1=>cases e1;cases e2;exact .lst V (by simp) (pN _)
 |i+2=>cases e1
def Ox:R2:=λx y H Q=>∃a b ps,x= .ref a/\y= .ref b/\Rd H a (.dK ps)/\Rd H b (.dK [])/\Q (.bl ps.isEmpty) H
theorem YB{X:Cx}(hu:X.A.units+64<y2):dQ X (da .Eq) Ox:=by
  intro pins s σ H x y v u Q I rx ry h;obtain⟨a,b,ps,rfl,rfl,ha,hb,q⟩:=h;cases (show v=c3 a from rx);cases (show u=c3 b from ry);obtain⟨G,hd1,vs,z,l⟩:=pH I.hok ha;obtain⟨z2,o,us,n,g⟩:=pH I.hok hb;have C:us=[]:=by have:=n.length;simpa using this.symm
  subst C;show wpAny _ _ (richCompare .Eq (.ref a) (.ref b)) _ _ _;refine wpAny_richCompare_same_room (T:="dict") (id:="dict.__eq__") l.typeIs g.typeIs Ji ?_ ∅;refine c5 Ji l.typeIs PySem.F.entry_dict_eq ?_ (PySem.F.args_dict_eq_2 _ _);have e:fH "__eq__" ⟨[.ref a, .ref b],[]⟩=pure (.ref a, .ref b):=by
    unfold fH
    rfl
  unfold hZ.«dict.__eq__»;refine ae (m:=fH "__eq__" _) ?_;rw[e];refine aw ?_;refine ae (lr (T:="dict") (U:="dict") (b:=true) g.typeIs (by rfl) ?_);refine ae (m:=mr (.ref a)) (aw ?_);refine ae (m:=mr (.ref b)) (aw ?_);obtain⟨oa,es,ep,w,xa,k,ka,i,na⟩:=l;obtain⟨ob,fs,eq,D,xb,db,kb,B,nb⟩:=g;have r:fs.size=0:=by have:=B.length;rw[dI] at this;simpa using this
  have j:es.size=ps.length:=by have:=i.length;rw[dI] at this;rw[this];exact z.length.symm
  have key:∀{d:Bool->ar->Prop} {c:ag->ar->Prop} {M:Model} {t:cx},d ps.isEmpty s->wpAny M t (lS "dict.__eq__" a b) d c s:=λ{d c M t} hq=>by
    unfold lS;refine ae (m:=dk a) ?_;rw[show dk a=pure () by unfold dk;rw[if_neg (by rw[hd1];decide)]];refine aw ?_;refine ae (m:=dk b) ?_;rw[show dk b=pure () by unfold dk;rw[if_neg (by rw[o];decide)]];refine aw ?_;refine ae (oC w k ?_);refine ae (oC D db ?_);rw[r,j];cases ps with
    | nil =>
      rw[if_neg ⋯];refine ae (wpAny_dictEpoch w k ?_);have R:∀(f:Nat->Option Bool×Unit->Sem (ForInStep (Option Bool×Unit))),forIn [:([]:List (Key×V)).length] ((none,()):Option Bool×Unit) f=pure (none,()):=λf=>by
        rw[show[:([]:List (Key×V)).length]=[:0] from rfl];simp
      rw[R];exact ae (aw (aw hq))
    | cons p ps =>
      rw[if_pos (by simp)];exact ae (m:=rule _) (eP (aw hq))
  refine ae (key ?_);refine aw ⟨_,rfl,by simp, .bl _,H,I,rfl,?_⟩;rw[show(ps.isEmpty==true)=ps.isEmpty by cases ps<;>rfl];exact q
theorem Ev.Fn{G:Gx}{ρ:Rh}{Φ:Pd}{i:Nat}{a:ax}{f:Bool}{ks:Ks}(e:ρ[i]?=some (.bR a f ks))(h:Φ true (.bool ks.isEmpty)):Ev G ρ (dM Ox (cH i) Eg) Φ:=λnb σ H Q W z=>by
  obtain⟨x,e1,h1,h2,h3,ps,hp,hd⟩:=W.ok i _ e;subst h1;refine⟨.ref a,e1,?_⟩;intro p hpn;have b:a≠p:=λe=>by
    subst e;rw[hpn] at hp;cases hp
  have hlen:ps.length=ks.length:=by have:=congrArg mf (aB.keys hd);simpa using this
  refine⟨a,p,ps,rfl,rfl, .inl (by rw[bq b];exact hp), .inl bx,?_⟩;have e:ps.isEmpty=ks.isEmpty:=by
    cases ps with
    | nil => cases ks with
      |nil=>rfl
      |cons=>simp at hlen
    | cons => cases ks with
      |nil=>simp at hlen
      |cons=>rfl
  rw[e];exact z true _ _ _ h (.same W.az (cL hpn)) (.bl _)
theorem R7{G:Gx}{ρ:Rh}{nb:ax->Prop}{σ:qg}{H H1:Hp}{a:ax}{xs:List V}(W:Wd G nb ρ σ H)(s1:Step G.B H H1)(ha:H a=none)(e:H1 a=some (.lst xs)):Wd G (λx=>nb x\/x=a) ρ σ H1:=by
  have hA:∀f x,G.S (λx=>nb x\/x=a) f x->(G.S nb f x\/x=a):=λf x z=>by
    rcases z with (z|z)|z|z|z
    · exact .inl (.inl z)
    · exact .inr z
    · exact .inl (.inr (.inl z))
    · exact .inl (.inr (.inr (.inl z)))
    · exact .inl (.inr (.inr (.inr z)))
  have W1:=W.step s1;refine⟨W1.az,λx n=>?_,W1.old,λx n q=>?_,W.gA,W.len,W.gB,λh m=>(((W.eu h m).fresh ha).keep (s1.but λx z=> .inl (.inr (.inr (.inl z))))).av (hA h.1),λj s e'=>?_,W.apart,W.gJ,W.eG⟩
  · rcases n with n|n
    · exact W1.live x n
    · subst n;rw[e];exact ie _
  · rcases n with n|n
    · exact W.dg x n q
    · subst n
      cases z:G.H0 x with
      |none=>rfl
      |some o=>rw[W.old x o q z] at ha;cases ha
  · obtain⟨x,e1,h⟩:=W.ok j s e'
    refine⟨x,e1,?_⟩;cases s with
    |no=>trivial
    |d f d=>obtain⟨v,e,h⟩:=h;exact⟨v,e,((h.fresh ha).keep (s1.but λx z=> .inl (.inr (.inr (.inl z))))).av (hA f)⟩
    |own c f es=>obtain⟨e,n,q,xs,hx,hd⟩:=h;exact⟨e, .inl n,q,xs,s1.1 _ _ q hx,((hd.fresh ha).keep (s1.but λx z=> .inl (.inr (.inr (.inl z))))).av (hA f)⟩
    |az=>exact h
    |raw v=>exact h
    |bR c f es=>obtain⟨e,n,q,xs,hx,hd⟩:=h;exact⟨e, .inl n,q,xs,s1.1 _ _ q hx,((hd.fresh ha).keep (s1.but λx z=> .inl (.inr (.inr (.inl z))))).av (hA f)⟩
    | cu c =>
      obtain⟨e,n,q⟩:=h;refine⟨e,λa ha=>⟨.inl (n a ha).1,(n a ha).2⟩,c.av (hA c.f) (c.keep (.of λx o hx e=>s1.1 x o ?_ e) (c.fresh ha q))⟩;rcases hx with hx|hx
      · exact jS λz=>hx (.inl (.inr (.inr (.inl z))))
      · exact(n x hx).2
theorem Sv.SQ{G:Gx}{ρ:Rh}{te b:TE}{i j:Nat}{E:DE}(h:aq G ρ te λf es=>∀A,Ev G ρ b λg d=>E.nx ((ρ.set i (.own A f es)).set j (.d g d))):Sv G ρ (Kv i j (bz te (bz b bM))) E:=λnb σ H D W KK=>by
 refine h nb σ H _ W λf a xs H1 es p s1 ha hx hd=>?_;have W2:=R7 W s1 ha hx;refine p a _ σ H1 _ W2 λg v H2 d q s2 hv=>?_;exact⟨.ref a,v,rfl,KK.nx _ _ _ H2 q (((vg (i:=i) W s1 ha hx hd).step s2).nh hv)⟩
end L2
namespace K97
open PySem L2
noncomputable def top(i:Nat):fb:=PySem.Challenge.pw_fewchecks_k97_whole_papers_of_rounds.main.body.getD i (.Pass ⟨0,0,0,0⟩)
noncomputable abbrev DB:fb:=top 5
noncomputable abbrev DM:fb:=top 6
noncomputable abbrev Hh:fb:=top 7
noncomputable abbrev AD:fb:=top 9
noncomputable abbrev Bp:fb:=top 11
noncomputable abbrev z7:fb:=top 12
noncomputable abbrev AS:fb:=top 13
noncomputable abbrev z4:fb:=top 14
noncomputable abbrev Gh:fb:=top 16
noncomputable abbrev Br:fb:=top 20
noncomputable abbrev yo:fb:=top 21
noncomputable abbrev BC:fb:=top 22
noncomputable abbrev EB:fb:=top 23
noncomputable abbrev yz:fb:=top 24
noncomputable abbrev CG:fb:=top 26
noncomputable abbrev GA:fb:=top 27
noncomputable abbrev GG:fb:=top 28
noncomputable abbrev GR:fb:=top 29
noncomputable abbrev vD:fb:=top 30
noncomputable abbrev yM:fb:=top 31
noncomputable abbrev zl:fb:=top 32
noncomputable abbrev Dg:fb:=top 33
noncomputable abbrev wU:fb:=top 35
noncomputable abbrev CP:fb:=top 36
noncomputable abbrev Gn:fb:=top 37
noncomputable abbrev yu:fb:=top 38
noncomputable abbrev zS:fb:=top 39
noncomputable abbrev BB:fb:=top 40
noncomputable abbrev DK:fb:=top 41
noncomputable abbrev wY:fb:=top 42
noncomputable abbrev tw:fb:=top 43
noncomputable abbrev uZ:fb:=top 44
noncomputable abbrev tY:fb:=top 45
noncomputable abbrev yE:fb:=top 46
noncomputable abbrev za:fb:=top 47
noncomputable abbrev zQ:fb:=top 48
noncomputable abbrev xF:fb:=top 49
noncomputable abbrev zh:fb:=top 50
noncomputable abbrev AE:fb:=top 51
noncomputable abbrev u7:fb:=top 52
noncomputable abbrev E3:fb:=top 53
noncomputable abbrev zg:fb:=top 54
noncomputable abbrev l8:fb:=top 55
noncomputable abbrev rR:fb:=inClass (top 15) 0
noncomputable abbrev qX:fb:=inClass (top 15) 1
noncomputable abbrev qz:fb:=inClass (top 15) 2
noncomputable abbrev qi:fb:=inClass (top 15) 5
abbrev WI:Prop:=∀{l:PySem.W.OpenLaw} {w:cq} {K:PySem.W.Frag} {h:eC} {mg:Str->Option ag} {fa:ax} {f0 f1 f2 f3 f4 f5 f6 f7 f8 f9 Of Jc Kh OP LW PR PZ Ij Ip IM Qf M5 Pu Na MY I0 Pq JJ Kz Nr OT Kl f32 Nd Nt KY Nf N9 OF M9 PJ NN Ak q8 rZ qB sA:ax} (X:K.In h) (G:h.Ns bj mg) (HU:mg "law"=some (.ref fa))
  {Mm CV:Option ax} {NQ:Array (Option ag)} {P9 GQ Ct GB vS DI:ag} {PK MC:Option ax} {Od:Array (Option ag)} {Qo LJ K5 MH EU N6:ag} {HB Qn:Option ax} {KO:Array (Option ag)} {M1 PM MT Pb CO OY:ag} {NC ON:Option ax} {Pp:Array (Option ag)} {IC Jd NG Mi CN HG:ag} {Jf JP:Option ax} {IW:Array (Option ag)} {J7 Lk PD Le FE L1:ag}
  {bB:ax} (w6:PySem.W.nsIn K bj "Mender"=some (some (.ref bB))) (zq:PySem.W.plainGet K bB zB=true) (zU:PySem.W.hasDictIn K bB=true) (xZ:PySem.W.plainOver K bB=true) (wg:PySem.W.findIn K (.ref bB) "__setattr__"=some (some (.builtin "object.__setattr__"))) (yU:PySem.W.makesIn K bB=true) (z5:PySem.W.keepIn K (.ref bB)=true)
  (mF:PySem.W.findIn K (.ref bB) "net"=some none)
  (jy:PySem.W.findIn K (.ref bB) "letters"=some none)
  (d0:aF K "over" "over" DB f0)
  (d1:aF K "inverse" "inverse" DM f1)
  (d2:aF K "total" "total" Hh f2)
  (d3:aF K "lost_of" "lost_of" AD f3)
  (d4:aF K "told_by" "told_by" Bp f4)
  (d5:aF K "told_for" "told_for" z7 f5)
  (d6:aF K "round_of" "round_of" AS f6)
  (d7:aF K "copied" "copied" z4 f7)
  (d8:aF K "mended" "mended" Gh f8)
  (d9:aF K "row_of" "row_of" Br f9)
  (zL:aF K "numbers_of" "numbers_of" yo Of)
  (vF:aF K "parts_of" "parts_of" BC Jc)
  (xO:aF K "read_number" "read_number" EB Kh)
  (AN:aF K "read_whole" "read_whole" yz OP)
  (zC:aF K "paper_of" "paper_of" CG LW)
  (yF:aF K "paper_from" "paper_from" GA PR)
  (wz:aF K "paper_fault" "paper_fault" GG PZ)
  (vH:aF K "mend_fault" "mend_fault" GR Ij)
  (yy:aF K "paper_text" "paper_text" vD Ip)
  (zD:aF K "numbers_row" "numbers_row" yM IM)
  (yJ:aF K "read_paper" "read_paper" zl Qf)
  (wH:aF K "read_mend" "read_mend" Dg M5)
  (Ac:aF K "_law_bag" "_law_bag" wU Pu)
  (wV:aF K "_law_stirred" "_law_stirred" CP Na)
  (yN:aF K "_law_draw" "_law_draw" Gn MY)
  (Aq:aF K "_law_alike" "_law_alike" yu I0)
  (AY:aF K "_law_prime_from" "_law_prime_from" zS Pq)
  (xN:aF K "_law_prime" "_law_prime" BB JJ)
  (vU:aF K "_law_over" "_law_over" DK Kz)
  (xo:aF K "_law_sum" "_law_sum" wY Nr)
  (xm:aF K "_law_letters" "_law_letters" tw OT)
  (AZ:aF K "_law_planted_check" "_law_planted_check" uZ Kl)
  (vJ:aF K "_law_planted" "_law_planted" tY f32)
  (xM:aF K "_law_lossy" "_law_lossy" yE Nd)
  (AU:aF K "_law_copy" "_law_copy" za Nt)
  (vP:aF K "_law_told" "_law_told" zQ KY)
  (AH:aF K "_law_rounds" "_law_rounds" xF Nf)
  (A7:aF K "_law_chain" "_law_chain" zh N9)
  (ya:aF K "_law_case" "_law_case" AE OF)
  (yt:aF K "_law_due" "_law_due" u7 M9)
  (xS:aF K "_law_spoilt_right" "_law_spoilt_right" E3 PJ)
  (zP:aF K "_law_paper_right" "_law_paper_right" zg NN)
  (AK:PySem.W.nsIn K bj "law"=some (some (.ref Ak))) (zZ:K.lookup Ak=some ⟨P9,Mm, .func (PySem.W.fnOf "law" "law" (kT l8) (jZ l8) (aE l8) .none GQ Ct GB CV vS DI),NQ⟩) (yO:PySem.W.codeIn K vS "law"=true) (wR:PySem.W.keepIn K (.ref Ak)=true)
  (yV:PySem.W.findIn K (.ref bB) "__init__"=some (some (.ref q8))) (xx:PySem.W.isFn K (.ref q8)=true) (zu:K.lookup q8=some ⟨Qo,PK, .func (PySem.W.fnOf "__init__" "Mender.__init__" (kT rR) (jZ rR) (aE rR) .none LJ K5 MH MC EU N6),Od⟩) (Aw:PySem.W.codeIn K EU "Mender.__init__"=true) (zy:PySem.W.keepIn K (.ref q8)=true)
  (zO:PySem.W.findIn K (.ref bB) "step"=some (some (.ref rZ))) (w5:PySem.W.isFn K (.ref rZ)=true) (vO:K.lookup rZ=some ⟨M1,HB, .func (PySem.W.fnOf "step" "Mender.step" (kT qX) (jZ qX) (aE qX) .none PM MT Pb Qn CO OY),KO⟩) (yv:PySem.W.codeIn K CO "Mender.step"=true) (tE:PySem.W.keepIn K (.ref rZ)=true)
  (zE:PySem.W.findIn K (.ref bB) "mend"=some (some (.ref qB))) (xU:PySem.W.isFn K (.ref qB)=true) (ye:K.lookup qB=some ⟨IC,NC, .func (PySem.W.fnOf "mend" "Mender.mend" (kT qz) (jZ qz) (aE qz) .none Jd NG Mi ON CN HG),Pp⟩) (vp:PySem.W.codeIn K CN "Mender.mend"=true) (uw:PySem.W.keepIn K (.ref qB)=true)
  (zA:PySem.W.findIn K (.ref bB) "word"=some (some (.ref sA))) (vn:PySem.W.isFn K (.ref sA)=true) (xH:K.lookup sA=some ⟨J7,Jf, .func (PySem.W.fnOf "word" "Mender.word" (kT qi) (jZ qi) (aE qi) .none Lk PD Le JP FE L1),IW⟩) (zM:PySem.W.codeIn K FE "Mender.word"=true) (t9:PySem.W.keepIn K (.ref sA)=true)
  (vX:PySem.W.nsIn K bj "abs"=some none)
  (wM:PySem.W.nsIn K bj "all"=some none)
  (vR:PySem.W.nsIn K bj "bool"=some none)
  (xQ:PySem.W.nsIn K bj "enumerate"=some none)
  (Ae:PySem.W.nsIn K bj "int"=some none)
  (Ah:PySem.W.nsIn K bj "isinstance"=some none)
  (yg:PySem.W.nsIn K bj "len"=some none)
  (xR:PySem.W.nsIn K bj "list"=some none)
  (zX:PySem.W.nsIn K bj "min"=some none)
  (xA:PySem.W.nsIn K bj "range"=some none)
  (wo:PySem.W.nsIn K bj "set"=some none)
  (yY:PySem.W.nsIn K bj "sorted"=some none)
  (zd:PySem.W.nsIn K bj "str"=some none)
  (zv:PySem.W.nsIn K bj "sum"=some none)
  (Ax:PySem.W.nsIn K bj "tuple"=some none)
  {xW:Tok} (vq:PySem.W.nsIn K bj "MOST_FIGURES"=some (some (.int 60 xW)))
  {AR:Tok} (zj:PySem.W.nsIn K bj "FIGURES"=some (some (.str "0123456789" AR))),
  ∃fd:ft,(∀(s:ar) (v:ag),qk s fd ⟨[v],[]⟩ [("script",v)])/\∀base:eC,K.In base->base.Ns bj mg->aW l.prog w K mg base bu 11 fa fd ["script"] (AF K)
theorem walk{l:PySem.W.OpenLaw}{q:bg}{c:List Str}{B:(Str->Option ag)->eC->Prop}{A:cq->eC->Prop}{d:DefRec}{K:Params->PySem.W.Frag}(hn:l.most=some 63)(y:d.params.defaults=[])
  (Z:∀(w:cq) (h:eC),A w h->(K w.params).In h)
  (F : ∀ (w : World) (mg : Str -> Option Value) (i : Addr) (h : Heap), (K w.params).In h -> h.Ns mainGlobals mg -> mg d.name = some (.ref i) ->
   ∃fd:ft,(∀(s:ar) (u:ag),qk s fd ⟨[u],[]⟩ [("script",u)])/\∀base:eC,(K w.params).In base->base.Ns bj mg->aW l.prog w (K w.params) mg base bu 11 i fd ["script"] (AF (K w.params))):
  PySem.W.WalkO q c B A l.row.toRowW d [] (λf vs=>PySem.call f vs):=
 L2.GU (n:=63) (k:=11) (x:="script") (CX:=λ_=>bu) (sp:=λw=>AF (K w.params)) hn ⋯ y ⟨rfl,⋯,⋯⟩ Z F (λ_ _ a ns hl _ U=>⟨a,ns,rfl,U,hl,λ_=>rfl⟩) λ_ _ _ _ _ z=>z
local macro_rules| `(tactic|walk_at "d0")=> `(tactic|first|omega (config := {})|assumption|decide|(unfold Sm at*;omega (config := {}))|(unfold Al;omega (config := {}))|(unfold G5;decide)|(unfold G5;omega (config := {})))
local macro_rules| `(tactic|walk_at "ds")=> `(tactic|((try dsimp only);first|walk_at "d0" |(refine rz ?_ ?_<;>walk_at "d0")|(refine ay ?_;walk_at "d0")|(refine ei (rz ?_ ?_)<;>walk_at "d0")))
local macro_rules| `(tactic|walk_at "s1")=> `(tactic|with_reducible first
 |refine R.seq ?_|refine R.asg ?_|refine R.kP ?_|refine R.ret ?_|refine R.next ?_|refine R.c ?_|refine R.op ?_|refine R.test ?_|refine R.bl ?_|refine R.tru ?_
 |refine R.and ?_|refine R.notV ?_|refine R.cb ?_|refine R.call ?_|refine R.nil ?_|refine R.cons ?_
 |refine R.lst ?_|refine R.sl ?_|refine R.Sd ?_|refine R.part ?_|refine R.Wh ?_|refine R.GD ?_|refine R.Nu ?_|refine R.VL ?_|refine R.T4 ?_|refine R.RO ?_|refine R.uU ?_
 |refine R.je ?_|refine R.Yw ?_|refine R.Tn ?_|refine R.eqNI ?_|refine R.eqIN ?_|refine R.isI ?_|refine R.LI ?_|refine R.JB ?_|refine R.bits ?_
 |refine zH ?_|refine Km ?_|refine R.nilE ?_|refine R.isiII ?_|refine R.isiIB ?_|refine R.Kt ?_|refine R.Yb ?_|refine R.iL ?_|refine R.Xb ?_|refine R.comp ?_)
local macro_rules| `(tactic|walk_at "st")=> `(tactic|repeat (first
 |walk_at "s1"
 |((with_reducible refine' R.var ?h0 ?_);(case h0=>rfl))
 |((with_reducible refine' R.rI ?h1 ?_);(case h1=>walk_at "ds"))
 |((with_reducible refine' R.C8 (o:= .lst []) ?h1 ?_);(case h1=>rfl))
 |((with_reducible refine' R.vY ?h0 ?h1 ?_);(case h0=>assumption);(case h1=>rfl))
 |((with_reducible refine' R.ixTM ?h0 ?h1 ?_);(case h0=>assumption);(case h1=>rfl))
 |((with_reducible refine' R.D3 ?h1 ?_);(case h1=>rfl))
 |((with_reducible refine' R.setM ?h0 ?h1 ?_);(case h0=>assumption);(case h1=>rfl))
 |((with_reducible refine' R.SX ?h0 ?_);(case h0=>assumption))
 |((with_reducible refine' R.lenL ?h0 ?_);(case h0=>assumption))
 |((with_reducible refine' R.Y6 ?h0 ?h1 ?_);(case h0=>walk_at "ds");(case h1=>walk_at "ds"))
 |((with_reducible refine' R.UI ?h0 ?_);(case h0=>walk_at "ds"))
 |((with_reducible refine' R.wO ?h0 ?_);(case h0=>assumption))
 |((with_reducible refine' R.iz ?h0 ?_);(case h0=>first|exact R.dT (by omega (config := {}))|exact R.L0 (by omega (config := {}))|decide))
 |((with_reducible refine' R.Li ?h0 ?_);(case h0=>first|exact R.dF (by omega (config := {}))|exact R.K7 (by omega (config := {}))|decide))
 |(with_reducible refine R.Oy ?_)|(with_reducible refine R.TJ ?_)))
local macro_rules| `(tactic|walk_at "mo")=> `(tactic|repeat (first|refine Exists.imp fun _=>?_|refine And.imp_right ?_))
local macro_rules| `(tactic|walk_at "fv")=> `(tactic|first|exact ay rfl|exact ei (ay rfl)|exact ei (ei (ay rfl))|exact ei (ei (ei (ay rfl)))|exact ei (ei (ei (ei rfl))))
local macro_rules| `(tactic|walk_at "d1")=> `(tactic|with_reducible first
 |refine Sv.seq ?_|refine Sv.sF ?_|refine Sv.asg ?_|refine Sv.B2 ?_|refine Sv.kP ?_|refine Sv.ret ?_|refine Sv.next ?_|refine Sv.retN ?_
 |refine Ev.int ?_|refine Ev.bl ?_|refine Ev.aL ?_|refine Ev.je ?_|refine Ev.G3 ?_|refine Ev.rI ?_|refine Ev.rU ?_|refine Ev.eq ?_|refine Ev.ne ?_|refine Ev.is ?_|refine Ev.Yc ?_|refine Ev.Wm ?_|refine Ev.str ?_|refine Ev.RT ?_
 |refine Ev.KQ ?_|refine Ev.orV ?_|refine Ev.notV ?_|refine Ev.Jk ?_|refine Tv.test ?_|refine Tv.and ?_|refine Tv.or ?_|refine Tv.not ?_|refine Tv.uU ?_|refine Tv.z0 ?_
 |refine Ev.OB ?_|refine Ev.lst ?_|refine Av.nil ?_|refine Av.cons ?_|refine Av.G4 ?_|refine Ov.none ?_|refine Ov.some ?_|refine Ev.min2 ?_|refine Ev.max2 ?_|refine Ev.Zd ?_
 |refine R.di ?_|refine R.db ?_|refine R.dl ?_|refine R.dt ?_|refine R.Cf ?_|refine R.VW ?_|refine R.Gf ?_|refine R.eqni ?_|refine R.eqin ?_|refine R.eqnn ?_|refine R.LG ?_
 |refine Gv.qm ?_|refine Gv.Yd ?_|refine Gv.Rm ?_|refine Gv.VS ?_|refine Gv.kW ?_|refine Gv.Xv ?_|refine Gv.So ?_|refine zH ?_|refine Km ?_)
local macro_rules| `(tactic|walk_at "dt")=> `(tactic|repeat (first
 |((with_reducible refine' Sv.retOwn ?h0 ?_);(case h0=>rfl))
 |((with_reducible refine' Sv.K8 ?h0 ?_);(case h0=>rfl))
 |walk_at "d1"
 |((with_reducible refine' Ev.var ?h0 ?_);(case h0=>rfl))
 |((with_reducible refine' Ev.draw ?h0 ?_);(case h0=>rfl))
 |((with_reducible refine' Ev.Lr ?h0 ?_);(case h0=>rfl))
 |((with_reducible refine' Ev.KE ?h0 ?_);(case h0=>rfl))
 |((with_reducible refine' Ev.listOwn ?h0 ?_);(case h0=>rfl))
 |((with_reducible refine' Ev.slOwn ?h0 ?_);(case h0=>rfl))
 |((with_reducible refine' Sv.append ?h0 ?_);(case h0=>rfl))
 |((with_reducible refine' Sv.K8 ?h0 ?_);(case h0=>rfl))
 |((with_reducible refine' Sv.retOwn ?h0 ?_);(case h0=>rfl))
 |((with_reducible refine' Gv.tup ?h0 ?_);(case h0=>rfl))
 |((with_reducible refine' R.at_ ?h0 ?_);(case h0=>first|rfl|assumption))
 |(with_reducible refine Ev.SR ?_)|(with_reducible refine Ev.mh ?_)|(with_reducible refine Ev.listOf ?_)|(with_reducible refine Ev.sl ?_)|(with_reducible refine Ev.cat ?_)|(with_reducible refine Ev.Jr ?_)
 |((with_reducible refine' Ev.Ss ?h0 ?_);(case h0=>walk_at "fv"))
 |((with_reducible refine' Ev.Se ?h0 ?h1 ?_);(case h0=>walk_at "fv");(case h1=>walk_at "fv"))
 |(with_reducible refine Ev.all ?_)|(with_reducible refine Ev.sum ?_)|(with_reducible refine Ev.C8 ?_)
 |((with_reducible refine' R.C5 ?_))
 |((with_reducible refine' R.iz ?h0 ?_);(case h0=>first|exact R.dT (by omega (config := {}))|exact R.L0 (by omega (config := {}))|rfl))
 |((with_reducible refine' R.Li ?h0 ?_);(case h0=>first|exact R.dF (by omega (config := {}))|exact R.K7 (by omega (config := {}))|exact cO))
 |((with_reducible refine' R.Wz ?h0 ?_);(case h0=>first|walk_at "ds" |exact Ao rfl))))
local macro_rules| `(tactic|walk_at "wk")=> `(tactic|repeat (first|exact Wk.nil|apply Wk.no|apply Wk.eq))
section
variable{P:bg}{w:cq}{K:PySem.W.Frag}{mg:Str->Option ag}{base:eC}{f:ax}{fd:ft}
theorem kg:bH ["p","b","last_rest","last_times","rest","times","quotient","next_rest","next_times"] ["p","b"] (aE DM):=⟨rfl,rfl,rfl,by decide+kernel,rfl,by decide+kernel,by decide+kernel⟩
theorem ZY(F:bA K "inverse" "inverse" DM f fd):
  aW P w K mg base bu 1 f fd ["p","b"] NJ:=by
 refine F.ok kg (λvs H Q E h=>?_) (λcdv A outer s H vs Q E hr h=>?_)
 .obtain⟨p,b,rfl,hp,g,hb,q⟩:=h
  rfl
 obtain⟨p,b,rfl,hp,g,hb,q⟩:=h;refine⟨_,(@ao _ _ _ _ _ (@aJ _ _ (2) _ _ _ _ kg.nd rfl (ay rfl) (pv 0) (by rfl) (by first|exact .inl rfl|exact .inr rfl|assumption)) (@ao _ _ _ _ _ (@aJ _ _ (3) _ _ _ _ kg.nd rfl (ay rfl) aj (by rfl) (by first|exact .inl rfl|exact .inr rfl|assumption)) (@ao _ _ _ _ _ (@aJ _ _ (4) _ _ _ _ kg.nd rfl (ay rfl) (@aG _ _ _ _ _ _ _ _ jk (pv 1) (pv 0)) (by rfl) (by first|exact .inl rfl|exact .inr rfl|assumption)) (@ao _ _ _ _ _ (@aJ _ _ (5) _ _ _ _ kg.nd rfl (ay rfl) aj (by rfl) (by first|exact .inl rfl|exact .inr rfl|assumption)) (@ao _ _ _ _ _ (@DV _ _ _ _ _ _ gW (@aS _ _ _ _ _ _ _ _ iw (pv 4) aj (aQ _)) (@ao _ _ _ _ _ (@aJ _ _ (6) _ _ _ _ kg.nd rfl (ay rfl) (@aG _ _ _ _ _ _ _ _ uW (pv 2) (pv 4)) (by rfl) (by first|exact .inl rfl|exact .inr rfl|assumption)) (@ao _ _ _ _ _ (@aJ _ _ (7) _ _ _ _ kg.nd rfl (ay rfl) (@aG _ _ _ _ _ _ _ _ jm (pv 2) (@aG _ _ _ _ _ _ _ _ iJ (pv 6) (pv 4))) (by rfl) (by first|exact .inl rfl|exact .inr rfl|assumption)) (@ao _ _ _ _ _ (@aJ _ _ (8) _ _ _ _ kg.nd rfl (ay rfl) (@aG _ _ _ _ _ _ _ _ jm (pv 3) (@aG _ _ _ _ _ _ _ _ iJ (pv 6) (pv 5))) (by rfl) (by first|exact .inl rfl|exact .inr rfl|assumption)) (@ao _ _ _ _ _ (@aJ _ _ (2) _ _ _ _ kg.nd rfl (ay rfl) (pv 4) (by rfl) (by first|exact .inl rfl|exact .inr rfl|assumption)) (@ao _ _ _ _ _ (@aJ _ _ (3) _ _ _ _ kg.nd rfl (ay rfl) (pv 5) (by rfl) (by first|exact .inl rfl|exact .inr rfl|assumption)) (@ao _ _ _ _ _ (@aJ _ _ (4) _ _ _ _ kg.nd rfl (ay rfl) (pv 7) (by rfl) (by first|exact .inl rfl|exact .inr rfl|assumption)) (@aC _ _ _ (@aJ _ _ (5) _ _ _ _ kg.nd rfl (ay rfl) (pv 8) (by rfl) (by first|exact .inl rfl|exact .inr rfl|assumption)))))))))) (@aC _ _ _ (@aM _ _ _ _ (@aG _ _ _ _ _ _ _ _ jk (pv 3) (pv 0))))))))),?_⟩;have hp2:=hp.1;walk_at "st";refine O1 (λσ H1=>H1=H/\∃(L lt r t:Int) (y Z n:Option V),σ=[some (.int p),some (.int b),some (.int L),some (.int lt),some (.int r),some (.int t),y,Z,n]/\Eu p b L lt r t) (λ(σ:qg) (_:Hp)=>match σ[4]? with|some (some (V.int r))=>r.toNat|_=>0) ⟨rfl,_,_,_,_,_,_,_,rfl,Eu.start hp2⟩ ?_ ?_
 .rintro σ H1 ⟨rfl,L,lt,r,t,y,Z,n,rfl,E⟩;obtain⟨Y,S⟩:=E.tb;have e1:=E.l0;have e2:=E.r0;have e3:=E.lp;have e4:=E.rp;walk_at "st";refine sf (λc=>?_) (λc=>?_)
  .have c:r≠0:=of_decide_eq_true c;have hr:0<r:=∅
   have J:0<=L/r:=AW ∅ ∅;have O:L/r<=L:=D4 _ ∅;obtain⟨j,l⟩:=E.next hr
   walk_at "st";refine⟨⟨rfl,_,_,_,_,_,_,_,rfl,j⟩,?_⟩;show(L-L/r*r).toNat<r.toNat;omega
  .have c:r=0:=by simpa using c
   subst c;walk_at "st";exact q _ (i8 _ ∅) (i6 _ ∅) (E.fin hp hb)
 .exact λσ H Q d h ⟨v,e,s,k,x,z⟩=>⟨v,e,s,k,x,h _ _ z⟩
theorem ZW:bH ["p","a","b"] ["p","a","b"] (aE DB):=⟨rfl,rfl,rfl,by decide+kernel,rfl,by decide+kernel,by decide+kernel⟩
theorem Kx(F:bA K "over" "over" DB f fd)(c:Callee P w K mg base "inverse" 1 ["p","b"] NJ):
  aW P w K mg base bu 2 f fd ["p","a","b"] GH:=by
 refine F.ok ZW (λvs H Q E h=>?_) (λcdv A outer s H vs Q E hr h=>?_)
 .obtain⟨p,a,b,rfl,hp,g,hb,a1,a2,q⟩:=h
  rfl
 obtain⟨p,a,b,rfl,hp,g,hb,a1,a2,q⟩:=h;refine⟨_,(@aC _ _ _ (@aM _ _ _ _ (@aG _ _ _ _ _ _ _ _ jk (@aG _ _ _ _ _ _ _ _ iJ (pv 1) (@aD _ _ _ _ _ _ _ _ _ _ c (hr.mono ⋯) (@aa _ _ _ _ _ (pv 0) (@aa _ _ _ _ _ (pv 2) af rfl) rfl) (by rfl) ⋯ (by rfl) (by rfl))) (pv 0)))),?_⟩;have hp2:=hp.1;walk_at "st";refine⟨p,b,rfl,hp,g,hb,λu u1 u2 ⟨k,hk⟩=>?_⟩;walk_at "st";refine q _ (i8 _ ∅) (i6 _ ∅) ⟨a*k-a*u/p*b,?_⟩;have e:=nk (a*u) p;have e2:a*u%p=a*u-p*(a*u/p):=∅
 have e3:b*(a*u)=a*(u*b):=by rw[nK b,jI]
 rw[e2,mR,e3,hk,wI,vm,mR,<-jI a p k,nK a p,jI p a k,nK b (p*_),jI p];omega
theorem uc:bH ["p","pairs","word","reached","place","factor"] ["p","pairs","word"] (aE Hh):=⟨rfl,rfl,rfl,by decide+kernel,rfl,by decide+kernel,by decide+kernel⟩
theorem L5(F:bA K "total" "total" Hh f fd):
    aW P w K mg base bu 1 f fd ["p","pairs","word"] GV:=by
  refine F.ok uc (λvs H Q E h=>?_) (λcdv A outer s H vs Q E hr h=>?_)
  · obtain⟨nb,p,g,b,prs,wd,rfl,hA,hC,hp,h1,h2,q⟩:=h
    rfl
  obtain⟨nb,p,g,b,prs,wd,rfl,hA,hC,hp,h1,h2,q⟩:=h;refine⟨_,(@ao _ _ _ _ _ (@aJ _ _ (3) _ _ _ _ uc.nd rfl (ay rfl) aj (by rfl) (by first|exact .inl rfl|exact .inr rfl|assumption)) (@ao _ _ _ _ _ (@iT _ _ _ _ _ _ _ _ gW rfl (gx (K:=K) rfl (pv 1)) (MS rfl (@cF _ _ _ _ _ (aO (i:=4) uc.nd rfl (ay rfl)) (@cF _ _ _ _ _ (aO (i:=5) uc.nd rfl (ay rfl)) iN (by rfl)) (by rfl))) (@aC _ _ _ (@cy _ _ _ _ _ _ _ _ (@aS _ _ _ _ _ _ _ _ l7 (@au _ _ _ _ _ _ _ aX (pv 2) (pv 4) (λ_ _=>rfl)) fk (aQ _)) (@aC _ _ _ (@aJ _ _ (3) _ _ _ _ uc.nd rfl (ay rfl) (@aG _ _ _ _ _ _ _ _ jk (@aG _ _ _ _ _ _ _ _ eU (pv 3) (@aG _ _ _ _ _ _ _ _ iJ (pv 5) (@au _ _ _ _ _ _ _ aX (pv 2) (pv 4) (λ_ _=>rfl)))) (pv 0)) (by rfl) (by first|exact .inl rfl|exact .inr rfl|assumption))) cJ)) (by intro _;rfl)) (@aC _ _ _ (@aM _ _ _ _ (pv 3))))),?_⟩;obtain⟨a,xs,rfl,na,ha,k⟩:=hA.eN;obtain⟨c,ws,rfl,nc,hc,l⟩:=hC.eN;have uP:=k.length;rw[ak] at uP;have ew:=IJ l;subst ew;walk_at "st";refine R.wO (aZ.of ha) ?_;refine HJ (xs:=xs) (λi σ H1=>H1=H/\∃(r:Int) (x y:Option V),σ=[some (.int p),some (.ref a),some (.ref c),some (.int r),x,y]/\r=dB (prs.take i) wd%p) ⟨rfl,0,none,none,rfl,by simp[dB]⟩ ?_ ?_ ?_
  · rintro i σ H1 hi ⟨rfl,_⟩
    exact aZ.of ha
  · rintro i x σ H1 hx ⟨rfl,r,y,z,rfl,hr⟩
    have hi:i<prs.length:=by have:=(bT.mp hx).1;omega
    obtain⟨O,M,dx⟩:=k.get (i:=i) (by rw[cY,bw hi];rfl);rw[hx] at M;cases M
    obtain⟨t,rfl,nt,ht⟩:=ZP dx;obtain⟨g1,g2,N⟩:=h1 _ (fZ hi);have hk:prs[i].fst.toNat<wd.length:=∅
    have S:bC (wd.map yj) prs[i].fst=some (yj wd[prs[i].fst.toNat]):=iE g1 (by rw[cY,bw hk];rfl);have j:oX wd prs[i]=match wd[prs[i].fst.toNat] with|some x=>prs[i].snd*x|none=>0:=by
      unfold oX;rw[bw hk];cases wd[prs[i].fst.toNat]<;>rfl
    have d:∀x,wd[prs[i].fst.toNat]=some x->Sm x:=λx e=>h2 x (by rw[<-e];exact fZ hk);have hd:=KU (wd:=wd) hi;refine R.V9 (dX.of ht) rfl ?_;walk_at "st";refine R.vY hc S ?_;walk_at "st";generalize wd[prs[i].fst.toNat]=o at S j d⊢;cases o with
    | none =>
      refine R.JB ?_;walk_at "st";refine⟨rfl,_,_,_,rfl,?_⟩;rw[hd,j,hr,Int.add_zero]
    | some x =>
      have hsx:=d x rfl;refine R.LI ?_;walk_at "st";refine R.vY hc S ?_;refine R.rI (ei ⟨N,hsx⟩) ?_;walk_at "st";refine⟨rfl,_,_,_,rfl,?_⟩;rw[hd,j,hr,Int.emod_add_emod]
  · rintro σ H1 ⟨rfl,r,x,y,rfl,hr⟩
    walk_at "st";rw[uP,fW] at hr;rw[hr];exact q
def zY:DF:=λds Φ=>∃wd:Wo,ds=[bI wd]/\wd.length<=10000/\Φ true (.list ((jl wd).map .int))
theorem M7:cM zY:=by
 intro ds Φ Ψ hm z;revert hm;walk_at "mo";exact λq=>z _ _ q
theorem Pn:bH ["word"] ["word"] (aE AD):=⟨rfl,rfl,rfl,by decide+kernel,rfl,by decide+kernel,by decide+kernel⟩
theorem E4(F:bA K "lost_of" "lost_of" AD f fd)(rK:mg "enumerate"=none):
    aW P w K mg base bu 1 f fd ["word"] (aU 1 zY):=by
  refine F.ok Pn (λvs H Q E h=>h.1) (λcdv A outer s H vs Q E hr h=>?_);obtain⟨nb,ds,Φ,g,u,I,M⟩:=fL h;obtain⟨wd,rfl,hl,q⟩:=M;refine⟨_,(@aC _ _ _ (@aM _ _ _ _ (gC (dw.of (show dO (aE AD) ["word"] _ ["place","letter"] [none,none]=true by decide+kernel)) (@Mn _ (K) _ _ _ _ _ _ _ rfl rfl rK (pv 0) (by rfl)) (λ_ _ _ _=>⟨(@i9 _ (K) _ _ _ (2) _ rfl rfl (@cF _ _ _ _ _ (aO (i:=0) (by show bp (["place","letter"]:List Str);decide+kernel) rfl (ay rfl)) (@cF _ _ _ _ _ (aO (i:=1) (by show bp (["place","letter"]:List Str);decide+kernel) rfl (ay rfl)) iN (by rfl)) (by rfl)) (by rfl) (by rfl)),(mz (@aS _ _ _ _ _ _ _ _ oS (pv 1) fk (aQ _))),(pv 0)⟩)))),?_⟩;refine Sv.fF g u I (ρ:=[.d false _]) rfl ?_;clear I u;have iu:(wd.map bS).length=wd.length:=ak ..;rfl';refine aq.ev (aq.ZO ⋯ rfl ?_);rfl';refine λv=>⟨true,λi ds=>ds=(((bo i).filter λj=>wd[j]?==some none).map λ(j:Nat)=>(j:Int)).map a4,rfl,?_,?_⟩
  · rintro i d ds ⟨e,he,rfl⟩ hl' rfl
    obtain⟨o,D,rfl⟩:=fB he;rfl';refine⟨by walk_at "wk",?_⟩;rfl';rw[rM];cases o with
    | none =>
      rfl';show _=cj _ (cj _ (il _ (bo (i+1))));rw[pC,nP,tH (by rw[D];rfl)];simp
    | some x =>
      rfl';show _=cj _ (cj _ (il _ (bo (i+1))));rw[pC,nP,uY (by rw[D];simp)];simp
  · rintro ds hl' rfl
    rw[iu];exact q
def EO:DF:=λds Φ=>∃(p rest:Int) (prs:aA) (wd:Wo),ds=[.int p,e7 prs, .int rest,bI wd]/\gG p/\p<10^40/\0<=rest/\rest<p/\prs.length<=10000/\qF prs wd.length/\wC p prs/\dU wd/\Φ true (jJ (cG p prs rest wd))
theorem BE:cM EO:=by
 intro ds Φ Ψ hm z;revert hm;walk_at "mo";exact λq=>z _ _ q
theorem yq:bH ["p","pairs","rest","word","lost","place","factor"] ["p","pairs","rest","word"] (aE z7):=⟨rfl,rfl,rfl,by decide+kernel,rfl,by decide+kernel,by decide+kernel⟩
theorem Ih(F:bA K "told_for" "told_for" z7 f fd)(j:Callee P w K mg base "over" 2 ["p","a","b"] GH)(c:Callee P w K mg base "total" 1 ["p","pairs","word"] GV)(bh:mg "len"=none):
    aW P w K mg base bu 3 f fd ["p","pairs","rest","word"] (aU 4 EO):=by
  refine F.ok yq (λvs H Q E h=>h.1) (λcdv A outer s H vs Q E hr h=>?_);obtain⟨nb,ds,Φ,g,u,I,M⟩:=fL h;obtain⟨p,rest,prs,wd,rfl,hp,gK,r0,C,hl,Z,b,hW,q⟩:=M;refine⟨_,(@ao _ _ _ _ _ (n9 (i:=4) yq.nd rfl rfl (dw.of (show dO (aE z7) ["p","pairs","rest","word","lost","place","factor"] _ ["place","factor","word"] [none,none,some 3]=true by decide+kernel)) (gx (K:=K) rfl (pv 1)) (λ_ _ _ _=>⟨(@i9 _ (K) _ _ _ (2) _ rfl rfl (@cF _ _ _ _ _ (aO (i:=0) (by show bp (["place","factor","word"]:List Str);decide+kernel) rfl (ay rfl)) (@cF _ _ _ _ _ (aO (i:=1) (by show bp (["place","factor","word"]:List Str);decide+kernel) rfl (ay rfl)) iN (by rfl)) (by rfl)) (by rfl) (by rfl)),(mz (@aS _ _ _ _ _ _ _ _ oS (@au _ _ _ _ _ _ (bG K) aX (pv 2) (pv 0) (λ_ _=>rfl)) fk (aQ _))),(@bQ _ _ _ _ _ (@aa _ _ _ _ _ (pv 0) (@aa _ _ _ _ _ (pv 1) af rfl) rfl))⟩)) (@ao _ _ _ _ _ (@cy _ _ _ _ _ _ _ _ (@aS _ _ _ _ _ _ _ _ iw (@bX _ _ _ _ _ _ _ _ (eX K) gk rfl bh fE (@aa _ _ _ _ _ (pv 4) af rfl) ⋯ ⋯ (by rfl) (by rfl)) aj (aQ _)) (@aC _ _ _ (@aM _ _ _ _ fk)) cJ) (@ao _ _ _ _ _ (@aJ _ _ (5) _ _ _ _ yq.nd rfl (ay rfl) (@au _ _ _ _ _ _ (aT K) aV (@au _ _ _ _ _ _ (bG K) aX (pv 4) aj (λ_ _=>rfl)) aj (λ_ _=>rfl)) (by rfl) (by first|exact .inl rfl|exact .inr rfl|assumption)) (@ao _ _ _ _ _ (@aJ _ _ (6) _ _ _ _ yq.nd rfl (ay rfl) (@au _ _ _ _ _ _ (aT K) aV (@au _ _ _ _ _ _ (bG K) aX (pv 4) aj (λ_ _=>rfl)) aj (λ_ _=>rfl)) (by rfl) (by first|exact .inl rfl|exact .inr rfl|assumption)) (@aC _ _ _ (@aM _ _ _ _ (@bQ _ _ _ _ _ (@aa _ _ _ _ _ (pv 5) (@aa _ _ _ _ _ (@aD _ _ _ _ _ _ _ _ _ _ j (hr.mono ⋯) (@aa _ _ _ _ _ (pv 0) (@aa _ _ _ _ _ (@aG _ _ _ _ _ _ _ _ jm (pv 2) (@aD _ _ _ _ _ _ _ _ _ _ c (hr.mono ⋯) (@aa _ _ _ _ _ (pv 0) (@aa _ _ _ _ _ (pv 1) (@aa _ _ _ _ _ (pv 3) af rfl) rfl) rfl) (by rfl) ⋯ (by rfl) (by rfl))) (@aa _ _ _ _ _ (pv 6) af rfl) rfl) rfl) (by rfl) ⋯ (by rfl) (by rfl)) af rfl) rfl)))))))),?_⟩;refine Sv.fF g u I (ρ:=[.d false _, .d false _, .d false _, .d false _, .no, .no, .no]) rfl ?_;clear I u;have iu:(prs.map Bh).length=prs.length:=ak ..;have p2:=hp.1;rfl';refine aq.ev (aq.ju ⋯ rfl ?_);rfl';refine λv=>⟨true,λi ds=>ds=(fJ wd (prs.take i)).map Bh,rfl,?_,?_⟩
  · rintro i d ds hd hl' rfl
    obtain⟨pr,dP,rfl⟩:=fB hd;obtain⟨g1,g2,N⟩:=Z pr (fQ dP);obtain⟨o,D,S⟩:=uI (xs:=wd) bS g1 g2 rfl;rfl';refine⟨by walk_at "wk",?_⟩;rfl';rw[rM];cases o with
    | none =>
      rfl';refine⟨λ_=>rfl,?_⟩;show _=cj Bh (fJ wd (prs.take (i+1)));rw[Bf dP,Ay,if_pos D,cI]
      rfl
    | some x =>
      rfl';show _=cj Bh (fJ wd (prs.take (i+1)));rw[Bf dP,Ay,if_neg (by rw[D];simp)]
  rintro ds hl' rfl;rw[iu,fW];rfl';have key:∀L,fJ wd prs=L->cG p prs rest wd=(match L with|[pr]=>some (pr.1,sol p pr.2 (rest-dB prs wd%p))|_=>none):=λL e=>by unfold cG;rw[e]<;>rfl
  cases y:fJ wd prs with
  | nil =>
    rfl';rw[key _ y] at q;exact q
  | cons pr r =>
    cases r with
    | cons a U =>
      have:¬((cj Bh (pr::a::U)).length:Int)=1:=by simp;omega
      rfl';rw[key _ y] at q;exact q
    | nil =>
      have hm:=(DS (wd:=wd) (prs:=prs) (pr:=pr) (by rw[y];simp)).1;have d0:=i8 (dB prs wd) (show p≠0 by omega);have d1:=i6 (dB prs wd) (show 0<p by omega);rfl';refine Ev.over ?_;rfl';refine Ev.total ?_;rfl';refine⟨p,prs,wd,rfl,∅,Z,hW,?_⟩;rfl';refine⟨p,rest-dB prs wd%p,pr.2,rfl,hp,gK,b pr hm,∅,∅,λx T x1 hx=>?_⟩;rfl';rw[key _ y] at q;have e:=Kd hp (b pr hm) T x1 hx;rw[e];exact q
def uR:DF:=λds Φ=>∃(p n c:Int) (cs:List aA) (wd:Wo),ds=[bE p n cs,bI wd, .int c]/\dZ p cs wd.length/\dU wd/\0<=c/\c<cs.length/\Φ true (jJ (cG p (cs.getD c.toNat []) 0 wd))
theorem Hr:cM uR:=by
 intro ds Φ Ψ hm z;revert hm;walk_at "mo";exact λq=>z _ _ q
theorem QV:bH ["net","word","c"] ["net","word","c"] (aE Bp):=⟨rfl,rfl,rfl,by decide+kernel,rfl,by decide+kernel,by decide+kernel⟩
theorem ZK(F:bA K "told_by" "told_by" Bp f fd)(a:Callee P w K mg base "told_for" 3 ["p","pairs","rest","word"] (aU 4 EO)):
  aW P w K mg base bu 4 f fd ["net","word","c"] (aU 3 uR):=by
 refine F.ok QV (λvs H Q E h=>h.1) (λcdv A outer s H vs Q E hr h=>?_);obtain⟨nb,ds,Φ,g,u,I,M⟩:=fL h;obtain⟨p,n,c,cs,wd,rfl,hN,hW,c0,c1,q⟩:=M;refine⟨_,(@aC _ _ _ (@aM _ _ _ _ (@aD _ _ _ _ _ _ _ _ _ _ a (hr.mono ⋯) (@aa _ _ _ _ _ (@au _ _ _ _ _ _ (aT K) aV (pv 0) aj (λ_ _=>rfl)) (@aa _ _ _ _ _ (@au _ _ _ _ _ _ (bG K) aX (@au _ _ _ _ _ _ (aT K) aV (pv 0) aj (λ_ _=>rfl)) (pv 2) (λ_ _=>rfl)) (@aa _ _ _ _ _ aj (@aa _ _ _ _ _ (pv 1) af rfl) rfl) rfl) rfl) (by rfl) ⋯ (by rfl) (by rfl)))),?_⟩;refine Sv.fF g u I (ρ:=[.d false _, .d false _, .d false _]) rfl ?_;clear I u;obtain⟨prs,e1,e2,e3,e4,e5⟩:=hN.at c0 c1;have p2:=hN.1.1;have S:bC (cs.map e7) c=some (e7 prs):=iE c0 (by rw[cY,e1];rfl);rfl';refine Ev.cZ BE ?_;rfl';rw[e2] at q;exact⟨rfl,p,0,prs,wd,rfl,hN.1,hN.2.1,∅,∅,∅,e4,e5,hW,q⟩
def CT:DF:=λds Φ=>∃(p n:Int) (cs:List aA) (wd:Wo),ds=[bE p n cs,bI wd]/\dZ p cs wd.length/\dU wd/\wd.length<=4000/\Φ true (dS (aR p cs wd))
theorem Gc:cM CT:=by
 intro ds Φ Ψ hm z;revert hm;walk_at "mo";exact λq=>z _ _ q
theorem vj:bH ["net","word","found","c","told"] ["net","word"] (aE AS):=⟨rfl,rfl,rfl,by decide+kernel,rfl,by decide+kernel,by decide+kernel⟩
theorem Ze(F:bA K "round_of" "round_of" AS f fd)(k:Callee P w K mg base "told_by" 4 ["net","word","c"] (aU 3 uR))(bF:mg "range"=none)(bh:mg "len"=none)(mw:mg "sorted"=none):
    aW P w K mg base bu 5 f fd ["net","word"] (aU 2 CT):=by
  refine F.ok vj (λvs H Q E h=>h.1) (λcdv A outer s H vs Q E hr h=>?_);obtain⟨nb,ds,Φ,g,u,I,M⟩:=fL h;obtain⟨p,n,cs,wd,rfl,hN,hW,hl,q⟩:=M;refine⟨_,(@ao _ _ _ _ _ (@aJ _ _ (2) _ _ _ _ vj.nd rfl (ei rfl) CK (by rfl) (by first|exact .inl rfl|exact .inr rfl|assumption)) (@ao _ _ _ _ _ (@iT _ _ _ _ _ _ _ _ gW rfl (@iH _ _ _ _ _ _ rfl bF (@aa _ _ _ _ _ (@bX _ _ _ _ _ _ _ _ (eX K) gk rfl bh fE (@aa _ _ _ _ _ (@au _ _ _ _ _ _ (aT K) aV (pv 0) aj (λ_ _=>rfl)) af rfl) ⋯ ⋯ (by rfl) (by rfl)) af rfl) (by rfl)) (aO (i:=3) vj.nd rfl (ay rfl)) (@ao _ _ _ _ _ (@aJ _ _ (4) _ _ _ _ vj.nd rfl (ay rfl) (@aD _ _ _ _ _ _ _ _ _ _ k (hr.mono ⋯) (@aa _ _ _ _ _ (pv 0) (@aa _ _ _ _ _ (pv 1) (@aa _ _ _ _ _ (pv 3) af rfl) rfl) rfl) (by rfl) ⋯ (by rfl) (by rfl)) (by rfl) (by first|exact .inl rfl|exact .inr rfl|assumption)) (@aC _ _ _ (@cy _ _ _ _ _ _ _ _ (PW.pt (oq (@aS _ _ _ _ _ _ _ _ l7 (pv 4) fk (aQ _)) (nG (@aS _ _ _ _ _ _ _ _ (MR hr.units) (@au _ _ _ _ _ _ (aT K) aV (pv 4) aj (λ_ _=>rfl)) (pv 2) (by with_unfolding_all rfl))))) (@aC _ _ _ (@gD _ _ _ _ _ _ (@bQ _ _ _ _ _ (@aa _ _ _ _ _ (@au _ _ _ _ _ _ (aT K) aV (pv 4) aj (λ_ _=>rfl)) (@aa _ _ _ _ _ (pv 3) (@aa _ _ _ _ _ (@au _ _ _ _ _ _ (aT K) aV (pv 4) aj (λ_ _=>rfl)) af rfl) rfl) rfl)) (jx (pv 2) (@au _ _ _ _ _ _ (aT K) aV (pv 4) aj (λ_ _=>rfl)) set_dict) (by rfl) (by rfl) (by rfl))) cJ))) (by intro _;rfl)) (@aC _ _ _ (@aM _ _ _ _ (gC (dw.of (show dO (aE AS) ["net","word","found","c","told"] _ ["place","found"] [none,some 2]=true by decide+kernel)) (gx (K:=K) rfl (@bX _ _ _ _ _ _ _ _ (AA) (NV rfl) rfl mw CS (@aa _ _ _ _ _ (pv 2) af rfl) ⋯ ⋯ (by rfl) (by rfl))) (λ_ _ _ _=>⟨(aO (i:=0) (by show bp (["place","found"]:List Str);decide+kernel) rfl (ay rfl)),gM,(@au _ _ _ _ _ _ (xY) Oz (pv 1) (pv 0) (λ_ _=>rfl))⟩)))))),?_⟩;refine Sv.fF g u I (ρ:=[.d false _, .d false _, .no, .no, .no]) rfl ?_;clear I u;have p2:=hN.1.1;have hcl:=hN.2.2.1;have Rb:((cs.map e7).length:Int)=cs.length:=by rw[ak]
  refine Sv.seq ?_;refine Sv.JM (tT.new ?_);intro A2;refine Sv.seq ?_;refine Sv.qJ ?_;refine Ev.Jr ?_;refine Ev.mh ?_;refine Ev.var rfl ?_;refine⟨_,rfl,Ev.int ⟨_,rfl,_,rfl,_, .inl rfl,_,rfl,∅,∅,?_⟩⟩;rw[show((cs.map e7).length:Int).toNat=cs.length by omega];refine⟨λi ρ=>∃(x3 x4:Sl),ρ=[.d false (bE p n cs), .d false (bI wd), .bR A2 true ((bK p cs wd i).map kM),x3,x4],⟨_,_,rfl⟩,?_,?_⟩
  · rintro i d ρ' ⟨hi,rfl⟩ ⟨x3,x4,rfl⟩
    have hfl:=vQ (p:=p) (cs:=cs) (wd:=wd) ∅ hN.rg (i:=i) ∅;rfl';refine Ev.cZ Hr ?_;rfl';refine⟨rfl,p,n,0+(i:Int),cs,wd,rfl,hN,hW,∅,∅,?_⟩;rw[show(0+(i:Int)).toNat=i by omega]
    have ef:bK p cs wd (i+1)=match cG p (cs.getD i []) 0 wd with
      |some (a,x)=>if a∈(bK p cs wd i).map (·.1) then bK p cs wd i else bK p cs wd i++[(a,(i:Int),x)]
      |none=>bK p cs wd i:=by rw[bK]<;>rfl
    cases ht:cG p (cs.getD i []) 0 wd with
    | none =>
      rw[ht] at ef;dsimp only at ef;show Gv _ _ _ _ iq _;rfl';show∃(x3 x4:Sl),(_:Rh)=[Sl.d false (bE p n cs),Sl.d false (bI wd),Sl.bR A2 true ((bK p cs wd (i+1)).map kM),x3,x4];rw[ef];exact⟨_,_,rfl⟩
    | some O =>
      obtain⟨a,x⟩:=O;rw[ht] at ef;dsimp only at ef;show Gv _ _ _ _ (eA [.int a, .int x]) _;rfl';refine Ev.KL rfl ?_;rfl';rw[vt];by_cases c:a∈(bK p cs wd i).map (·.1)
      · rw[if_pos c] at ef
        have:jQ ((bK p cs wd i).map kM) a=true:=by rw[wA,sj];exact c
        rw[this];rfl';show∃(x3 x4:Sl),(_:Rh)=[Sl.d false (bE p n cs),Sl.d false (bI wd),Sl.bR A2 true ((bK p cs wd (i+1)).map kM),x3,x4];rw[ef];exact⟨_,_,rfl⟩
      · rw[if_neg c] at ef
        have:jQ ((bK p cs wd i).map kM) a=false:=by rw[<-p1,wA,sj];exact c
        rw[this];generalize z:(gE _ (pO (cH 2) _ _):TS)=tl;rfl';subst z;refine Sv.ID rfl ?_;rfl';refine⟨by rw[ak];omega,?_⟩;show∃(x3 x4:Sl),(_:Rh)=[Sl.d false (bE p n cs),Sl.d false (bI wd),Sl.bR A2 true ((bK p cs wd (i+1)).map kM),x3,x4];rw[ef,cI];unfold tO;rw[this,show(0+(i:Int))=i by omega];exact⟨_,_,rfl⟩
  · rintro ρ' ⟨x3,x4,rfl⟩
    have hfl:=vQ (p:=p) (cs:=cs) (wd:=wd) ∅ hN.rg (i:=cs.length) (aH _);refine Sv.ret (aq.ev (aq.ju ⋯ rfl ?_));refine aq.ev (aq.Ly rfl (by rw[ak];omega) λN o b=>?_);rw[sj] at b;obtain⟨ms,rfl,t⟩:=HL b _ rfl;have hmr:=JL t o;have hml:ms.length<=wd.length:=by rw[t.length_eq];exact hfl
    refine⟨_,rfl,by rw[ak,ak];omega,λv=>⟨true,λi ds=>ds=(ms.take i).map cz,rfl,?_,?_⟩⟩
    · rintro i d ds hd hl' rfl
      obtain⟨a,ha,rfl⟩:=fB hd;obtain⟨m,hm,rfl⟩:=fB ha;have hv:=Cc (nO (p:=p) (cs:=cs) (wd:=wd) cs.length) (t.mem_iff.mp (fQ hm));rfl';refine⟨by walk_at "wk",?_⟩;rfl';refine Ev.Io rfl ?_;rfl';refine⟨_,hv,λ_=>rfl,?_⟩;show _=cj _ (hJ (i+1) ms);rw[Bf hm,cI]
      rfl
    · rintro ds hl' rfl
      rw[ak,ak,fW,hmr,sO];exact q
def Ge:DF:=λds Φ=>∃(p n:Int) (cs:List aA),ds=[bE p n cs]/\cs.length<=10000/\(∀prs∈cs,prs.length<=10000)/\∀f,Φ f (bE p n cs)
theorem VB:cM Ge:=by
 intro ds Φ Ψ hm z;revert hm;walk_at "mo";exact λq=>λf=>z _ _ (q f)
theorem Hc:bH ["net"] ["net"] (aE z4):=⟨rfl,rfl,rfl,by decide+kernel,rfl,by decide+kernel,by decide+kernel⟩
theorem TZ(F:bA K "copied" "copied" z4 f fd)(bY:mg "list"=none):
  aW P w K mg base bu 1 f fd ["net"] (aU 1 Ge):=by
 refine F.ok Hc (λvs H Q E h=>h.1) (λcdv A outer s H vs Q E hr h=>?_);obtain⟨nb,ds,Φ,g,u,I,M⟩:=fL h;obtain⟨p,n,cs,rfl,hl,k,q⟩:=M;refine⟨_,(@aC _ _ _ (@aM _ _ _ _ (@bQ _ _ _ _ _ (@aa _ _ _ _ _ (@au _ _ _ _ _ _ (aT K) aV (pv 0) aj (λ_ _=>rfl)) (@aa _ _ _ _ _ (@au _ _ _ _ _ _ (aT K) aV (pv 0) aj (λ_ _=>rfl)) (@aa _ _ _ _ _ (gC (dw.of (show dO (aE z4) ["net"] _ ["pairs"] [none]=true by decide+kernel)) (gx (K:=K) rfl (@au _ _ _ _ _ _ (aT K) aV (pv 0) aj (λ_ _=>rfl))) (λ_ _ _ _=>⟨(aO (i:=0) (by show bp (["pairs"]:List Str);decide+kernel) rfl (ay rfl)),gM,(@iB _ _ _ _ _ _ _ _ (iS K) jW rfl bY iR (@aa _ _ _ _ _ (pv 0) af rfl) ⋯ ⋯ (by rfl) (by rfl))⟩)) af rfl) rfl) rfl)))),?_⟩;refine Sv.fF g u I (ρ:=[.d false _]) rfl ?_;clear I u;rfl';refine aq.ev (aq.ju ⋯ rfl ?_);rfl';refine⟨by rw[ak];exact hl,λv=>⟨false,λi ds=>ds=(cs.take i).map e7,rfl,?_,?_⟩⟩
 .rintro i d ds hd hl' rfl;obtain⟨prs,D,rfl⟩:=fB hd;rfl';refine⟨by walk_at "wk",?_⟩;rfl';refine⟨λz=>(by cases z),?_⟩;show _=cj e7 (hJ (i+1) cs);rw[Bf D,cI]
  rfl
 .rintro ds hl' rfl;rw[ak,fW];rfl';exact q _
def uz(C:ax):CF:=λc ds Φ=>∃(x dx l:ax) (p n:Int) (cs:List aA) (wd:Wo),c=bV C x dx (kc (bE p n cs) l wd)/\ds=[]/\dZ p cs wd.length/\dU wd/\wd.length<=4000/\Φ (bV C x dx (kc (bE p n cs) l (A4 wd (aR p cs wd)))) true (dS (aR p cs wd))
theorem Lj{C:ax}:pP (uz C):=by
 intro c ds Φ Ψ h z;obtain⟨x,dx,l,p,n,cs,wd,e1,e2,h1,h2,h3,q⟩:=h;exact⟨x,dx,l,p,n,cs,wd,e1,e2,h1,h2,h3,z _ _ _ q⟩
theorem uq:bH ["self","found","place","c","letter"] ["self"] (aE qX):=⟨rfl,rfl,rfl,by decide+kernel,rfl,by decide+kernel,by decide+kernel⟩
theorem BM(F:bA K "step" "Mender.step" qX f fd){bB:ax}(j:fR K bB)(t:gY K bB "net")(r:gY K bB "letters")(k:Callee P w K mg base "round_of" 5 ["net","word"] (aU 2 CT)):
  aW P w K mg base bu 6 f fd ["self"] (iZ 1 (uz bB)):=by
 refine F.ok uq (λvs H Q E h=>h.1) (λcdv A outer s H vs Q E hr h=>?_);obtain⟨_,nb,c,ws,ds,rfl,g,D,b,o,u,M⟩:=h;obtain⟨Φ,I,M⟩:∃Φ:Cu->Pd,(∀c' f d v H',Φ c' f d->rq c c' H H'->c'.P (λa=>nb a\/a∈c'.F) H'->ai (λa=>nb a\/a∈c'.F\/(f=true/\H a≠none)) H' d v->Q v H')/\uz bB c ds Φ:=⟨_,λc' f d v H' q=>q v H',M⟩;obtain⟨x,dx,l,p,n,cs,wd,rfl,rfl,hN,hW,hl,q⟩:=M;refine⟨_,(@ao _ _ _ _ _ (@aJ _ _ (1) _ _ _ _ uq.nd rfl (ay rfl) (@aD _ _ _ _ _ _ _ _ _ _ k (hr.mono ⋯) (@aa _ _ _ _ _ (@xh _ _ _ _ _ (pv 0) rfl) (@aa _ _ _ _ _ (@xh _ _ _ _ _ (pv 0) rfl) af rfl) rfl) (by rfl) ⋯ (by rfl) (by rfl)) (by rfl) (by first|exact .inl rfl|exact .inr rfl|assumption)) (@ao _ _ _ _ _ (@iT _ _ _ _ _ _ _ _ gW rfl (gx (K:=K) rfl (pv 1)) (@i9 _ (K) _ _ _ (3) _ rfl rfl (@cF _ _ _ _ _ (aO (i:=2) uq.nd rfl (ay rfl)) (@cF _ _ _ _ _ (aO (i:=3) uq.nd rfl (ay rfl)) (@cF _ _ _ _ _ (aO (i:=4) uq.nd rfl (ay rfl)) iN (by rfl)) (by rfl)) (by rfl)) (by rfl) (by rfl)) (@aC _ _ _ (@gD _ _ _ _ _ _ (pv 4) (jx (@xh _ _ _ _ _ (pv 0) rfl) (pv 2) set_list) (by rfl) (by rfl) (by rfl))) (by intro _;rfl)) (@aC _ _ _ (@aM _ _ _ _ (pv 1))))),?_⟩;refine Sv.v5 g D b o u I (ρ:=[.cu _, .no, .no, .no, .no]) rfl ?_;clear I u;have p2:=hN.1.1;refine Sv.seq ?_;refine Sv.asg ?_;refine Ev.Hy Gc ?_;refine jR.cons (Ev.fld rfl j t rfl ?_);refine jR.fld rfl j r rfl ?_;refine jR.nil ?_;refine⟨rfl,p,n,cs,wd,rfl,hN,hW,hl, .inl rfl,?_⟩;refine Gv.name ?_;refine Sv.seq ?_;refine Sv.forL ?_;refine Ev.var rfl ?_;refine⟨_,rfl,λv=>⟨λi ρ=>∃(x2 x3 x4:Sl),ρ=[.cu (bV bB x dx (kc (bE p n cs) l (A4 wd ((aR p cs wd).take i)))), .d true (dS (aR p cs wd)),x2,x3,x4],⟨_,_,_,rfl⟩,?_,?_⟩⟩
 .rintro i d ρ hd ⟨x2,x3,x4,rfl⟩;obtain⟨m,hm,rfl⟩:=fB hd;obtain⟨b1,b2,b3,b4,b5⟩:=rY ∅ (fQ hm) hN.rg;generalize z:(gE (cH 4) _:TS)=tl;rfl';subst z;refine Sv.Lo rfl j r rfl ?_;rfl';refine⟨_,m.1.toNat,rfl,su b1 (by rw[ak,iy];omega),?_⟩;have e:((A4 wd ((aR p cs wd).take i)).map bS).set m.1.toNat (.int m.2.2)=(A4 wd ((aR p cs wd).take (i+1))).map bS:=by
   rw[Bf hm,xu];show _=((A4 wd ((aR p cs wd).take i)).set m.1.toNat (some m.2.2)).map bS;rw[uy]
   rfl
  rw[e,Ud];exact⟨_,_,_,rfl⟩
 .rintro ρ ⟨x2,x3,x4,rfl⟩;rw[ak,fW];refine Sv.Ci (gH.of ?_);refine Ev.var rfl ?_;intro aN v' H' hv;exact⟨_,_,_,rfl,⟨rfl,rfl,λa m=>m⟩,q,hv⟩
def sD(C:ax):CF:=λc ds Φ=>∃(x dx l:ax) (p n:Int) (cs:List aA) (wd:Wo),c=bV C x dx (kc (bE p n cs) l wd)/\ds=[]/\dZ p cs wd.length/\dU wd/\wd.length<=4000/\Φ (bV C x dx (kc (bE p n cs) l (fG p cs wd))) true (.list ((cX p cs wd).map dS))
theorem Fh{C:ax}:pP (sD C):=by
 intro c ds Φ Ψ h z;obtain⟨x,dx,l,p,n,cs,wd,e1,e2,h1,h2,h3,q⟩:=h;exact⟨x,dx,l,p,n,cs,wd,e1,e2,h1,h2,h3,z _ _ _ q⟩
theorem xy:bH ["self","rounds","found"] ["self"] (aE qz):=⟨rfl,rfl,rfl,by decide+kernel,rfl,by decide+kernel,by decide+kernel⟩
theorem TF(F:bA K "mend" "Mender.mend" qz f fd){bB:ax}(e:n6 P w K mg base bB "step" 6 ["self"] (iZ 1 (uz bB))):
  aW P w K mg base bu 7 f fd ["self"] (iZ 1 (sD bB)):=by
 refine F.ok xy (λvs H Q E h=>h.1) (λcdv A outer s H vs Q E hr h=>?_);obtain⟨_,nb,c,ws,ds,rfl,g,D,b,o,u,M⟩:=h;obtain⟨Φ,I,M⟩:∃Φ:Cu->Pd,(∀c' f d v H',Φ c' f d->rq c c' H H'->c'.P (λa=>nb a\/a∈c'.F) H'->ai (λa=>nb a\/a∈c'.F\/(f=true/\H a≠none)) H' d v->Q v H')/\sD bB c ds Φ:=⟨_,λc' f d v H' q=>q v H',M⟩;obtain⟨x,dx,l,p,n,cs,wd,rfl,rfl,hN,hW,hl,q⟩:=M;refine⟨_,(@ao _ _ _ _ _ (@aJ _ _ (1) _ _ _ _ xy.nd rfl (ay rfl) (@eV _ _ _ _ af) (by rfl) (by first|exact .inl rfl|exact .inr rfl|assumption)) (@ao _ _ _ _ _ (@aJ _ _ (2) _ _ _ _ xy.nd rfl (ay rfl) (@wF _ _ _ _ _ _ _ _ _ _ _ e (pv 0) (hr.mono ⋯) (by rfl)) (by rfl) (by first|exact .inl rfl|exact .inr rfl|assumption)) (@ao _ _ _ _ _ (@DV _ _ _ _ _ _ gW (@aS _ _ _ _ _ _ _ _ (Hq hr.units) (pv 2) (@eV _ _ _ _ af) (aQ _)) (@ao _ _ _ _ _ (@rC _ _ _ _ (j8 qy ux ug rj (pv 1) (@aa _ _ _ _ _ (pv 2) af rfl)) (by rfl)) (@aC _ _ _ (@aJ _ _ (2) _ _ _ _ xy.nd rfl (ay rfl) (@wF _ _ _ _ _ _ _ _ _ _ _ e (pv 0) (hr.mono ⋯) (by rfl)) (by rfl) (by first|exact .inl rfl|exact .inr rfl|assumption))))) (@aC _ _ _ (@aM _ _ _ _ (pv 1)))))),?_⟩;refine Sv.v5 g D b o u I (ρ:=[.cu _, .no, .no]) rfl ?_;clear I u;have p2:=hN.1.1;have key:∀{w:Wo},w.length=wd.length->dZ p cs w.length:=λ{w} h=>by rw[h];exact hN
 refine Sv.seq ?_;refine Sv.sF ?_;intro A1;refine Sv.seq ?_;refine Sv.DT (gH.Ai Lj rfl rfl (bV.is rfl) ?_);refine Av.nil ?_;refine⟨rfl,x,dx,l,p,n,cs,wd,rfl,rfl,hN,hW,hl,?_⟩;refine Gv.name ?_;refine Sv.seq ?_;refine Sv.JH (λρ=>∃(w:Wo) (st:List (List bf)),w.length=wd.length/\dU w/\st++cX p cs w=cX p cs wd/\fG p cs w=fG p cs wd/\ρ=[.cu (bV bB x dx (kc (bE p n cs) l (A4 w (aR p cs w)))), .own A1 true (st.map dS), .d true (dS (aR p cs w))]) (λ(ρ:Rh)=>match ρ[1]? with|some (Sl.own _ _ ds)=>wd.length-ds.length|_=>0) ⟨wd,[],rfl,hW,rfl,rfl,rfl⟩ ?_;rintro ρ' ⟨w,st,hwl,hwW,h1,h2,rfl⟩;have jM:=key hwl;rfl';refine⟨Mx _,Oc,_,rfl,?_⟩;rw[mP,JF];by_cases c:aR p cs w=[]
 .rw[if_neg (by rw[decide_eq_true c];simp)];rw[AM c,fY] at h1;rw[NU c] at h2;subst h1 h2;rw[c];refine Sv.qR 1 rfl ?_;refine Sv.Ci (gH.of ?_);refine Ev.var rfl ?_;intro aN v' H' hv;exact⟨_,_,_,rfl,⟨rfl,rfl,λa m=>m⟩,q,hv⟩
 rw[if_pos (by rw[decide_eq_false c];rfl)];have hl':=CC (p:=p) (cs:=cs) (wd:=wd);rw[<-h1,uV ∅ jM.rg c,cK,eB] at hl';rw[uV ∅ jM.rg c] at h1;rw[Lq ∅ jM.rg c] at h2;have i:dZ p cs (A4 w (aR p cs w)).length:=by rw[iy];exact jM
 have Kw:=Ml jM hwW;refine Sv.seq ?_;refine Sv.append rfl ?_;refine Ev.var rfl ?_;refine⟨by rw[ak];omega,?_⟩;refine Sv.DT (gH.Ai Lj rfl rfl (bV.is rfl) ?_);refine Av.nil ?_;refine⟨rfl,x,dx,l,p,n,cs,A4 w (aR p cs w),rfl,rfl,i,Kw,by rw[iy,hwl];exact hl,?_⟩;refine Gv.name ?_;refine⟨⟨A4 w (aR p cs w),st++[aR p cs w],by rw[iy];exact hwl,Kw,by rw[fS];exact h1,h2,by rw[cI];rfl⟩,?_⟩;show wd.length-(cj dS st++[_]).length<wd.length-(cj dS st).length;rw[cK,jn,ak];omega
def tS(C:ax):CF:=λc ds Φ=>∃(x dx l:ax) (nd:PyData) (wd:Wo),c=bV C x dx (kc nd l wd)/\ds=[]/\Φ (bV C x dx (kc nd l wd)) true (bI wd)
theorem Y4{C:ax}:pP (tS C):=by
 intro c ds Φ Ψ h z;obtain⟨x,dx,l,nd,wd,e1,e2,q⟩:=h;exact⟨x,dx,l,nd,wd,e1,e2,z _ _ _ q⟩
theorem RM:bH ["self"] ["self"] (aE qi):=⟨rfl,rfl,rfl,by decide+kernel,rfl,by decide+kernel,by decide+kernel⟩
theorem F1(F:bA K "word" "Mender.word" qi f fd){bB:ax}(j:fR K bB)(r:gY K bB "letters")(bY:mg "list"=none):
  aW P w K mg base bu 1 f fd ["self"] (iZ 1 (tS bB)):=by
 refine F.ok RM (λvs H Q E h=>h.1) (λcdv A outer s H vs Q E hr h=>?_);obtain⟨_,nb,c,ws,ds,rfl,g,D,b,o,u,M⟩:=h;obtain⟨Φ,I,M⟩:∃Φ:Cu->Pd,(∀c' f d v H',Φ c' f d->rq c c' H H'->c'.P (λa=>nb a\/a∈c'.F) H'->ai (λa=>nb a\/a∈c'.F\/(f=true/\H a≠none)) H' d v->Q v H')/\tS bB c ds Φ:=⟨_,λc' f d v H' q=>q v H',M⟩;obtain⟨x,dx,l,nd,wd,rfl,rfl,q⟩:=M;refine⟨_,(@aC _ _ _ (@aM _ _ _ _ (@iB _ _ _ _ _ _ _ _ (iS K) jW rfl bY iR (@aa _ _ _ _ _ (@xh _ _ _ _ _ (pv 0) rfl) af rfl) ⋯ ⋯ (by rfl) (by rfl)))),?_⟩;refine Sv.v5 g D b o u I (ρ:=[.cu _]) rfl ?_;clear I u;refine Sv.Ci (gH.of (aq.ev (aq.IH rfl j r rfl ?_)));rw[Xo];intro aN v' H' hv;exact⟨_,_,_,rfl,⟨rfl,rfl,λa m=>m⟩,q,hv⟩
def uA(C:ax):CF:=λc ds Φ=>∃(x dx:ax) (p n:Int) (cs:List aA) (wd:Wo),c=bV C x dx []/\ds=[bE p n cs,bI wd]/\cs.length<=10000/\(∀prs∈cs,prs.length<=10000)/\∀l,Φ (bV C x dx (kc (bE p n cs) l wd)) true .none
theorem WE{C:ax}:pP (uA C):=by
 intro c ds Φ Ψ h z;obtain⟨x,dx,p,n,cs,wd,e1,e2,h1,h2,q⟩:=h;exact⟨x,dx,p,n,cs,wd,e1,e2,h1,h2,λl=>z _ _ _ (q l)⟩
theorem Dp:bH ["self","net","word"] ["self","net","word"] (aE rR):=⟨rfl,rfl,rfl,by decide+kernel,rfl,by decide+kernel,by decide+kernel⟩
theorem Y5(F:bA K "__init__" "Mender.__init__" rR f fd){bB:ax}(j:fR K bB)(t:gY K bB "net")(r:gY K bB "letters")(e:Callee P w K mg base "copied" 1 ["net"] (aU 1 Ge))(bY:mg "list"=none):
  aW P w K mg base bu 2 f fd ["self","net","word"] (iZ 3 (uA bB)):=by
 refine F.ok Dp (λvs H Q E h=>h.1) (λcdv A outer s H vs Q E hr h=>?_);obtain⟨_,nb,c,ws,ds,rfl,g,D,b,o,u,M⟩:=h;obtain⟨Φ,I,M⟩:∃Φ:Cu->Pd,(∀c' f d v H',Φ c' f d->rq c c' H H'->c'.P (λa=>nb a\/a∈c'.F) H'->ai (λa=>nb a\/a∈c'.F\/(f=true/\H a≠none)) H' d v->Q v H')/\uA bB c ds Φ:=⟨_,λc' f d v H' q=>q v H',M⟩;obtain⟨x,dx,p,n,cs,wd,rfl,rfl,hl,k,q⟩:=M;refine⟨_,(@ao _ _ _ _ _ (@MP _ _ _ _ _ _ _ _ (pv 0) (@aD _ _ _ _ _ _ _ _ _ _ e (hr.mono ⋯) (@aa _ _ _ _ _ (pv 1) af rfl) (by rfl) ⋯ (by rfl) (by rfl)) rfl) (@aC _ _ _ (@MP _ _ _ _ _ _ _ _ (pv 0) (@iB _ _ _ _ _ _ _ _ (iS K) jW rfl bY iR (@aa _ _ _ _ _ (pv 2) af rfl) ⋯ ⋯ (by rfl) (by rfl)) rfl))),?_⟩;refine Sv.v5 g D b o u I (ρ:=[.cu _, .d false _, .d false _]) rfl ?_;clear I u;refine Sv.seq ?_;refine Sv.Yi rfl j t (.inl rfl) ⋯ ?_;refine Ev.cZ VB ?_;rfl';refine⟨rfl,p,n,cs,rfl,hl,k,λf=>?_⟩;refine Sv.Z2 rfl j r rfl (Ao rfl) ?_;refine aq.listOf ?_;rfl';intro l;exact⟨_,rfl,⟨rfl,rfl,λa m=>qC [l] m⟩,q l⟩
def FD:DF:=λds Φ=>∃(p n:Int) (cs:List aA) (wd:Wo),ds=[bE p n cs,bI wd]/\dZ p cs wd.length/\dU wd/\wd.length<=4000/\Φ true (.tuple [bI (fG p cs wd), .list ((cX p cs wd).map dS)])
theorem RK:cM FD:=by
 intro ds Φ Ψ hm z;revert hm;walk_at "mo";exact λq=>z _ _ q
theorem FY:bH ["net","word","mender","rounds"] ["net","word"] (aE Gh):=⟨rfl,rfl,rfl,by decide+kernel,rfl,by decide+kernel,by decide+kernel⟩
theorem RY(F:bA K "mended" "mended" Gh f fd){bB:ax}(b:n6 P w K mg base bB "mend" 7 ["self"] (iZ 1 (sD bB)))(a:n6 P w K mg base bB "word" 1 ["self"] (iZ 1 (tS bB)))(c:Dl P w K mg base bB "Mender" 2 ["self","net","word"] (iZ 3 (uA bB))):
  aW P w K mg base bu 8 f fd ["net","word"] (aU 2 FD):=by
 refine F.ok FY (λvs H Q E h=>h.1) (λcdv A outer s H vs Q E hr h=>?_);obtain⟨nb,ds,Φ,g,u,I,M⟩:=fL h;obtain⟨p,n,cs,wd,rfl,hN,hW,hl,q⟩:=M;refine⟨_,(@ao _ _ _ _ _ (@aJ _ _ (2) _ _ _ _ FY.nd rfl (ay rfl) (@Vj _ _ _ _ _ _ _ _ _ _ _ c (hr.mono ⋯) (@aa _ _ _ _ _ (pv 0) (@aa _ _ _ _ _ (pv 1) af rfl) rfl) (by rfl) ⋯ (by rfl) (by rfl)) (by rfl) (by first|exact .inl rfl|exact .inr rfl|assumption)) (@ao _ _ _ _ _ (@aJ _ _ (3) _ _ _ _ FY.nd rfl (ay rfl) (@wF _ _ _ _ _ _ _ _ _ _ _ b (pv 2) (hr.mono ⋯) (by rfl)) (by rfl) (by first|exact .inl rfl|exact .inr rfl|assumption)) (@aC _ _ _ (@aM _ _ _ _ (@bQ _ _ _ _ _ (@aa _ _ _ _ _ (@wF _ _ _ _ _ _ _ _ _ _ _ a (pv 2) (hr.mono ⋯) (by rfl)) (@aa _ _ _ _ _ (pv 3) af rfl) rfl)))))),?_⟩;refine Sv.fF g u I (ρ:=[.d false _, .d false _, .no, .no]) rfl ?_;clear I u;have hcl:=hN.2.2.1;refine Sv.seq ?_;refine Sv.make WE ?_;rfl';refine⟨rfl,λx dx=>⟨x,dx,p,n,cs,wd,rfl,rfl,∅,λprs hp=>by have:=(hN.2.2.2 prs hp).1;omega,λl=>⟨rfl,?_⟩⟩⟩;refine Sv.seq ?_;refine Sv.DT (gH.Ai Fh rfl rfl (bV.is rfl) ?_);refine Av.nil ?_;refine⟨rfl,x,dx,l,p,n,cs,wd,rfl,rfl,hN,hW,hl,?_⟩;refine Gv.name ?_;refine Sv.retS (gH.tup ?_);refine yZ.cons (gH.Ai Y4 rfl rfl (bV.is rfl) ?_);refine Av.nil ?_;refine⟨rfl,x,dx,l,_,fG p cs wd,rfl,rfl,?_⟩;rfl';exact q
def xq:DF:=λds Φ=>∃(f:Str) (os:List Str),ds=[.str f, .list (os.map .str)]/\os.length<=1000/\wt (sg 32) (f::os)=true/\Φ true (.str (eT f os))
theorem WO:cM xq:=by
 intro ds Φ Ψ hm z;revert hm;walk_at "mo";exact λq=>z _ _ q
theorem SW:bH ["first","others"] ["first","others"] (aE Br):=⟨rfl,rfl,rfl,by decide+kernel,rfl,by decide+kernel,by decide+kernel⟩
theorem SO(F:bA K "row_of" "row_of" Br f fd):
  aW P w K mg base bu 1 f fd ["first","others"] (aU 2 xq):=by
 refine F.ok SW (λvs H Q E h=>h.1) (λcdv A outer s H vs Q E hr h=>?_);obtain⟨nb,ds,Φ,g,u,I,M⟩:=fL h;obtain⟨Y,os,rfl,hl,hok,q⟩:=M;refine⟨_,(@aC _ _ _ (@aM _ _ _ _ (qG (K:=K) rfl (j8 qj Nl OD Ke gc (@aa _ _ _ _ _ (@aG _ _ _ _ _ _ _ _ p8 (@eV _ _ _ _ (@aa _ _ _ _ _ (pv 0) af rfl)) (pv 1)) af rfl))))),?_⟩;refine Sv.fF g u I (ρ:=[.d false _, .d false _]) rfl ?_;clear I u;have m:(os.map er).length=os.length:=ak ..;refine Sv.ret (Ev.join (Ev.str ⟨_,rfl,?_⟩));rfl';refine⟨by rw[m];show 1+_<=_;omega,Y::os,rfl,hok,q⟩
def BW:DF:=λds Φ=>∃(x:Str) (j n:Int),ds=[.str x, .int j]/\x.length<=640/\rE x j=some n/\Φ true (.int n)
theorem Ky:cM BW:=by
 intro ds Φ Ψ hm z;revert hm;walk_at "mo";exact λq=>z _ _ q
theorem KJ:bH ["text","most","figures"] ["text","most"] (aE yz):=⟨rfl,rfl,rfl,by decide+kernel,rfl,by decide+kernel,by decide+kernel⟩
theorem BD(F:bA K "read_whole" "read_whole" yz f fd)(gV:mg "int"=none)(bh:mg "len"=none)(jO:mg "all"=none){U:Tok}(BU:mg "FIGURES"=some (.str "0123456789" U)):
    aW P w K mg base bu 1 f fd ["text","most"] (aU 2 BW):=by
  refine F.ok KJ (λvs H Q E h=>h.1) (λcdv A outer s H vs Q E hr h=>?_);obtain⟨nb,ds,Φ,g,u,I,M⟩:=fL h;obtain⟨x,j,R,rfl,hl,hv,q⟩:=M;refine⟨_,(@ao _ _ _ _ _ (@aJ _ _ (2) _ _ _ _ KJ.nd rfl (ay rfl) (@o9 _ _ _ _ _ _ _ _ (@kD _ (K) _ _ rfl (qG (K:=K) rfl (j8 qj LX O9 JN (pv 0) (@aa _ _ _ _ _ gc af rfl))) (λ_=>rfl)) (@lZ _ _ _ _ _ _ _ _ _ (DC) Ub (pv 0) (@mH _ _ _ aj) mT) (pv 0)) (by rfl) (by first|exact .inl rfl|exact .inr rfl|assumption)) (@ao _ _ _ _ _ (@cy _ _ _ _ _ _ _ _ (PW.pt (kC (@aS _ _ _ _ _ _ _ _ rm (@bX _ _ _ _ _ _ _ _ (xj) Py rfl bh fE (@aa _ _ _ _ _ (pv 2) af rfl) ⋯ ⋯ (by rfl) (by rfl)) aj (aQ _)) (kC (@aS _ _ _ _ _ _ _ _ DP (@bX _ _ _ _ _ _ _ _ (xj) Py rfl bh fE (@aa _ _ _ _ _ (pv 2) af rfl) ⋯ ⋯ (by rfl) (by rfl)) (pv 1) (aQ _)) (lC (@nu _ _ _ _ (@kD _ (K) _ _ rfl (@bX _ _ _ _ _ _ _ _ (zI K) (Kr rfl) rfl jO PX (@aa _ _ _ _ _ (gC (dw.of (show dO (aE yz) ["text","most","figures"] _ ["sign"] [none]=true by decide+kernel)) (UN (pv 2)) (λ_ _ _ _=>⟨(aO (i:=0) (by show bp (["sign"]:List Str);decide+kernel) rfl (ay rfl)),gM,(@oM _ _ _ _ _ _ _ _ OI (pv 0) (Mr (v:= .str "0123456789") rfl BU ⟨_,rfl⟩) (by with_unfolding_all rfl))⟩)) af rfl) ⋯ ⋯ (by rfl) (by rfl)) (λ_=>rfl))))))) (@aC _ _ _ zx) cJ) (@ao _ _ _ _ _ (@cy _ _ _ _ _ _ _ _ (PW.pt (oq (@kD _ (K) _ _ rfl (qG (K:=K) rfl (j8 qj LX O9 JN (pv 2) (@aa _ _ _ _ _ gc af rfl))) (λ_=>rfl)) (nG (@aS _ _ _ _ _ _ _ _ iw (pv 0) gc (aQ _))))) (@aC _ _ _ zx) cJ) (@aC _ _ _ (@aM _ _ _ _ (@iB _ _ _ _ _ _ _ _ (yr) ZZ rfl gV uH (@aa _ _ _ _ _ (pv 0) af rfl) ⋯ ⋯ (by rfl) (by rfl))))))),?_⟩;refine Sv.fF g u I (ρ:=[.d false _, .d false _, .no]) rfl ?_;clear I u;have hsz:x.length<=sizeLine:=eS hl ⋯;have hcl:x.cps.toList.length=x.length:=by simp[eQ]
  refine Sv.seq ?_;refine Sv.sS (λC=>∃(y:Str) (f:Bool),y.cps.toList=gR x/\C=[.d false (.str x), .d false (.int j), .d f (.str y)]) ?_ ?_
  · refine Sv.asg (Ev.Jk (Tv.z0 ?_))
    refine Ev.starts (Ev.var rfl ⟨x,rfl,Ev.str ⟨_,rfl,_,rfl,?_⟩⟩);rw[show(dA "-")=(⟨#[45]⟩:Str) by decide,Ow];by_cases c:x.cps.toList.head?=some 45
    · rw[if_pos (decide_eq_true c)]
      refine Ev.ZN (Ev.var rfl ⟨x,rfl,hsz,Ov.some (Ev.int ⟨_,rfl,Ov.none ?_⟩)⟩);refine Gv.name ?_;refine⟨_,_,?_,rfl⟩;unfold gR;rw[VM ⋯,if_pos c]
      rfl
    · rw[if_neg (by simpa using c)]
      refine Ev.var rfl ?_;refine Gv.name ?_;refine⟨x,_,?_,rfl⟩;unfold gR;rw[if_neg c]
  rintro ρ ⟨y,fy,hy,rfl⟩;have o:(gR x).length=y.length:=by rw[<-hy];simp[eQ]
  have S:y.cps.size=y.length:=rfl;have hfl:(gR x).length<=x.length:=by
    rw[<-hcl];unfold gR;split;· rw[rF];omega
    · exact aH _
  have O:y.length<=sizeLine:=∅
  have G:¬pG x j->False:=λh=>by rw[Qu h] at hv;cases hv
  have p:∀{P:Prop},¬pG x j->P:=λh=>(G h).elim;refine Sv.seq ?_;refine Sv.kP ?_;refine Tv.or ?_;refine Tv.test ?_;refine Ev.G3 ?_;refine Ev.OS (Ev.var rfl ⟨y,rfl,O,_,rfl,Ev.int ⟨_,rfl,_,rfl,?_⟩⟩);by_cases c1:(y.length:Int)<1
  · rw[if_pos (decide_eq_true c1),if_pos rfl]
    exact p λh=>h.1 (nA.mp ∅)
  rw[if_neg (by simpa using c1)];refine Tv.or ?_;refine Tv.test ?_;refine Ev.G3 ?_;refine Ev.OS (Ev.var rfl ⟨y,rfl,O,_,rfl,Ev.var rfl ⟨_,rfl,_,rfl,?_⟩⟩);by_cases c2:j<(y.length:Int)
  · rw[if_pos (decide_eq_true c2),if_pos rfl]
    exact p λh=>by have:=h.2.1;omega
  rw[if_neg (by simpa using c2)];refine Tv.not ?_;refine Tv.z0 ?_;refine Ev.all ?_;refine aq.ev (aq.Rl ⋯ rfl ?_);refine Ev.var rfl ⟨y,rfl,∅,?_⟩;refine g6.rel mi true (λi b=>∃c,y.cps[i]?=some c/\b=decide (48<=c/\c<=57)) ?_ λbs An L=>?_
  · rintro i d ⟨c,hc,rfl⟩
    refine Gv.name ?_;refine⟨by walk_at "wk",?_⟩;refine Ev.vv (Ev.var rfl ⟨_,rfl,Ev.str ⟨_,rfl,?_⟩⟩);refine⟨λ_=>rfl,_,rfl,c,hc,?_⟩;rw[tq];exact Uc c
  refine⟨bs,rfl,_,rfl,?_⟩;have k:bs.all id=true↔lh (gR x):=by
    rw[qv,<-hy];constructor
    · intro h c hc
      obtain⟨i,hi⟩:=oF hc;have hil:=(bT.mp hi).1;have N:i<bs.length:=by rw[An];simpa using hil
      obtain⟨c',l,e⟩:=L i _ (bw N);have:=h _ (fZ N);rw[e] at this;rw[jj] at hi;rw[hi] at l;cases l;exact of_decide_eq_true this
    · intro h b hb
      obtain⟨i,hi⟩:=oF hb;obtain⟨c,hc,e⟩:=L i b hi;rw[e];exact decide_eq_true (h c (fQ (by rw[jj];exact hc)))
  by_cases T:lh (gR x)
  case neg=>
    have:bs.all id=false:=rP.mpr λh=>T (k.mp h);rw[this,if_pos (by rfl)];exact p λh=>T h.2.2.1
  rw[k.mpr T,if_neg ⋯];refine Sv.next ?_
  refine Sv.seq ?_;refine Sv.kP ?_;refine Tv.and ?_;refine Tv.z0 ?_;refine Ev.starts (Ev.var rfl ⟨y,rfl,Ev.str ⟨_,rfl,_,rfl,?_⟩⟩);rw[show(dA "0")=(⟨#[48]⟩:Str) by decide,Ow,hy];have m:pG x j->Sv {B:=none,H0:=H,A:=nb} [.d false (.str x), .d false (.int j), .d fy (.str y)] (kY (fq yr (bz (cH 0) bM))) {nx:=λ_=>Φ true .none,rt:=Φ}:=λh=>by
    obtain⟨n,hn⟩:=OQ h hl;rw[Hx h hn] at hv;cases hv;refine Sv.ret (Ev.RD (Ev.var rfl ⟨x,R,rfl,hl,hn,q⟩))
  by_cases t:(gR x).head?=some 48
  · rw[if_pos (decide_eq_true t)]
    refine Tv.test (Ev.ne (Ev.var rfl (Ev.str ⟨_, .sd _ _,_,rfl,?_⟩)));by_cases D:x=⟨#[48]⟩
    · rw[decide_eq_true D,if_neg ⋯]
      refine Sv.next ?_
      refine m ⟨λz=>?_,∅,T,λz=>?_⟩;· rw[z] at t;cases t
      · have:=z.2
        rw[D] at this;exact absurd this ⋯
    · rw[decide_eq_false D,if_pos (by rfl)]
      refine p λh=>h.2.2.2 ⟨t,?_⟩;refine pz λz=>D (wL ?_);show x.cps.toList=[48];have h1:=h.1;unfold gR at t h1;cases e:x.cps.toList with
      |nil=>rw[e] at t;simp at t
      | cons a r =>
        have hr:r=[]:=nA.mp (by rw[e] at hcl;simp at hcl;omega);subst hr;rw[e] at t h1;by_cases J:a=45;· subst J;simp at h1
        · simp[J] at t
          rw[t]
  · rw[if_neg (by simpa using t),if_neg ⋯]
    refine Sv.next ?_
    exact m ⟨λz=>c1 (by rw[z] at o;simp at o;omega),∅,T,λz=>t z.1⟩
def CQ:DF:=λds Φ=>∃(n:Int),ds=[.str (nS n)]/\n.natAbs<10^60/\Φ true (.int n)
theorem T6:cM CQ:=by
 intro ds Φ Ψ hm z;revert hm;walk_at "mo";exact λq=>z _ _ q
theorem N0:bH ["text"] ["text"] (aE EB):=⟨rfl,rfl,rfl,by decide+kernel,rfl,by decide+kernel,by decide+kernel⟩
theorem KA(F:bA K "read_number" "read_number" EB f fd)(a:Callee P w K mg base "read_whole" 1 ["text","most"] (aU 2 BW)){b:Tok}(GX:mg "MOST_FIGURES"=some (.int 60 b)):
  aW P w K mg base bu 2 f fd ["text"] (aU 1 CQ):=by
 refine F.ok N0 (λvs H Q E h=>h.1) (λcdv A outer s H vs Q E hr h=>?_);obtain⟨nb,ds,Φ,g,u,I,M⟩:=fL h;obtain⟨n,rfl,hn,q⟩:=M;refine⟨_,(@aC _ _ _ (@aM _ _ _ _ (@aD _ _ _ _ _ _ _ _ _ _ a (hr.mono ⋯) (@aa _ _ _ _ _ (pv 0) (@aa _ _ _ _ _ (Mr (v:= .int 60) rfl GX ⟨_,rfl⟩) af rfl) rfl) (by rfl) ⋯ (by rfl) (by rfl)))),?_⟩;refine Sv.fF g u I (ρ:=[.d false _]) rfl ?_;clear I u;obtain⟨hv,hl,_⟩:=rW hn;rfl';refine Ev.cZ Ky ?_;rfl';exact⟨rfl,nS n,60,n,rfl,∅,hv,q⟩
def Hl:DF:=λds Φ=>∃(f:Str) (os:List Str),ds=[.str (eT f os), .str f]/\(eT f os).length+2<=sizeLine/\os.length<=1000/\32∉f.cps.toList/\(∀o∈os,32∉o.cps.toList)/\Φ true (.list (os.map .str))
theorem Tt:cM Hl:=by
 intro ds Φ Ψ hm z;revert hm;walk_at "mo";exact λq=>z _ _ q
theorem Pj:bH ["row","first","parts"] ["row","first"] (aE BC):=⟨rfl,rfl,rfl,by decide+kernel,rfl,by decide+kernel,by decide+kernel⟩
theorem F7(F:bA K "parts_of" "parts_of" BC f fd):
  aW P w K mg base bu 1 f fd ["row","first"] (aU 2 Hl):=by
 refine F.ok Pj (λvs H Q E h=>h.1) (λcdv A outer s H vs Q E hr h=>?_);obtain⟨nb,ds,Φ,g,u,I,M⟩:=fL h;obtain⟨Y,os,rfl,hl,Z,hf,D,q⟩:=M;refine⟨_,(@ao _ _ _ _ _ (@aJ _ _ (2) _ _ _ _ Pj.nd rfl (ay rfl) (qG (K:=K) rfl (j8 qj Iv II Mz (pv 0) (@aa _ _ _ _ _ gc af rfl))) (by rfl) (by first|exact .inl rfl|exact .inr rfl|assumption)) (@ao _ _ _ _ _ (@cy _ _ _ _ _ _ _ _ (@aS _ _ _ _ _ _ _ _ iw (@au _ _ _ _ _ _ (bG K) aX (pv 2) aj (λ_ _=>rfl)) (pv 1) (aQ _)) (@aC _ _ _ zx) cJ) (@aC _ _ _ (@aM _ _ _ _ (@lZ _ _ _ _ _ _ _ _ _ (kN K) nZ (pv 2) (@mH _ _ _ aj) mT))))),?_⟩;refine Sv.fF g u I (ρ:=[.d false _, .d false _, .no]) rfl ?_;clear I u;obtain⟨t,l⟩:=HA (x:=eT Y os) (c:=32) hl;have nj:=RP hf D;rw[nj] at l;refine Sv.seq (Sv.asg (aq.ev (aq.split ?_)));refine Ev.var rfl ⟨_,rfl,Ev.str ⟨_,rfl,?_⟩⟩;rw[show(dA " ")=sg 32 by decide,nj];refine⟨t,l,?_⟩;refine Gv.name ?_;rfl';refine⟨.str Y,iE ⋯ rfl,Ev.var rfl ⟨true, .ss _,_,rfl,?_⟩⟩;rw[if_neg ⋯];rfl';rw[HV ⋯ (by simp;omega)];exact q
def yI:DF:=λds Φ=>∃(f:Str) (ns:List Int),ds=[.str (eT f (ns.map nS)), .str f]/\(eT f (ns.map nS)).length+2<=sizeLine/\ns.length<=1000/\32∉f.cps.toList/\(∀n∈ns,n.natAbs<10^60)/\Φ true (.list (ns.map .int))
theorem Ou:cM yI:=by
 intro ds Φ Ψ hm z;revert hm;walk_at "mo";exact λq=>z _ _ q
theorem VH:bH ["row","first"] ["row","first"] (aE yo):=⟨rfl,rfl,rfl,by decide+kernel,rfl,by decide+kernel,by decide+kernel⟩
theorem Za(F:bA K "numbers_of" "numbers_of" yo f fd)(c:Callee P w K mg base "read_number" 2 ["text"] (aU 1 CQ))(b:Callee P w K mg base "parts_of" 1 ["row","first"] (aU 2 Hl)):
  aW P w K mg base bu 3 f fd ["row","first"] (aU 2 yI):=by
 refine F.ok VH (λvs H Q E h=>h.1) (λcdv A outer s H vs Q E hr h=>?_);obtain⟨nb,ds,Φ,g,u,I,M⟩:=fL h;obtain⟨Y,ns,rfl,hl,a,hf,hn,q⟩:=M;refine⟨_,(@aC _ _ _ (@aM _ _ _ _ (gC (dw.of (show dO (aE yo) ["row","first"] _ ["part"] [none]=true by decide+kernel)) (gx (K:=K) rfl (@aD _ _ _ _ _ _ _ _ _ _ b (hr.mono ⋯) (@aa _ _ _ _ _ (pv 0) (@aa _ _ _ _ _ (pv 1) af rfl) rfl) (by rfl) ⋯ (by rfl) (by rfl))) (λ_ _ _ _=>⟨(aO (i:=0) (by show bp (["part"]:List Str);decide+kernel) rfl (ay rfl)),gM,(@aD _ _ _ _ _ _ _ _ _ _ c (hr.mono ⋯) (@aa _ _ _ _ _ (pv 0) af rfl) (by rfl) ⋯ (by rfl) (by rfl))⟩)))),?_⟩;refine Sv.fF g u I (ρ:=[.d false _, .d false _]) rfl ?_;clear I u;refine Sv.ret (aq.ev (aq.ju ⋯ rfl ?_));refine Ev.cZ Tt ?_;rfl';refine⟨rfl,Y,ns.map nS,rfl,hl,by rw[ak];omega,hf,λo D=>?_,?_⟩
 .obtain⟨n,_,rfl⟩:=dG.mp D;exact LY n ⟨⋯,⋯⟩
 refine⟨_,rfl,by rw[ak,ak];omega,λv=>⟨true,λj ds=>ds=(ns.take j).map .int,rfl,?_,?_⟩⟩
 .rintro j d ds hd hl' rfl;obtain⟨o,D,rfl⟩:=fB hd;obtain⟨n,k,rfl⟩:=fB D;refine Gv.name ?_;refine⟨by walk_at "wk",?_⟩;rfl';refine Ev.cZ T6 ?_;rfl';refine⟨rfl,n,rfl,hn n (fQ k),λ_=>rfl,?_⟩;show _=cj _ (hJ (j+1) ns);rw[Bf k,cI]
  rfl
 .rintro ds hl' rfl;rw[ak,ak,fW,sO];exact q
def A8:SF:=λds Φ=>∃(wd:Wo) (N:List (List bf)),ds=[bI wd, .list (N.map dS)]/\wd.length<=10000/\N.flatten.length<=10000/\∀c B a1,c≠B->c≠a1->B≠a1->Φ (.ref c) (g9 c B a1 N.flatten (jl wd))
theorem Uv:o6 A8:=by
 intro ds Φ Ψ hm z;revert hm;walk_at "mo";exact λq=>λc B a1 x y w=>z _ _ (q c B a1 x y w)
theorem Dk:bH ["word","rounds","mends","found"] ["word","rounds"] (aE GA):=⟨rfl,rfl,rfl,by decide+kernel,rfl,by decide+kernel,by decide+kernel⟩
theorem RE(F:bA K "paper_from" "paper_from" GA f fd)(b:Callee P w K mg base "lost_of" 1 ["word"] (aU 1 zY)):
  aW P w K mg base bu 2 f fd ["word","rounds"] (rJ 2 A8):=by
 refine F.ok Dk (λvs H Q E h=>h.1) (λcdv A outer s H vs Q E hr h=>?_);obtain⟨_,nb,ds,g,u,M⟩:=h;obtain⟨Φ,I,M⟩:∃Φ:V->dH->Prop,(∀v L H',Φ v L->cA H H'->uK nb H H' L->Q v H')/\A8 ds Φ:=⟨_,λv L H' q=>q H',M⟩;obtain⟨wd,N,rfl,hl,hf,q⟩:=M;refine⟨_,(@ao _ _ _ _ _ (@aJ _ _ (2) _ _ _ _ Dk.nd rfl (ay rfl) (@eV _ _ _ _ af) (by rfl) (by first|exact .inl rfl|exact .inr rfl|assumption)) (@ao _ _ _ _ _ (@iT _ _ _ _ _ _ _ _ gW rfl (gx (K:=K) rfl (pv 1)) (aO (i:=3) Dk.nd rfl (ay rfl)) (@aC _ _ _ (@rC _ _ _ _ (j8 qy PySem.F.slot_list_extend PySem.F.type_list_extend RS (pv 2) (@aa _ _ _ _ _ (pv 3) af rfl)) (by rfl))) (by intro _;rfl)) (@aC _ _ _ (@aM _ _ _ _ (@bQ _ _ _ _ _ (@aa _ _ _ _ _ (pv 2) (@aa _ _ _ _ _ (@aD _ _ _ _ _ _ _ _ _ _ b (hr.mono ⋯) (@aa _ _ _ _ _ (pv 0) af rfl) (by rfl) ⋯ (by rfl) (by rfl)) af rfl) rfl)))))),?_⟩;refine Sv.T3 g u I (ρ:=[.d false _, .d false _, .no, .no]) rfl ?_;clear I u;have k:(N.map dS).length=N.length:=ak ..;refine Sv.seq ?_;refine Sv.sF ?_;intro A;refine Sv.seq ?_;refine Sv.forL ?_;refine Ev.var rfl ?_;refine⟨_,rfl,?_⟩;intro v;refine⟨λi ρ=>∃(f:Bool) (x3:Sl),ρ=[.d false (bI wd), .d false (.list (N.map dS)), .own A f ((N.take i).flatten.map cz),x3],⟨_,_,rfl⟩,?_,?_⟩
 .rintro i d ρ hd ⟨f,x3,rfl⟩;obtain⟨r,hr,rfl⟩:=fB hd;have J:(N.take (i+1)).flatten.length<=N.flatten.length:=by
   conv=>rhs;rw[<-jX (i+1) N,HC,cK]
   omega
  have e2:(N.take (i+1)).flatten=(N.take i).flatten++r:=by rw[Bf hr];simp
  refine Gv.kW ?_;refine Sv.extend rfl (Ev.var rfl ⟨_,rfl,?_,?_⟩);·rw[<-cK,<-cI,<-e2,ak];omega
  .rw[<-cI,<-e2];exact⟨_,_,rfl⟩
 rintro ρ ⟨f,x3,rfl⟩;rw[k,fW];refine Sv.VF 1 ⋯ (Ao rfl) rfl rfl (lF.Nn (lF.cZ M7 ?_));rfl';refine⟨rfl,wd,rfl,hl,?_⟩;exact⟨rfl,_,rfl,λc a1 h1 h2 h3=>q c A a1 h1 h2 h3⟩
theorem JV{p:Int}{cs:List aA}{wd:Wo}(hp:0<p)(h0:∀prs∈cs,∀pr∈prs,0<=pr.1/\pr.1<wd.length):(cX p cs wd).flatten.length<=wd.length:=by
 have h1:=BI hp (Ob hp h0).1 _ (aH _);have h2:=NF wd;omega
theorem Mq{p:Int}{cs:List aA}{wd:Wo}:(fG p cs wd).length=wd.length:=by unfold fG;exact iy
def uh:SF:=λds Φ=>∃(p n:Int) (cs:List aA) (wd:Wo),ds=[bE p n cs,bI wd]/\dZ p cs wd.length/\dU wd/\wd.length<=4000/\∀c B a1,c≠B->c≠a1->B≠a1->Φ (.ref c) (g9 c B a1 (cX p cs wd).flatten (jl (fG p cs wd)))
theorem Jg:o6 uh:=by
 intro ds Φ Ψ hm z;revert hm;walk_at "mo";exact λq=>λc B a1 x y w=>z _ _ (q c B a1 x y w)
theorem P4:bH ["net","word","found"] ["net","word"] (aE CG):=⟨rfl,rfl,rfl,by decide+kernel,rfl,by decide+kernel,by decide+kernel⟩
theorem RB(F:bA K "paper_of" "paper_of" CG f fd)(a:Callee P w K mg base "mended" 8 ["net","word"] (aU 2 FD))(b:Callee P w K mg base "paper_from" 2 ["word","rounds"] (rJ 2 A8)):
  aW P w K mg base bu 9 f fd ["net","word"] (BA 2 uh):=by
 refine F.ok P4 (λvs H Q E h=>h.1) (λcdv A outer s H vs Q E hr h=>?_);obtain⟨_,nb,ds,g,u,M⟩:=h;obtain⟨Φ,I,M⟩:∃Φ:V->dH->Prop,(∀v L H',Φ v L->cA H H'->qY H H' L->Q v H')/\uh ds Φ:=⟨_,λv L H' q=>q H',M⟩;obtain⟨p,n,cs,wd,rfl,hN,hW,hl,q⟩:=M;refine⟨_,(@ao _ _ _ _ _ (@aJ _ _ (2) _ _ _ _ P4.nd rfl (ay rfl) (@aD _ _ _ _ _ _ _ _ _ _ a (hr.mono ⋯) (@aa _ _ _ _ _ (pv 0) (@aa _ _ _ _ _ (pv 1) af rfl) rfl) (by rfl) ⋯ (by rfl) (by rfl)) (by rfl) (by first|exact .inl rfl|exact .inr rfl|assumption)) (@aC _ _ _ (@aM _ _ _ _ (@aD _ _ _ _ _ _ _ _ _ _ b (hr.mono ⋯) (@aa _ _ _ _ _ (@au _ _ _ _ _ _ (aT K) aV (pv 2) aj (λ_ _=>rfl)) (@aa _ _ _ _ _ (@au _ _ _ _ _ _ (aT K) aV (pv 2) aj (λ_ _=>rfl)) af rfl) rfl) (by rfl) ⋯ (by rfl) (by rfl))))),?_⟩;refine Sv.OM g u I (ρ:=[.d false _, .d false _, .no]) rfl ?_;clear I u;have p2:=hN.1.1;refine Sv.seq (Sv.asg (Ev.cZ RK ?_));rfl';refine⟨rfl,p,n,cs,wd,rfl,hN,hW,hl,?_⟩;refine Gv.name ?_;refine Sv.Hd rfl Uv ?_;rfl';refine⟨rfl,rfl,fG p cs wd,cX p cs wd,rfl,by rw[Mq];omega,eS (JV ∅ hN.rg) ∅,q⟩
def BL:DF:=λds Φ=>∃(p n:Int) (cs:List aA) (wd:Wo) (m:bf),ds=[bE p n cs,bI wd,cz m]/\dZ p cs wd.length/\dU wd/\Φ true (gu p cs wd m)
theorem YG:cM BL:=by
 intro ds Φ Ψ hm z;revert hm;walk_at "mo";exact λq=>z _ _ q
theorem Ik:bH ["net","letters","mend","told"] ["net","letters","mend"] (aE GR):=⟨rfl,rfl,rfl,by decide+kernel,rfl,by decide+kernel,by decide+kernel⟩
theorem QU(F:bA K "mend_fault" "mend_fault" GR f fd)(k:Callee P w K mg base "told_by" 4 ["net","word","c"] (aU 3 uR))(bh:mg "len"=none):
    aW P w K mg base bu 5 f fd ["net","letters","mend"] (aU 3 BL):=by
  refine F.ok Ik (λvs H Q E h=>h.1) (λcdv A outer s H vs Q E hr h=>?_);obtain⟨nb,ds,Φ,g,u,I,M⟩:=fL h;obtain⟨p,n,cs,wd,m,rfl,hN,hW,q⟩:=M;refine⟨_,(@ao _ _ _ _ _ (@cy _ _ _ _ _ _ _ _ (PW.pt (kC (@aS _ _ _ _ _ _ _ _ rm (@au _ _ _ _ _ _ (aT K) aV (pv 2) aj (λ_ _=>rfl)) aj (aQ _)) (lC (@aS _ _ _ _ _ _ _ _ GC (@au _ _ _ _ _ _ (aT K) aV (pv 2) aj (λ_ _=>rfl)) (@bX _ _ _ _ _ _ _ _ (eX K) gk rfl bh fE (@aa _ _ _ _ _ (@au _ _ _ _ _ _ (aT K) aV (pv 0) aj (λ_ _=>rfl)) af rfl) ⋯ ⋯ (by rfl) (by rfl)) (aQ _))))) (@aC _ _ _ (@aM _ _ _ _ gc)) cJ) (@ao _ _ _ _ _ (@aJ _ _ (3) _ _ _ _ Ik.nd rfl (ay rfl) (@aD _ _ _ _ _ _ _ _ _ _ k (hr.mono ⋯) (@aa _ _ _ _ _ (pv 0) (@aa _ _ _ _ _ (pv 1) (@aa _ _ _ _ _ (@au _ _ _ _ _ _ (aT K) aV (pv 2) aj (λ_ _=>rfl)) af rfl) rfl) rfl) (by rfl) ⋯ (by rfl) (by rfl)) (by rfl) (by first|exact .inl rfl|exact .inr rfl|assumption)) (@ao _ _ _ _ _ (@cy _ _ _ _ _ _ _ _ (PW.pt (kC (@aS _ _ _ _ _ _ _ _ oS (pv 3) fk (aQ _)) (lC (@aS _ _ _ _ _ _ _ _ iw (@au _ _ _ _ _ _ (aT K) aV (pv 3) aj (λ_ _=>rfl)) (@au _ _ _ _ _ _ (aT K) aV (pv 2) aj (λ_ _=>rfl)) (aQ _))))) (@aC _ _ _ (@aM _ _ _ _ gc)) cJ) (@ao _ _ _ _ _ (@cy _ _ _ _ _ _ _ _ (@aS _ _ _ _ _ _ _ _ iw (@au _ _ _ _ _ _ (aT K) aV (pv 3) aj (λ_ _=>rfl)) (@au _ _ _ _ _ _ (aT K) aV (pv 2) aj (λ_ _=>rfl)) (aQ _)) (@aC _ _ _ (@aM _ _ _ _ gc)) cJ) (@aC _ _ _ (@aM _ _ _ _ fk)))))),?_⟩;refine Sv.fF g u I (ρ:=[.d false _, .d false _, .d false _, .no]) rfl ?_;clear I u;have iu:(cs.map e7).length=cs.length:=ak ..;rfl';by_cases c0:m.2.1<0
  · rfl'
    unfold gu at q;rw[if_pos (.inl c0)] at q;exact q
  rfl';by_cases c1:((cs.map e7).length:Int)<=m.2.1
  · rfl'
    unfold gu at q;rw[if_pos (.inr ∅)] at q;exact q
  rfl';refine Ev.cZ Hr ?_;rfl';refine⟨rfl,p,n,m.2.1,cs,wd,rfl,hN,hW,∅,∅,?_⟩;unfold gu at q;rw[if_neg ∅] at q;cases e:cG p (cs.getD m.2.1.toNat []) 0 wd with
  | none =>
    rw[e] at q;rw[show jJ none=iq from rfl];rfl';exact q
  | some O =>
    obtain⟨a,x⟩:=O;rw[e] at q;rw[show jJ (some (a,x))=eA [.int a, .int x] from rfl];rfl';by_cases T:a=m.1
    · rfl'
      by_cases t:x=m.2.2
      · rfl'
        simp only[T,t,ne_eq,not_true_eq_false,if_false] at q;exact q
      · rfl'
        simp only[T,t,ne_eq,not_true_eq_false,if_false,not_false_eq_true,if_true] at q;exact q
    · rfl'
      simp only[T,ne_eq,not_false_eq_true,if_true] at q;exact q
def zT:DF:=λds Φ=>∃(p n:Int) (cs:List aA) (wd:Wo) (ms:List bf) (left:List Int),ds=[bE p n cs,bI wd, .tuple [.list (ms.map cz), .list (left.map .int)]]/\dZ p cs wd.length/\dU wd/\wd.length<=1000/\∀d,nI p cs wd ms left d->Φ true d
theorem MX:cM zT:=by
 intro ds Φ Ψ hm z;revert hm;walk_at "mo";exact λq=>λd h=>z _ _ (q d h)
theorem qL:bH ["net","word","paper","letters","k","mend","fault","c"] ["net","word","paper"] (aE GG):=⟨rfl,rfl,rfl,by decide+kernel,rfl,by decide+kernel,by decide+kernel⟩
theorem Vz(F:bA K "paper_fault" "paper_fault" GG f fd)(o:Callee P w K mg base "mend_fault" 5 ["net","letters","mend"] (aU 3 BL))(b:Callee P w K mg base "lost_of" 1 ["word"] (aU 1 zY))(k:Callee P w K mg base "told_by" 4 ["net","word","c"] (aU 3 uR))(bY:mg "list"=none)(rK:mg "enumerate"=none)(bF:mg "range"=none)(bh:mg "len"=none):
    aW P w K mg base bu 6 f fd ["net","word","paper"] (aU 3 zT):=by
  refine F.ok qL (λvs H Q E h=>h.1) (λcdv A outer s H vs Q E hr h=>?_);obtain⟨nb,ds,Φ,g,u,I,M⟩:=fL h;obtain⟨p,n,cs,wd,ms,left,rfl,hN,hW,hl,q⟩:=M;refine⟨_,(@ao _ _ _ _ _ (@aJ _ _ (3) _ _ _ _ qL.nd rfl (ay rfl) (@iB _ _ _ _ _ _ _ _ (iS K) jW rfl bY iR (@aa _ _ _ _ _ (pv 1) af rfl) ⋯ ⋯ (by rfl) (by rfl)) (by rfl) (by first|exact .inl rfl|exact .inr rfl|assumption)) (@ao _ _ _ _ _ (@iT _ _ _ _ _ _ _ _ gW rfl (@Mn _ (K) _ _ _ _ _ _ _ rfl rfl rK (@au _ _ _ _ _ _ (aT K) aV (pv 2) aj (λ_ _=>rfl)) (by rfl)) (@i9 _ (K) _ _ _ (2) _ rfl rfl (@cF _ _ _ _ _ (aO (i:=4) qL.nd rfl (ay rfl)) (@cF _ _ _ _ _ (aO (i:=5) qL.nd rfl (ay rfl)) iN (by rfl)) (by rfl)) (by rfl) (by rfl)) (@ao _ _ _ _ _ (@aJ _ _ (6) _ _ _ _ qL.nd rfl (ay rfl) (@aD _ _ _ _ _ _ _ _ _ _ o (hr.mono ⋯) (@aa _ _ _ _ _ (pv 0) (@aa _ _ _ _ _ (pv 3) (@aa _ _ _ _ _ (pv 5) af rfl) rfl) rfl) (by rfl) ⋯ (by rfl) (by rfl)) (by rfl) (by first|exact .inl rfl|exact .inr rfl|assumption)) (@ao _ _ _ _ _ (@cy _ _ _ _ _ _ _ _ (@aS _ _ _ _ _ _ _ _ l7 (pv 6) fk (aQ _)) (@aC _ _ _ (@aM _ _ _ _ (@bQ _ _ _ _ _ (@aa _ _ _ _ _ (pv 6) (@aa _ _ _ _ _ (pv 4) af rfl) rfl)))) cJ) (@aC _ _ _ (@gD _ _ _ _ _ _ (@au _ _ _ _ _ _ (aT K) aV (pv 5) aj (λ_ _=>rfl)) (jx (pv 3) (@au _ _ _ _ _ _ (aT K) aV (pv 5) aj (λ_ _=>rfl)) set_list) (by rfl) (by rfl) (by rfl))))) (by intro _;rfl)) (@ao _ _ _ _ _ (@cy _ _ _ _ _ _ _ _ (@aS _ _ _ _ _ _ _ _ (Hq hr.units) (@au _ _ _ _ _ _ (aT K) aV (pv 2) aj (λ_ _=>rfl)) (@aD _ _ _ _ _ _ _ _ _ _ b (hr.mono ⋯) (@aa _ _ _ _ _ (pv 3) af rfl) (by rfl) ⋯ (by rfl) (by rfl)) (aQ _)) (@aC _ _ _ (@aM _ _ _ _ (@bQ _ _ _ _ _ (@aa _ _ _ _ _ gc (@aa _ _ _ _ _ aj af rfl) rfl)))) cJ) (@ao _ _ _ _ _ (@iT _ _ _ _ _ _ _ _ gW rfl (@iH _ _ _ _ _ _ rfl bF (@aa _ _ _ _ _ (@bX _ _ _ _ _ _ _ _ (eX K) gk rfl bh fE (@aa _ _ _ _ _ (@au _ _ _ _ _ _ (aT K) aV (pv 0) aj (λ_ _=>rfl)) af rfl) ⋯ ⋯ (by rfl) (by rfl)) af rfl) (by rfl)) (aO (i:=7) qL.nd rfl (ay rfl)) (@aC _ _ _ (@cy _ _ _ _ _ _ _ _ (@aS _ _ _ _ _ _ _ _ l7 (@aD _ _ _ _ _ _ _ _ _ _ k (hr.mono ⋯) (@aa _ _ _ _ _ (pv 0) (@aa _ _ _ _ _ (pv 3) (@aa _ _ _ _ _ (pv 7) af rfl) rfl) rfl) (by rfl) ⋯ (by rfl) (by rfl)) fk (aQ _)) (@aC _ _ _ (@aM _ _ _ _ (@bQ _ _ _ _ _ (@aa _ _ _ _ _ gc (@aa _ _ _ _ _ (pv 7) af rfl) rfl)))) cJ)) (by intro _;rfl)) (@aC _ _ _ (@aM _ _ _ _ fk)))))),?_⟩;refine Sv.fF g u I (ρ:=[.d false _, .d false _, .d false _, .no, .no, .no, .no, .no]) rfl ?_;clear I u;have iu:(cs.map e7).length=cs.length:=ak ..;have p2:=hN.1.1;have qQ:=hN.2.1;have hcl:=hN.2.2.1;refine Sv.seq ?_;refine Sv.uJ (aq.listOf ?_);rfl';intro a;refine Sv.seq ?_;refine Sv.UL ?_;rfl';intro v;refine⟨λi ρ=>∃(f:Bool) (x4 X y Z:Sl),ρ=[.d false (bE p n cs), .d false (bI wd), .d false (.tuple [.list (ms.map cz), .list (left.map .int)]), .own a f ((A4 wd (ms.take i)).map bS),x4,X,y,Z]/\∀j<i,pY p cs wd ms j,⟨_,_,_,_,_,rfl,λj hj=>∅⟩,?_,?_⟩
  · rintro i d ρ ⟨e,he,rfl⟩ ⟨f,x4,X,y,Z,rfl,hI⟩
    obtain⟨m,hm,rfl⟩:=fB he;have hil:i<ms.length:=(bT.mp hm).1;have kq:=qA hN hW hI;have J:(A4 wd (ms.take i)).length=wd.length:=iy;rfl';refine Ev.pV YG ?_;refine cQ.cons ?_;rfl';refine cQ.own rfl ?_;refine cQ.cons ?_;rfl';refine cQ.nil ?_;refine⟨rfl,p,n,cs,A4 wd (ms.take i),m,rfl,by rw[J];exact hN,kq, .inl rfl,?_⟩;rcases Ey p cs (A4 wd (ms.take i)) m with hm0|⟨x,hm0⟩
    · rw[hm0]
      have hk:=AO (by rw[J];exact hN) kq hm0;rw[J] at hk;rfl';refine⟨m.1,m.1.toNat,rfl,su hk.1 (by rw[ak,J];exact hk.2.1),?_⟩;have e2:(cj bS (A4 wd (ms.take i))).set m.1.toNat (.int m.2.2)=(A4 wd (ms.take (i+1))).map bS:=by rw[Bf hm,Bn,uy];rfl
      rw[e2];refine⟨_,_,_,_,_,rfl,λj hj=>?_⟩;rcases qN (Du.mp hj) with z|z
      · exact hI j z
      · subst z;exact⟨m,hm,hm0⟩
    · rw[hm0]
      rfl';exact q _ (.inl ⟨i,m,x,hI,hm,hm0,rfl⟩)
  rintro ρ ⟨f,x4,X,y,Z,rfl,hI⟩;rw[ak] at hI⊢;rw[fW];have kq:=qA hN hW hI;rw[fW] at kq;have J:(A4 wd ms).length=wd.length:=iy;have fin:∀d,d=kr p cs (A4 wd ms) left->Φ true d:=λd h=>q d (.inr ⟨hI,h⟩);generalize A4 wd ms=wq at*;rfl';refine Ev.pV M7 ?_;refine cQ.own rfl ?_;refine cQ.nil ?_;refine⟨rfl,wq,rfl,∅, .inl rfl,?_⟩;refine⟨shaped_ints _,shaped_ints _,?_⟩;rw[HQ];by_cases c:left=jl wq
  · rw[decide_eq_true c]
    rfl';refine Sv.qJ ?_;rfl';have R:kr p cs wq left=match(outs p cs wq).head? with|none=> .none|some c=> .tuple [.str "out", .int c]:=by unfold kr;rw[if_neg (by simpa using c)]<;>rfl
    refine⟨λi ρ=>∃(x4 X y Z:Sl),ρ=[.d false (bE p n cs), .d false (bI wd), .d false (.tuple [.list (ms.map cz), .list (left.map .int)]), .own a f (wq.map bS),x4,X,y,Z]/\∀j<i,(cG p (cs.getD j []) 0 wq).isSome=false,⟨_,_,_,_,rfl,λj hj=>∅⟩,?_,?_⟩
    · rintro i d ρ ⟨hi,rfl⟩ ⟨x4,X,y,Z,rfl,hI2⟩
      have l:i<cs.length:=∅
      rfl';refine Ev.pV Hr ?_;refine cQ.cons ?_;rfl';refine cQ.own rfl ?_;refine cQ.cons ?_;rfl';refine cQ.nil ?_;refine⟨rfl,p,n,0+(i:Int),cs,wq,rfl,by rw[J];exact hN,kq,∅,∅, .inl rfl,?_⟩;rw[show(0+(i:Int)).toNat=i by omega];cases e:cG p (cs.getD i []) 0 wq with
      | none =>
        rw[show jJ none=iq from rfl];rfl';refine⟨_,_,_,_,rfl,λj hj=>?_⟩;rcases qN (Du.mp hj) with z|z
        · exact hI2 j z
        · subst z;rw[e];rfl
      | some O =>
        rw[show jJ (some O)=eA [.int O.1, .int O.2] from rfl];rfl';refine fin _ ?_;have r:(outs p cs wq).head?=some i:=head_filter l (by rw[e];rfl) hI2;rw[R,r,show(0+(i:Int))=(i:Int) by omega]
        rfl
    · rintro ρ ⟨x4,X,y,Z,rfl,hI2⟩
      rfl';have r:(outs p cs wq).head?=none:=Tq λj hj=>hI2 j ∅;refine fin _ ?_;rw[R,r]
  · rw[decide_eq_false c]
    rfl';refine fin _ ?_;unfold kr;rw[if_pos c]
    rfl
theorem YN{f:Str}{ns:List Int}(h1:f.length<=61)(h2:ns.length<=1000)(hn:∀n∈ns,n.natAbs<10^60):wt (sg 32) (f::ns.map nS)=true:=
 Bz (B:=61) (λy hy=>(aK.mp hy).elim (λe=>e▸h1) λhy=>by
  obtain⟨n,hm,rfl⟩:=dG.mp hy;exact(rW (hn n hm)).2.1) (by rw[eB,ak];omega)
def FN:DF:=λds Φ=>∃(f:Str) (ns:List Int) (d:PyData),ds=[.str f,d]/\(d= .list (ns.map .int)\/d= .tuple (ns.map .int))/\f.length<=61/\ns.length<=1000/\(∀n∈ns,n.natAbs<10^60)/\Φ true (.str (eT f (ns.map nS)))
theorem N5:cM FN:=by
 intro ds Φ Ψ hm z;revert hm;walk_at "mo";exact λq=>z _ _ q
theorem K4:bH ["first","numbers"] ["first","numbers"] (aE yM):=⟨rfl,rfl,rfl,by decide+kernel,rfl,by decide+kernel,by decide+kernel⟩
theorem DD(F:bA K "numbers_row" "numbers_row" yM f fd)(o:Callee P w K mg base "row_of" 1 ["first","others"] (aU 2 xq))(jG:mg "str"=none):
  aW P w K mg base bu 2 f fd ["first","numbers"] (aU 2 FN):=by
 refine F.ok K4 (λvs H Q E h=>h.1) (λcdv A outer s H vs Q E hr h=>?_);obtain⟨nb,ds,Φ,g,u,I,M⟩:=fL h;obtain⟨Y,ns,d,rfl,l,hf,a,hn,q⟩:=M;refine⟨_,(@aC _ _ _ (@aM _ _ _ _ (@aD _ _ _ _ _ _ _ _ _ _ o (hr.mono ⋯) (@aa _ _ _ _ _ (pv 0) (@aa _ _ _ _ _ (gC (dw.of (show dO (aE yM) ["first","numbers"] _ ["number"] [none]=true by decide+kernel)) (Wu (K:=K) rfl (pv 1)) (λ_ _ _ _=>⟨(aO (i:=0) (by show bp (["number"]:List Str);decide+kernel) rfl (ay rfl)),gM,(@iB _ _ _ _ _ _ _ _ (vG) RG rfl jG D9 (@aa _ _ _ _ _ (pv 0) af rfl) ⋯ ⋯ (by rfl) (by rfl))⟩)) af rfl) rfl) (by rfl) ⋯ (by rfl) (by rfl)))),?_⟩;refine Sv.fF g u I (ρ:=[.d false _, .d false _]) rfl ?_;clear I u;have m:((ns.map nS).map er).length=ns.length:=by rw[ak,ak]
 refine Sv.ret (Ev.cZ WO ?_);refine Av.cons (Ev.var rfl ?_);refine Av.cons (aq.ev ?_);have step:∀{G:Gx} (j:Nat) (d':PyData) (ds:List PyData),(ns.map a4)[j]?=some d'->ds=((ns.take j).map nS).map er->Gv G [.no] (ic 0) false d' λc=>Wk [.no] c/\Tv G c r6 λb=>if b=true then Ev G c (fq vG (bz (cH 0) bM)) λf e=>(true=true->f=true)/\(ds++[e])=((ns.take (j+1)).map nS).map er else ds=((ns.take (j+1)).map nS).map er:=λ{G} j d' ds hd e=>by
  obtain⟨n,k,rfl⟩:=fB hd;subst e;refine Gv.kW ?_;refine⟨by walk_at "wk",?_⟩;rfl';refine Ev.UU (Ev.var rfl ⟨n,rfl,hn n (fQ k),λ_=>rfl,?_⟩);rw[Bf k,cI,cI]
  rfl
 have fin:Av {B:=none,H0:=H,A:=nb} [.d false (.str Y), .d false d] bM λes=>((false,er Y)::(true,fI ((ns.map nS).map .str))::es).length=2/\xq (((false,er Y)::(true,fI ((ns.map nS).map .str))::es).map (·.2)) λf d=>Φ (f||gz ((false,er Y)::(true,fI ((ns.map nS).map .str))::es)) d:=by
  refine Av.nil ⟨rfl,Y,ns.map nS,rfl,by rw[ak];omega,YN hf a hn,q⟩
 rcases l with rfl|rfl
 .refine aq.Jt (aq.ju ⋯ rfl ?_);refine Ev.var rfl ⟨_,rfl,by rw[ak];omega,λv=>⟨true,λj ds=>ds=((ns.take j).map nS).map .str,rfl,?_,?_⟩⟩
  .rintro j d' ds hd hl' e;exact step j d' ds hd e
  .rintro ds hl' rfl;rw[ak,fW];exact fin
 .refine aq.HI (aq.Zt ⋯ rfl ?_);refine Ev.var rfl ⟨_,rfl,by rw[ak];omega,λv=>⟨true,λj ds=>ds=((ns.take j).map nS).map .str,rfl,?_,?_⟩⟩
  .rintro j d' ds hd hl' e;exact step j d' ds hd e
  .rintro ds hl' rfl;rw[ak,fW];exact fin
noncomputable abbrev rX(m:bf):List Int:=[m.1,m.2.1,m.2.2]
def SV(ms:List bf)(ls:List Int):Prop:=ms.length<=400/\ls.length<=400/\(∀m∈ms,∀n∈rX m,n.natAbs<10^60)/\∀n∈ls,n.natAbs<10^60
noncomputable def zK(ms:List bf)(ls:List Int):List Str:=ms.map (λm=>eT "mend" ((rX m).map nS))++[eT "left" (ls.map nS)]
noncomputable def Wn(ms:List bf)(ls:List Int):Str:=g4 (sg 10) (zK ms ls)
theorem MG{f:Str}{ns:List Int}(hf:f.length<=61)(hn:∀n∈ns,n.natAbs<10^60):(eT f (ns.map nS)).length<=61+ns.length*62:=by
 unfold eT;rw[join_le];have h1:=rO (B:=61) (ys:=ns.map nS) λy hy=>by
  obtain⟨o,hm,rfl⟩:=dG.mp hy;exact(rW (hn o hm)).2.1
 rw[ak] at h1⊢;omega
noncomputable def C4(ms:List bf)(ls:List Int):PyData:= .tuple [.list (ms.map cz), .list (ls.map .int)]
def Dm:DF:=λds Φ=>∃(ms:List bf) (ls:List Int),ds=[C4 ms ls]/\SV ms ls/\Φ true (.str (Wn ms ls))
theorem Fq:cM Dm:=by
 intro ds Φ Ψ hm z;revert hm;walk_at "mo";exact λq=>z _ _ q
theorem Qh:bH ["paper","rows"] ["paper"] (aE vD):=⟨rfl,rfl,rfl,by decide+kernel,rfl,by decide+kernel,by decide+kernel⟩
theorem Zb(F:bA K "paper_text" "paper_text" vD f fd)(a:Callee P w K mg base "numbers_row" 2 ["first","numbers"] (aU 2 FN)):
  aW P w K mg base bu 3 f fd ["paper"] (aU 1 Dm):=by
 refine F.ok Qh (λvs H Q E h=>h.1) (λcdv A outer s H vs Q E hr h=>?_);obtain⟨nb,ds,Φ,g,u,I,M⟩:=fL h;obtain⟨ms,ls,rfl,⟨G,hl1,b,p⟩,q⟩:=M;refine⟨_,(@ao _ _ _ _ _ (n9 (i:=1) Qh.nd rfl rfl (dw.of (show dO (aE vD) ["paper","rows"] _ ["mend"] [none]=true by decide+kernel)) (gx (K:=K) rfl (@au _ _ _ _ _ _ (aT K) aV (pv 0) aj (λ_ _=>rfl))) (λ_ _ _ _=>⟨(aO (i:=0) (by show bp (["mend"]:List Str);decide+kernel) rfl (ay rfl)),gM,(@aD _ _ _ _ _ _ _ _ _ _ a (hr.mono ⋯) (@aa _ _ _ _ _ gc (@aa _ _ _ _ _ (pv 0) af rfl) rfl) (by rfl) ⋯ (by rfl) (by rfl))⟩)) (@aC _ _ _ (@aM _ _ _ _ (qG (K:=K) rfl (j8 qj Nl OD Ke gc (@aa _ _ _ _ _ (@aG _ _ _ _ _ _ _ _ p8 (pv 1) (@eV _ _ _ _ (@aa _ _ _ _ _ (@aD _ _ _ _ _ _ _ _ _ _ a (hr.mono ⋯) (@aa _ _ _ _ _ gc (@aa _ _ _ _ _ (@au _ _ _ _ _ _ (aT K) aV (pv 0) aj (λ_ _=>rfl)) af rfl) rfl) (by rfl) ⋯ (by rfl) (by rfl)) af rfl))) af rfl)))))),?_⟩;refine Sv.fF g u I (ρ:=[.d false _, .no]) rfl ?_;clear I u;have D:(ms.map cz).length=ms.length:=ak ..;refine Sv.seq ?_;refine Sv.setC (aq.ev (aq.ju ⋯ rfl ?_));refine Ev.mh (Ev.var rfl ⟨_,rfl,Ev.int ⟨_,rfl,_,rfl,?_⟩⟩);refine⟨_,rfl,∅,λv=>⟨true,λj ds=>ds=((ms.take j).map λm=>eT "mend" ((rX m).map nS)).map .str,rfl,?_,?_⟩⟩
 .rintro j d ds hd hl' rfl;obtain⟨m,hm,rfl⟩:=fB hd;refine Gv.kW ?_;refine⟨by walk_at "wk",?_⟩;rfl';refine Ev.cZ N5 ?_;rfl';refine⟨rfl,"mend",rX m,cz m,rfl, .inr rfl,⋯,by show 3<=1000;decide,b m (fQ hm),λ_=>rfl,?_⟩;show _=cj _ (cj _ (hJ (j+1) ms));rw[Bf hm,cI,cI]
  rfl
 rintro ds hl' rfl;rw[D,fW];refine Sv.ret (Ev.join (Ev.str ⟨_,rfl,?_⟩));have k:((ms.map λm=>eT "mend" ((rX m).map nS)).map er).length=ms.length:=by rw[ak,ak]
 refine aq.ev (aq.cat (Ev.var rfl ⟨_,rfl,?_⟩));refine Ev.lst ?_;refine Av.cons (Ev.cZ N5 ?_);refine Av.cons (Ev.str ?_);refine Av.cons (Ev.mh (Ev.var rfl ⟨_,rfl,Ev.int ⟨_,rfl,_,rfl,?_⟩⟩));refine Av.nil ?_;refine⟨rfl,"left",ls,_,rfl, .inl rfl,⋯,∅,p,?_⟩;refine Av.nil ⟨(by decide:1<=10000),?_⟩;refine⟨_,rfl,by rw[k];show _+1<=_;omega,?_⟩;refine⟨zK ms ls,by unfold zK;rw[cI];rfl,?_,q⟩;refine Bz (B:=24861) (λy hy=>?_) (by unfold zK;rw[cK,ak,jn];omega);rcases iG.mp hy with h|h
 .obtain⟨m,hm,rfl⟩:=dG.mp h;have:=MG (f:="mend") ⋯ (b m hm);have h3:(rX m).length=3:=rfl;omega
 .rw[br.mp h];have:=MG (f:="left") ⋯ p;omega
def De:DF:=λds Φ=>∃(m:bf),ds=[.str (eT "mend" ([m.1,m.2.1,m.2.2].map nS))]/\(∀n∈[m.1,m.2.1,m.2.2],n.natAbs<10^60)/\Φ true (cz m)
theorem Zh:cM De:=by
 intro ds Φ Ψ hm z;revert hm;walk_at "mo";exact λq=>z _ _ q
theorem Ve{f:Str}{ns:List Int}(hf:f.length<=61)(hl:ns.length<=1000)(hn:∀n∈ns,n.natAbs<10^60):(eT f (ns.map nS)).length+2<=sizeLine:=by
 unfold eT;rw[join_le];have h1:=rO (B:=61) (ys:=ns.map nS) λy hy=>by
  obtain⟨o,hm,rfl⟩:=dG.mp hy;exact(rW (hn o hm)).2.1
 rw[ak] at h1⊢;have h3:70000<=sizeLine:=⋯
 omega
theorem LV:bH ["row","numbers"] ["row"] (aE Dg):=⟨rfl,rfl,rfl,by decide+kernel,rfl,by decide+kernel,by decide+kernel⟩
theorem Ys(F:bA K "read_mend" "read_mend" Dg f fd)(x:Callee P w K mg base "numbers_of" 3 ["row","first"] (aU 2 yI))(bh:mg "len"=none):
  aW P w K mg base bu 4 f fd ["row"] (aU 1 De):=by
 refine F.ok LV (λvs H Q E h=>h.1) (λcdv A outer s H vs Q E hr h=>?_);obtain⟨nb,ds,Φ,g,u,I,M⟩:=fL h;obtain⟨m,rfl,hn,q⟩:=M;refine⟨_,(@ao _ _ _ _ _ (@aJ _ _ (1) _ _ _ _ LV.nd rfl (ay rfl) (@aD _ _ _ _ _ _ _ _ _ _ x (hr.mono ⋯) (@aa _ _ _ _ _ (pv 0) (@aa _ _ _ _ _ gc af rfl) rfl) (by rfl) ⋯ (by rfl) (by rfl)) (by rfl) (by first|exact .inl rfl|exact .inr rfl|assumption)) (@ao _ _ _ _ _ (@cy _ _ _ _ _ _ _ _ (@aS _ _ _ _ _ _ _ _ iw (@bX _ _ _ _ _ _ _ _ (eX K) gk rfl bh fE (@aa _ _ _ _ _ (pv 1) af rfl) ⋯ ⋯ (by rfl) (by rfl)) aj (aQ _)) (@aC _ _ _ zx) cJ) (@aC _ _ _ (@aM _ _ _ _ (@bQ _ _ _ _ _ (@aa _ _ _ _ _ (@au _ _ _ _ _ _ (bG K) aX (pv 1) aj (λ_ _=>rfl)) (@aa _ _ _ _ _ (@au _ _ _ _ _ _ (bG K) aX (pv 1) aj (λ_ _=>rfl)) (@aa _ _ _ _ _ (@au _ _ _ _ _ _ (bG K) aX (pv 1) aj (λ_ _=>rfl)) af rfl) rfl) rfl)))))),?_⟩;refine Sv.fF g u I (ρ:=[.d false _, .no]) rfl ?_;clear I u;refine Sv.seq (Sv.asg (Ev.cZ Ou ?_));rfl';refine⟨rfl,"mend",[m.1,m.2.1,m.2.2],rfl,Ve ⋯ (by show 3<=1000;decide) hn,by show 3<=1000;decide,⋯,hn,?_⟩;refine Gv.name ?_;rfl';exact q
noncomputable def jc(ms:List bf)(ls:List Int):List Str:=ms.map (λm=>eT "mend" ([m.1,m.2.1,m.2.2].map nS))++[eT "left" (ls.map nS)]
def AQ:SF:=λds Φ=>∃(ms:List bf) (ls:List Int),ds=[.str (g4 (sg 10) (jc ms ls))]/\ms.length<=400/\ls.length<=400/\(∀m∈ms,∀n∈[m.1,m.2.1,m.2.2],n.natAbs<10^60)/\(∀n∈ls,n.natAbs<10^60)/\∀c B a1,c≠B->c≠a1->B≠a1->Φ (.ref c) (g9 c B a1 ms ls)
theorem VX:o6 AQ:=by
 intro ds Φ Ψ hm z;revert hm;walk_at "mo";exact λq=>λc B a1 x y w=>z _ _ (q c B a1 x y w)
theorem QZ{α:Type}(l:List α)(a:α):g7 (l++[a]) none (some (-1))=l:=by
 unfold g7 HT.eE;simp;rw[show(-1+((l.length:Int)+1)).toNat=l.length by omega,List.take_left]
theorem Ye{α:Type}(l:List α)(a:α):bC (l++[a]) (-1)=some a:=by
 unfold bC ir;simp;rw[if_pos ∅,show(-1+((l.length:Int)+1)).toNat=l.length by omega];simp
theorem IQ{f:Str}{ns:List Int}(hf:10∉f.cps.toList):10∉(eT f (ns.map nS)).cps.toList:=by
 unfold eT;rw[join_eq,Bi];intro z;rcases iG.mp z with z|z
 .exact hf z
 .obtain⟨l,hl,hz⟩:=List.mem_flatten.mp z;obtain⟨o,D,rfl⟩:=dG.mp hl;obtain⟨n,_,rfl⟩:=dG.mp D;rcases aK.mp hz with h|h
  .cases h
  .exact LY n ⟨⋯,⋯⟩ h
theorem E9:bH ["text","rows","mends"] ["text"] (aE zl):=⟨rfl,rfl,rfl,by decide+kernel,rfl,by decide+kernel,by decide+kernel⟩
theorem Z0(F:bA K "read_paper" "read_paper" zl f fd)(N:Callee P w K mg base "read_mend" 4 ["row"] (aU 1 De))(x:Callee P w K mg base "numbers_of" 3 ["row","first"] (aU 2 yI)):
  aW P w K mg base bu 5 f fd ["text"] (BA 1 AQ):=by
 refine F.ok E9 (λvs H Q E h=>h.1) (λcdv A outer s H vs Q E hr h=>?_);obtain⟨_,nb,ds,g,u,M⟩:=h;obtain⟨Φ,I,M⟩:∃Φ:V->dH->Prop,(∀v L H',Φ v L->cA H H'->qY H H' L->Q v H')/\AQ ds Φ:=⟨_,λv L H' q=>q H',M⟩;obtain⟨ms,ls,rfl,G,hl1,b,p,q⟩:=M;refine⟨_,(@ao _ _ _ _ _ (@aJ _ _ (1) _ _ _ _ E9.nd rfl (ay rfl) (qG (K:=K) rfl (j8 qj Iv II Mz (pv 0) (@aa _ _ _ _ _ gc af rfl))) (by rfl) (by first|exact .inl rfl|exact .inr rfl|assumption)) (@ao _ _ _ _ _ (n9 (i:=2) E9.nd rfl rfl (dw.of (show dO (aE zl) ["text","rows","mends"] _ ["row"] [none]=true by decide+kernel)) (gx (K:=K) rfl (@lZ _ _ _ _ _ _ _ _ _ (kN K) nZ (pv 1) mT (@mH _ _ _ (@mX _ _ _ _ _ _ nY aj)))) (λ_ _ _ _=>⟨(aO (i:=0) (by show bp (["row"]:List Str);decide+kernel) rfl (ay rfl)),gM,(@aD _ _ _ _ _ _ _ _ _ _ N (hr.mono ⋯) (@aa _ _ _ _ _ (pv 0) af rfl) (by rfl) ⋯ (by rfl) (by rfl))⟩)) (@aC _ _ _ (@aM _ _ _ _ (@bQ _ _ _ _ _ (@aa _ _ _ _ _ (pv 2) (@aa _ _ _ _ _ (@aD _ _ _ _ _ _ _ _ _ _ x (hr.mono ⋯) (@aa _ _ _ _ _ (@au _ _ _ _ _ _ (bG K) aX (pv 1) (@mX _ _ _ _ _ _ nY aj) (λ_ _=>rfl)) (@aa _ _ _ _ _ gc af rfl) rfl) (by rfl) ⋯ (by rfl) (by rfl)) af rfl) rfl)))))),?_⟩;refine Sv.OM g u I (ρ:=[.d false _, .no, .no]) rfl ?_;clear I u;have T:jc ms ls≠[]:=by unfold jc;simp
 have Y:(jc ms ls).length=ms.length+1:=by unfold jc;simp
 have n:∀y∈jc ms ls,y.length<=24861/\10∉y.cps.toList:=λy hy=>by
  unfold jc at hy;rcases iG.mp hy with h|h
  .obtain⟨m,hm,rfl⟩:=dG.mp h;have h2:=rO (B:=61) (ys:=[m.1,m.2.1,m.2.2].map nS) λy hy=>by
    obtain⟨o,D,rfl⟩:=dG.mp hy;exact(rW (b m hm o D)).2.1
   refine⟨?_,IQ ⋯⟩;unfold eT;rw[join_le];have:(dA "mend").length=4:=⋯
   simp at h2⊢;omega
  .rw[br.mp h];have h2:=rO (B:=61) (ys:=ls.map nS) λy hy=>by
    obtain⟨o,D,rfl⟩:=dG.mp hy;exact(rW (p o D)).2.1
   refine⟨?_,IQ ⋯⟩;unfold eT;rw[join_le];have:(dA "left").length=4:=⋯
   rw[ak] at h2⊢;omega
 have z:(g4 (sg 10) (jc ms ls)).length+2<=sizeLine:=by
  obtain⟨a,r,e⟩:∃a r,jc ms ls=a::r:=List.exists_cons_of_ne_nil T;rw[e,join_le];have h1:=n a (by rw[e];exact dj);have h2:=rO (B:=24861) (ys:=r) λy hy=>(n y (by rw[e];exact cS _ hy)).1;have h3:r.length=ms.length:=by rw[e] at Y;simpa using Y
  have h4:16000000<=sizeLine:=⋯
  have h5:r.length*24861<=400*24861:=Je _ ∅;omega
 obtain⟨t,l⟩:=HA (c:=10) z;have nj:=Jw (c:=10) T λa ha=>(n a ha).2;rw[nj] at l;have k:((jc ms ls).map er).length=ms.length+1:=by rw[ak,Y]
 refine Sv.seq (Sv.asg (aq.ev (aq.split ?_)));refine Ev.var rfl ⟨_,rfl,Ev.str ⟨_,rfl,?_⟩⟩;rw[show(dA "\n")=sg 10 by decide,nj];refine⟨t,l,?_⟩;refine Gv.name ?_;refine Sv.seq (Sv.TH (aq.ju ⋯ rfl ?_));rfl';have J:g7 ((jc ms ls).map er) none (some (-1))=(ms.map λm=>eT "mend" ([m.1,m.2.1,m.2.2].map nS)).map .str:=by
  unfold jc;rw[cI];exact QZ _ _
 rw[J];refine⟨by rw[ak,ak];omega,λv=>⟨true,λj ds=>ds=(ms.take j).map cz,rfl,?_,?_⟩⟩
 .rintro j d ds hd hl' rfl;obtain⟨s,hs,rfl⟩:=fB hd;obtain⟨m,hm,rfl⟩:=fB hs;refine Gv.name ?_;refine⟨by walk_at "wk",?_⟩;rfl';refine Ev.cZ Zh ?_;rfl';refine⟨rfl,m,rfl,b m (fQ hm),λ_=>rfl,?_⟩;show _=cj _ (hJ (j+1) ms);rw[Bf hm,cI]
  rfl
 rintro ds hl' rfl;rw[ak,ak,fW];intro A;have C:bC ((jc ms ls).map er) (-1)=some (.str (eT "left" (ls.map nS))):=by
  unfold jc;rw[cI];exact Ye _ _
 rw[sO];refine Sv.XW 1 ⋯ (Ao rfl) rfl rfl (lF.Nn (lF.cZ Ou ?_));rfl';refine⟨rfl,"left",ls,rfl,?_,∅,⋯,p,?_⟩
 .have:=(n (eT "left" (ls.map nS)) (by unfold jc;simp)).1;have h4:16000000<=sizeLine:=⋯
  omega
 refine⟨rfl,_,rfl,rfl,λc a1 h1 h2 h3=>q c A a1 h1 h2 h3⟩
theorem zm:bH ["script","stir","cell"] ["script"] (aE wU):=⟨rfl,rfl,rfl,by decide+kernel,rfl,by decide+kernel,by decide+kernel⟩
theorem RN(F:bA K "_law_bag" "_law_bag" wU f fd)(G8:mg "abs"=none):
  aW P w K mg base bu 1 f fd ["script"] (Nc K):=by
 refine F.ok zm (λvs H Q E h=>?_) (λcdv A outer s H vs Q E hr h=>?_)
 .obtain⟨a,ns,rfl,U,hl,q⟩:=h
  rfl
 obtain⟨a,ns,rfl,U,hl,q⟩:=h;refine⟨_,(@ao _ _ _ _ _ (@aJ _ _ (1) _ _ _ _ zm.nd rfl (ay rfl) aj (by rfl) (by first|exact .inl rfl|exact .inr rfl|assumption)) (@ao _ _ _ _ _ (@iT _ _ _ _ _ _ _ _ gW rfl (gx (K:=K) rfl (@lZ _ _ _ _ _ _ _ _ _ _ nZ (pv 0) mT (@mH _ _ _ aj))) (aO (i:=2) zm.nd rfl (ay rfl)) (@aC _ _ _ (@aJ _ _ (1) _ _ _ _ zm.nd rfl (ay rfl) (@aG _ _ _ _ _ _ _ _ jk (@aG _ _ _ _ _ _ _ _ eU (@aG _ _ _ _ _ _ _ _ eU (@aG _ _ _ _ _ _ _ _ iJ (pv 1) aj) (@aG _ _ _ _ _ _ _ _ jk (pv 2) aj)) aj) aj) (by rfl) (by first|exact .inl rfl|exact .inr rfl|assumption))) (by intro _;rfl)) (@aC _ _ _ (@aM _ _ _ _ (@eV _ _ _ _ (@aa _ _ _ _ _ (gC (dw.of (show dO (aE wU) ["script","stir","cell"] _ ["cell"] [none]=true by decide+kernel)) (gx (K:=K) rfl (@lZ _ _ _ _ _ _ _ _ _ _ nZ (pv 0) mT (@mH _ _ _ aj))) (λ_ _ _ _=>⟨(aO (i:=0) (by show bp (["cell"]:List Str);decide+kernel) rfl (ay rfl)),gM,(@aG _ _ _ _ _ _ _ _ jk (@bX _ _ _ _ _ _ _ _ _ Xr rfl G8 wx (@aa _ _ _ _ _ (pv 0) af rfl) ⋯ ⋯ (by rfl) (by rfl)) (@aG _ _ _ _ _ _ _ _ xC aj aj))⟩)) (@aa _ _ _ _ _ aj (@aa _ _ _ _ _ aj (@aa _ _ _ _ _ (pv 1) (@aa _ _ _ _ _ aj af rfl) rfl) rfl) rfl) rfl)))))),?_⟩;have nj:k7 (ns.map V.int) none (some 63)=ns.map V.int:=by
  have e:(ns.map V.int).length=ns.length:=ak _;show hJ (min 63 (ns.map V.int).length-0) (z1 0 (ns.map V.int))=_;rw[tG];exact rV ∅
 walk_at "st";refine R.JD U λc hc=>?_;rw[nj];refine R.wO (aZ.of bx) ?_;refine HJ (xs:=ns.map V.int) (λi σ H1=>∃(st:Int) (x:Option V),σ=[some (.ref a),some (.int st),x]/\0<=st/\st<2147483647/\H1=upd H c (.lst (ns.map V.int))) ⟨19,none,rfl,∅,∅,rfl⟩ ?_ ?_ ?_
 .rintro i σ H1 hi ⟨st,x,rfl,h1,h2,rfl⟩;exact aZ.of bx
 .rintro i x σ H1 hx ⟨st,y,rfl,h1,h2,rfl⟩;rw[cY] at hx;obtain⟨n,_,rfl⟩:=pF.mp hx;walk_at "st";exact⟨_,_,rfl,i8 _ ⋯,i6 _ ⋯,rfl⟩
 .rintro σ H1 ⟨st,x,rfl,h1,h2,rfl⟩;walk_at "st";refine R.JD ((cL hc).seq U) λc2 b=>?_;rw[nj];refine R.wO (aZ.of bx) ?_;intro acc hacc;refine R.J9 (xs:=ns.map V.int) (λi σ H2=>∃(x:Option V),σ=[x]/\H2=upd (upd (upd H c (.lst (ns.map V.int))) c2 (.lst (ns.map V.int))) acc (.lst (((ns.take i).map λn=>(if n<0 then-n else n)%10^60).map V.int))) ⟨none,rfl,rfl⟩ ?_ ?_ ?_
  .rintro i σ H1 hi ⟨x,rfl,rfl⟩;refine aZ.of ?_;rw[bq (iP bx hacc)];exact bx
  .rintro i x σ H1 hx ⟨y,rfl,rfl⟩;rw[cY] at hx;obtain⟨n,hn,rfl⟩:=pF.mp hx;walk_at "st";refine⟨_,bx,?_,_,rfl,?_⟩
   .rw[ak,ak,ly];exact Ja ∅
   .rw[Hj,DH,hn,cI,cI]
    rfl
  .rintro σ H1 ⟨x,rfl,rfl⟩;walk_at "st";refine(show FZ _ _ _ from⟨by show 5<=sizeLine;decide,λp hp=>?_⟩);have hn1:=iP (bx (H:=upd (upd H c (.lst (ns.map V.int))) c2 (.lst (ns.map V.int))) (a:=acc)) hp;have s1:cA H (upd (upd (upd H c (.lst (ns.map V.int))) c2 (.lst (ns.map V.int))) acc (.lst (((ns.take (ns.map V.int).length).map λn=>(if n<0 then-n else n)%10^60).map V.int))):=(cL hc).trans ((cL b).trans (cL hacc));refine q p acc _ (s1.trans (cL hp)) (s1.free hp) ⟨_,0,0,st,0,bx,by rw[bq hn1];exact bx,?_,?_,∅,∅,∅,h1,h2⟩
   .intro y hy;obtain⟨z,_,rfl⟩:=dG.mp hy;exact⟨i8 _ ⋯,i6 _ ⋯⟩
   .rw[ak,ly];omega
theorem yh:bH ["bag","many","found","k"] ["bag","many"] (aE CP):=⟨rfl,rfl,rfl,by decide+kernel,rfl,by decide+kernel,by decide+kernel⟩
theorem IB(F:bA K "_law_stirred" "_law_stirred" CP f fd)(bF:mg "range"=none):
  aW P w K mg base bu 1 f fd ["bag","many"] kH:=by
 refine F.ok yh (λvs H Q E h=>?_) (λcdv A outer s H vs Q E hr h=>?_)
 .obtain⟨b,l,many,rfl,O,hm,hs,q⟩:=h
  rfl
 obtain⟨b,l,many,rfl,O,hm,hs,q⟩:=h;refine⟨_,(@ao _ _ _ _ _ (@aJ _ _ (2) _ _ _ _ yh.nd rfl (ay rfl) aj (by rfl) (by first|exact .inl rfl|exact .inr rfl|assumption)) (@ao _ _ _ _ _ (@iT _ _ _ _ _ _ _ _ gW rfl (@iH _ _ _ _ _ _ rfl bF (@aa _ _ _ _ _ (@aG _ _ _ _ _ _ _ _ eU aj (@aG _ _ _ _ _ _ _ _ uW (Df PySem.F.plainAttrs_int PySem.F.slot_int_bit_length PySem.F.type_int_bit_length Rf (pv 1)) aj)) af rfl) (by rfl)) (aO (i:=3) yh.nd rfl (ay rfl)) (@ao _ _ _ _ _ (@gD _ _ _ _ _ _ (@aG _ _ _ _ _ _ _ _ eU (@au _ _ _ _ _ _ _ aX (pv 0) aj (λ_ _=>rfl)) aj) (jx (pv 0) aj set_list) (by rfl) (by rfl) (by rfl)) (@ao _ _ _ _ _ (@gD _ _ _ _ _ _ (@aG _ _ _ _ _ _ _ _ jk (@aG _ _ _ _ _ _ _ _ eU (@aG _ _ _ _ _ _ _ _ eU (@aG _ _ _ _ _ _ _ _ eU (@aG _ _ _ _ _ _ _ _ xC (@au _ _ _ _ _ _ _ aX (pv 0) aj (λ_ _=>rfl)) aj) (@aG _ _ _ _ _ _ _ _ iJ aj (@au _ _ _ _ _ _ _ aX (pv 0) aj (λ_ _=>rfl)))) (@aG _ _ _ _ _ _ _ _ iJ aj (@au _ _ _ _ _ _ _ aX (pv 0) aj (λ_ _=>rfl)))) aj) aj) (jx (pv 0) aj set_list) (by rfl) (by rfl) (by rfl)) (@aC _ _ _ (@aJ _ _ (2) _ _ _ _ yh.nd rfl (ay rfl) (@aG _ _ _ _ _ _ _ _ eU (@aG _ _ _ _ _ _ _ _ iJ (pv 2) aj) (@aG _ _ _ _ _ _ _ _ uW (@au _ _ _ _ _ _ _ aX (pv 0) aj (λ_ _=>rfl)) aj)) (by rfl) (by first|exact .inl rfl|exact .inr rfl|assumption))))) (by intro _;rfl)) (@aC _ _ _ (@aM _ _ _ _ (@aG _ _ _ _ _ _ _ _ jk (pv 2) (pv 1)))))),?_⟩;have ad8:=CI hs;walk_at "st";refine Gp (λi σ H1=>∃(a:Int) (x:Option V),σ=[some (.ref b),some (.int many),some (.int a),x]/\aY (Nb b) H H1/\ez H1 b l) ⟨0,none,rfl,aY.refl _ _,O⟩ ?_ ?_
 .rintro i σ H1 hi ⟨a,x,rfl,bt,ns,j,c,st,n,h1,h2,h3,h4,h5,h6,h7,h8,h9⟩;have hlb:=OV h1 h2;walk_at "st";refine⟨_,_,rfl,bt.trans (aY.set rfl),?_⟩;exact ez.put hlb h2 h3 h4 h5 h6 h7 (i8 _ ⋯) (i6 _ ⋯)
 .rintro σ H1 ⟨a,x,rfl,bt,B⟩;walk_at "st";exact q _ _ (i8 _ ∅) (i6 _ hm) bt B
theorem OA:bH ["bag","many","found"] ["bag","many"] (aE Gn):=⟨rfl,rfl,rfl,by decide+kernel,rfl,by decide+kernel,by decide+kernel⟩
theorem CW(F:bA K "_law_draw" "_law_draw" Gn f fd)(g:Callee P w K mg base "_law_stirred" 1 ["bag","many"] kH)(bh:mg "len"=none):
  aW P w K mg base bu 2 f fd ["bag","many"] kH:=by
 refine F.ok OA (λvs H Q E h=>?_) (λcdv A outer s H vs Q E hr h=>?_)
 .obtain⟨b,l,many,rfl,O,hm,hs,q⟩:=h
  rfl
 obtain⟨b,l,many,rfl,O,hm,hs,q⟩:=h;refine⟨_,(@ao _ _ _ _ _ (@cy _ _ _ _ _ _ _ _ (PW.pt (oq (@aS _ _ _ _ _ _ _ _ iA (@au _ _ _ _ _ _ _ aX (pv 0) aj (λ_ _=>rfl)) aj (aQ _)) (nG (@aS _ _ _ _ _ _ _ _ rm (@au _ _ _ _ _ _ _ aX (pv 0) aj (λ_ _=>rfl)) (@bX _ _ _ _ _ _ _ _ _ IP rfl bh fE (@aa _ _ _ _ _ (@au _ _ _ _ _ _ _ aX (pv 0) aj (λ_ _=>rfl)) af rfl) ⋯ ⋯ (by rfl) (by rfl)) (aQ _))))) (@ao _ _ _ _ _ (@gD _ _ _ _ _ _ (@au _ _ _ _ _ _ _ aX (@au _ _ _ _ _ _ _ aX (pv 0) aj (λ_ _=>rfl)) (@au _ _ _ _ _ _ _ aX (pv 0) aj (λ_ _=>rfl)) (λ_ _=>rfl)) (jx (pv 0) aj set_list) (by rfl) (by rfl) (by rfl)) (@aC _ _ _ (@gD _ _ _ _ _ _ (@aG _ _ _ _ _ _ _ _ eU (@au _ _ _ _ _ _ _ aX (pv 0) aj (λ_ _=>rfl)) aj) (jx (pv 0) aj set_list) (by rfl) (by rfl) (by rfl)))) (@aC _ _ _ (@cy _ _ _ _ _ _ _ _ (@aS _ _ _ _ _ _ _ _ iA (@au _ _ _ _ _ _ _ aX (pv 0) aj (λ_ _=>rfl)) aj (aQ _)) (@aC _ _ _ (@aM _ _ _ _ (@aD _ _ _ _ _ _ _ _ _ _ g (hr.mono ⋯) (@aa _ _ _ _ _ (pv 0) (@aa _ _ _ _ _ (pv 1) af rfl) rfl) (by rfl) ⋯ (by rfl) (by rfl)))) cJ))) (@ao _ _ _ _ _ (@aJ _ _ (2) _ _ _ _ OA.nd rfl (ay rfl) (@aG _ _ _ _ _ _ _ _ jk (@au _ _ _ _ _ _ _ aX (pv 0) aj (λ_ _=>rfl)) (pv 1)) (by rfl) (by first|exact .inl rfl|exact .inr rfl|assumption)) (@ao _ _ _ _ _ (@gD _ _ _ _ _ _ (@aG _ _ _ _ _ _ _ _ uW (@au _ _ _ _ _ _ _ aX (pv 0) aj (λ_ _=>rfl)) (pv 1)) (jx (pv 0) aj set_list) (by rfl) (by rfl) (by rfl)) (@aC _ _ _ (@aM _ _ _ _ (pv 2)))))),?_⟩;obtain⟨ns,i,c,st,n,h1,h2,h3,h4,h5,p,d,j,e⟩:=id O;have hlb:=OV h1 h2
 have fin:∀(H1:Hp) (a c':Int),H1 b=some (.lst [.ref l, .int a, .int c', .int st, .int n])->aY (Nb b) H H1->0<=a->0<=c'->c'<10^60->
   ∀(H2:Hp),H2=upd H1 b (.lst [.ref l, .int a, .int (c'/many), .int st, .int n])->Q (.int (c'%many)) H2:=λH1 a c' e1 bt g1 g2 N H2 e2=>by
  subst e2;have hd1:0<=c'/many:=AW g2 ∅;have o:c'/many<=c':=D4 _ g2;exact q _ _ (i8 _ ∅) (i6 _ hm) (bt.trans (aY.set rfl)) (ez.put hlb (bt _ _ hlb h2) h3 h4 g1 hd1 ∅ j e)
 walk_at "st";refine sf (λc1=>?_) (λc1=>?_)
 .have c1:c=0:=of_decide_eq_true c1;walk_at "st";refine sf (λc2=>?_) (λc2=>?_)
  .have c2:i<(cj V.int ns).length:=of_decide_eq_true c2;rw[ak] at c2;have hi:i.toNat<ns.length:=∅
   obtain⟨g1,g2⟩:=h3 _ (fZ hi);walk_at "st";refine R.vY h2 (v:= .int ns[i.toNat]) (iE h5 (by rw[cY,bw hi];rfl)) ?_;walk_at "st";refine fin (upd H b (.lst [.ref l, .int (i+1), .int ns[i.toNat], .int st, .int n])) (i+1) ns[i.toNat] bx (aY.set rfl) ∅ g1 g2 _ ?_;rw[Hj]
   rfl
  .walk_at "st";exact⟨b,l,many,rfl,O,hm,hs,q⟩
 .have c1:¬c=0:=of_decide_eq_false (rP.mpr c1);walk_at "st";exact fin H i c h1 (aY.refl _ _) h5 p d _ rfl
def jh:Nat->PyData->Prop
 |0,_=>False
 |n+1,d=>jH d=true\/∃ds,(d= .list ds\/d= .tuple ds)/\ds.length<=10000/\∀e∈ds,jh n e
def qf(n:Nat):DF:=λds Φ=>∃d,ds=[d,d]/\jh n d/\Φ true (.bool true)
theorem p9(n:Nat):cM (qf n):=by
 intro ds Φ Ψ hm z;revert hm;walk_at "mo";exact λq=>z _ _ q
theorem Vw:∀vs H Q E,¬aU 2 (qf 0) vs H Q E:=λvs H Q E ⟨_,_,_,_,_,d,_,h,_⟩=>h
theorem V6:bH ["found","due"] ["found","due"] (aE yu):=⟨rfl,rfl,rfl,by decide+kernel,rfl,by decide+kernel,by decide+kernel⟩
theorem pB(n:Nat)(F:bA K "_law_alike" "_law_alike" yu f fd)(N:Callee P w K mg base "_law_alike" (n) ["found","due"] (aU 2 (qf n)))(ig:mg "isinstance"=none)(bY:mg "list"=none)(lu:mg "tuple"=none)(jO:mg "all"=none)(bh:mg "len"=none)(kZ:mg "bool"=none)(gV:mg "int"=none)(jG:mg "str"=none)(bF:mg "range"=none):
  aW P w K mg base bu (n+1) f fd ["found","due"] (aU 2 (qf (n+1))):=by
 refine F.ok V6 (λvs H Q E h=>h.1) (λcdv A outer s H vs Q E hr h=>?_);obtain⟨nb,ds,Φ,g,u,I,M⟩:=fL h;obtain⟨d,rfl,hok,q⟩:=M;refine⟨_,(@ao _ _ _ _ _ (@cy _ _ _ _ _ _ _ _ (@kD _ (K) _ _ rfl (@bX _ _ _ _ _ _ _ _ (wK) Ln rfl ig lG (@aa _ _ _ _ _ (pv 1) (@aa _ _ _ _ _ (@bQ _ _ _ _ _ (@aa _ _ _ _ _ (ko (v:= .ty "list") rfl bY iR rfl) (@aa _ _ _ _ _ (ko (v:= .ty "tuple") rfl lu Nv rfl) af rfl) rfl)) af rfl) rfl) ⋯ ⋯ (by rfl) (by rfl)) (λ_=>rfl)) (@ao _ _ _ _ _ (@cy _ _ _ _ _ _ _ _ (PW.pt (kC (@nu _ _ _ _ (@kD _ (K) _ _ rfl (@bX _ _ _ _ _ _ _ _ (wK) Ln rfl ig lG (@aa _ _ _ _ _ (pv 0) (@aa _ _ _ _ _ (@bQ _ _ _ _ _ (@aa _ _ _ _ _ (ko (v:= .ty "list") rfl bY iR rfl) (@aa _ _ _ _ _ (ko (v:= .ty "tuple") rfl lu Nv rfl) af rfl) rfl)) af rfl) rfl) ⋯ ⋯ (by rfl) (by rfl)) (λ_=>rfl))) (lC (@aS _ _ _ _ _ _ _ _ iw (@bX _ _ _ _ _ _ _ _ (kX K) nJ rfl ig lG (@aa _ _ _ _ _ (pv 0) (@aa _ _ _ _ _ (ko (v:= .ty "list") rfl bY iR rfl) af rfl) rfl) ⋯ ⋯ (by rfl) (by rfl)) (@bX _ _ _ _ _ _ _ _ (kX K) nJ rfl ig lG (@aa _ _ _ _ _ (pv 1) (@aa _ _ _ _ _ (ko (v:= .ty "list") rfl bY iR rfl) af rfl) rfl) ⋯ ⋯ (by rfl) (by rfl)) (aQ _))))) (@aC _ _ _ (@aM _ _ _ _ mO)) cJ) (@ao _ _ _ _ _ (@cy _ _ _ _ _ _ _ _ (@aS _ _ _ _ _ _ _ _ iw (@bX _ _ _ _ _ _ _ _ (eX K) gk rfl bh fE (@aa _ _ _ _ _ (pv 0) af rfl) ⋯ ⋯ (by rfl) (by rfl)) (@bX _ _ _ _ _ _ _ _ (eX K) gk rfl bh fE (@aa _ _ _ _ _ (pv 1) af rfl) ⋯ ⋯ (by rfl) (by rfl)) (aQ _)) (@aC _ _ _ (@aM _ _ _ _ mO)) cJ) (@aC _ _ _ (@aM _ _ _ _ (@bX _ _ _ _ _ _ _ _ (zI K) (Kr rfl) rfl jO PX (@aa _ _ _ _ _ (gC (dw.of (show dO (aE yu) ["found","due"] _ ["k","found","due"] [none,some 0,some 1]=true by decide+kernel)) (@iH _ _ _ _ _ _ rfl bF (@aa _ _ _ _ _ (@bX _ _ _ _ _ _ _ _ (eX K) gk rfl bh fE (@aa _ _ _ _ _ (pv 1) af rfl) ⋯ ⋯ (by rfl) (by rfl)) af rfl) (by rfl)) (λ_ _ _ _=>⟨(aO (i:=0) (by show bp (["k","found","due"]:List Str);decide+kernel) rfl (ay rfl)),gM,(@aD _ _ _ _ _ _ _ _ _ _ N (hr.mono (aH _)) (@aa _ _ _ _ _ (@au _ _ _ _ _ _ (wN K) Pr (pv 1) (pv 0) (λ_ _=>rfl)) (@aa _ _ _ _ _ (@au _ _ _ _ _ _ (wN K) Pr (pv 2) (pv 0) (λ_ _=>rfl)) af rfl) rfl) (by rfl) ⋯ (by rfl) (by rfl))⟩)) af rfl) ⋯ ⋯ (by rfl) (by rfl)))))) cJ) (@ao _ _ _ _ _ (@cy _ _ _ _ _ _ _ _ (PW.pt (kC (@aS _ _ _ _ _ _ _ _ iw (@bX _ _ _ _ _ _ _ _ (kX K) nJ rfl ig lG (@aa _ _ _ _ _ (pv 0) (@aa _ _ _ _ _ (ko (v:= .ty "bool") rfl kZ P0 rfl) af rfl) rfl) ⋯ ⋯ (by rfl) (by rfl)) (@bX _ _ _ _ _ _ _ _ (kX K) nJ rfl ig lG (@aa _ _ _ _ _ (pv 1) (@aa _ _ _ _ _ (ko (v:= .ty "bool") rfl kZ P0 rfl) af rfl) rfl) ⋯ ⋯ (by rfl) (by rfl)) (aQ _)) (lC (@aS _ _ _ _ _ _ _ _ iw (@bX _ _ _ _ _ _ _ _ (kX K) nJ rfl ig lG (@aa _ _ _ _ _ (pv 0) (@aa _ _ _ _ _ (ko (v:= .ty "int") rfl gV uH rfl) af rfl) rfl) ⋯ ⋯ (by rfl) (by rfl)) (@bX _ _ _ _ _ _ _ _ (kX K) nJ rfl ig lG (@aa _ _ _ _ _ (pv 1) (@aa _ _ _ _ _ (ko (v:= .ty "int") rfl gV uH rfl) af rfl) rfl) ⋯ ⋯ (by rfl) (by rfl)) (aQ _))))) (@aC _ _ _ (@aM _ _ _ _ mO)) cJ) (@aC _ _ _ (@aM _ _ _ _ (@MU _ _ _ _ _ _ _ (@oM _ _ _ _ _ _ _ _ iA (@bX _ _ _ _ _ _ _ _ (kX K) nJ rfl ig lG (@aa _ _ _ _ _ (pv 0) (@aa _ _ _ _ _ (ko (v:= .ty "str") rfl jG D9 rfl) af rfl) rfl) ⋯ ⋯ (by rfl) (by rfl)) (@bX _ _ _ _ _ _ _ _ (kX K) nJ rfl ig lG (@aa _ _ _ _ _ (pv 1) (@aa _ _ _ _ _ (ko (v:= .ty "str") rfl jG D9 rfl) af rfl) rfl) ⋯ ⋯ (by rfl) (by rfl)) (aQ _)) (@LZ _ _ _ _ _ (@oM _ _ _ _ _ _ _ _ iA (pv 0) (pv 1) (aQ _)))))))),?_⟩;refine Sv.fF g u I (ρ:=[.d false _, .d false _]) rfl ?_;clear I u;rfl';rcases hok with hs|⟨ds,hd,hl,he⟩
 .have h1:(jq d "list" ||jq d "tuple")=false:=by cases d<;>first|rfl|cases hs
  rw[h1];rfl';rw[beq_self_eq_true];rfl';rw[beq_self_eq_true];rfl';rw[beq_self_eq_true];rfl';exact⟨true, .self hs,q⟩
 rcases hd with rfl|rfl
 .rw[(Mc ds).1,(Mc ds).2,sO];rfl';refine aq.ev (aq.kI ⋯ rfl ?_);rfl';refine⟨true,λi es=>es=cf i (.bool true),rfl,?_,?_⟩
  .rintro i d' es ⟨hi,rfl⟩ hl' rfl;have c:i<ds.length:=∅
   have S:bC ds (0+(i:Int))=some ds[i]:=iE ∅ (by rw[show(0+(i:Int)).toNat=i by omega];exact bw c);rfl';refine⟨by walk_at "wk",?_⟩;rfl';refine Ev.cZ (p9 n) ?_;rfl';refine⟨rfl,ds[i],rfl,he _ (fZ c),λ_=>rfl,?_⟩;show _=cf (i+1) _;rw[NT]
  .rintro es hl' rfl;refine⟨cf ds.length true,by simp,?_⟩;rw[show(cf ds.length true).all id=true by simp];exact q
 .rw[(PY ds).1,(PY ds).2,qK];rfl';refine aq.ev (aq.kI ⋯ rfl ?_);rfl';refine⟨true,λi es=>es=cf i (.bool true),rfl,?_,?_⟩
  .rintro i d' es ⟨hi,rfl⟩ hl' rfl;have c:i<ds.length:=∅
   have S:bC ds (0+(i:Int))=some ds[i]:=iE ∅ (by rw[show(0+(i:Int)).toNat=i by omega];exact bw c);rfl';refine⟨by walk_at "wk",?_⟩;rfl';refine Ev.cZ (p9 n) ?_;rfl';refine⟨rfl,ds[i],rfl,he _ (fZ c),λ_=>rfl,?_⟩;show _=cf (i+1) _;rw[NT]
  .rintro es hl' rfl;refine⟨cf ds.length true,by simp,?_⟩;rw[show(cf ds.length true).all id=true by simp];exact q
theorem I7(is:List Int):dE (.list (is.map a4)) (.list [])=decide (is=[]):=by
 cases is<;>simp[dE,eJ]
theorem Ka(is:List Int):de (.list (is.map a4))=true:=by
 have h:df (is.map a4)=0/\cU (is.map a4)=true:=by
  induction is with
  |nil=>simp[df,cU]
  |cons a r ih=>simp[df,hG,cU,dy,ih.2,ih.1]
 unfold de;simp[dy,hG,h.2,h.1]
theorem KD{nb:ax->Prop}{H:Hp}:∀is:List Int,ah nb H (is.map a4) (is.map V.int)
 |[]=>ah.nil
 |i::is=>ah.cons (.int i) (KD is)
theorem S9{r:Int}(h0:r<=10100)(h:∀d:Int,2<=d->d<102->¬(d*d<=r/\r%d=0)):vz r:=λd d1 X e=>by
 by_cases hd:d<102;·exact h d d1 hd ⟨X,e⟩
 .have:102*102<=d*d:=Dn ∅ ∅ ∅ ∅;omega
theorem MK:bH ["number","found"] ["number"] (aE zS):=⟨rfl,rfl,rfl,by decide+kernel,rfl,by decide+kernel,by decide+kernel⟩
theorem FI(F:bA K "_law_prime_from" "_law_prime_from" zS f fd)(bF:mg "range"=none):
  aW P w K mg base bu 1 f fd ["number"] GZ:=by
 refine F.ok MK (λvs H Q E h=>?_) (λcdv A outer s H vs Q E hr h=>?_)
 .obtain⟨n,rfl,hn1,m,q⟩:=h
  rfl
 obtain⟨n,rfl,hn1,m,q⟩:=h;refine⟨_,(@ao _ _ _ _ _ (@iT _ _ _ _ _ _ _ _ gW rfl (@Mf _ _ _ _ _ _ _ rfl bF (@aa _ _ _ _ _ (pv 0) (@aa _ _ _ _ _ (@aG _ _ _ _ _ _ _ _ eU (pv 0) aj) af rfl) rfl) (by rfl) (by rfl)) (aO (i:=1) MK.nd rfl (ei rfl)) (@aC _ _ _ (@cy _ _ _ _ _ _ _ _ (@aS _ _ _ _ _ _ _ _ (Bt hr.units) (gC (dw.of (show dO (aE zS) ["number","found"] _ ["k","found"] [none,some 1]=true by decide+kernel)) (@Mf _ _ _ _ _ _ _ rfl bF (@aa _ _ _ _ _ aj (@aa _ _ _ _ _ aj af rfl) rfl) (by rfl) (by rfl)) (λ_ _ _ _=>⟨(aO (i:=0) (by show bp (["k","found"]:List Str);decide+kernel) rfl (ay rfl)),(mz (PW.pt (oq (@aS _ _ _ _ _ _ _ _ Vg (@aG _ _ _ _ _ _ _ _ iJ (pv 0) (pv 0)) (pv 1) (aQ _)) (nG (@aS _ _ _ _ _ _ _ _ iA (@aG _ _ _ _ _ _ _ _ jk (pv 1) (pv 0)) aj (aQ _)))))),(pv 0)⟩)) (@eV _ _ _ _ af) (aQ _)) (@aC _ _ _ (@aM _ _ _ _ (pv 1))) cJ)) (by intro _;rfl)) (@aC _ _ _ (@aM _ _ _ _ aj))),?_⟩;walk_at "st";refine Gp (λi σ H1=>cA H H1/\∃(x:Option V),σ=[some (.int n),x]) ⟨cA.refl _,none,rfl⟩ ?_ ?_
 .rintro i σ H1 hi ⟨s1,x,rfl⟩;have b:(i:Int)<60:=∅
  walk_at "st";intro acc hacc;refine R.IT (λj σ H2=>cA H1 H2/\(∃x:Option V,σ=[x,some (.int (n+i))])/\∃is:List Int,H2 acc=some (.lst (is.map V.int))/\is.length<=j/\(is=[]->∀d:Int,2<=d->d<2+j->¬(d*d<=n+i/\(n+i)%d=0))) ?_ ?_ ?_;·exact⟨cL hacc,⟨none,rfl⟩,[],bx,fj _,λ_ d d1 X=>∅⟩
  .rintro j σ H2 hj ⟨s2,⟨x,rfl⟩,is,e2,l2,h2⟩;have hj2:(j:Int)<100:=∅
   have next:∀d:Int,d<2+((j+1:Nat):Int)->d<2+j\/d=2+j:=λd h=>∅
   walk_at "st";refine sf (λc1=>?_) (λc1=>?_)
   .have c1:(2+(j:Int))*(2+j)<=n+i:=of_decide_eq_true c1;walk_at "st";refine sf (λc2=>?_) (λc2=>?_)
    .have c2:(n+i)%(2+(j:Int))=0:=of_decide_eq_true c2;walk_at "st";refine⟨_,e2,?_,?_,⟨_,rfl⟩,is++[2+(j:Int)],?_,?_,λe=>?_⟩;·rw[ak];exact Ja ∅
     .exact λa o h=>by rw[bq (iP h hacc)];exact s2 _ _ h
     .rw[bx,cI];rfl
     .rw[cK,jn];omega
     .simp at e
    .have c2:¬(n+i)%(2+(j:Int))=0:=of_decide_eq_false (rP.mpr c2);refine⟨s2,⟨_,rfl⟩,is,e2,∅,λe d d1 X=>?_⟩;rcases next d X with h|h
     .exact h2 e d d1 h
     .rw[h];exact λz=>c2 z.2
   .have c1:¬(2+(j:Int))*(2+j)<=n+i:=of_decide_eq_false (rP.mpr c1);walk_at "st";refine⟨s2,⟨_,rfl⟩,is,e2,∅,λe d d1 X=>?_⟩;rcases next d X with h|h
    .exact h2 e d d1 h
    .rw[h];exact λz=>c1 z.1
  .rintro σ H2 ⟨s2,⟨x,rfl⟩,is,e2,l2,h2⟩;walk_at "st";refine R.UK ⋯ λp H3 s3 T e3=>?_;refine⟨λ_=>False, .list (is.map a4), .list [], .lst id (s3 _ _ e2) (KD is), .lst id e3 ah.nil,Ka is,⋯,?_⟩;rw[I7];walk_at "st";have s:cA H H3:=s1.trans (s2.trans s3);refine sf (λc=>?_) (λc=>?_)
   .have c:is=[]:=by simpa using c
    walk_at "st";exact q _ _ s ∅ ∅ (S9 ∅ λd d1 X=>h2 c d d1 ∅)
   .walk_at "st";exact⟨s,_,rfl⟩
 .rintro σ H1 ⟨s1,x,rfl⟩;walk_at "st";refine q _ _ s1 ∅ ∅ λd d1 X=>?_;have:2*2<=d*d:=Dn d1 d1 ∅ ∅;omega
def Es:DF:=λds Φ=>ds=[]/\∀p:Int,gG p->p<10^40->∀f,Φ f (.int p)
theorem Yq:cM Es:=by
 intro ds Φ Ψ hm z;revert hm;walk_at "mo";exact λq=>λp h1 h2 f=>z _ _ (q p h1 h2 f)
theorem ZT:∀x∈([2,3,5,7,2,11,101,10007,65537,1000003,998244353,1000000007,2147483647,1000000000039,10^r3 39+3,10^r3 40-17,2305843009213693951,618970019642690137449562111,162259276829213363391578010288127,170141183460469231731687303715884105727]:List Int),x∈vo/\x<10^40:=⋯
theorem sZ:bH ["bag","some","way"] ["bag"] (aE BB):=⟨rfl,rfl,rfl,by decide+kernel,rfl,by decide+kernel,by decide+kernel⟩
theorem US(F:bA K "_law_prime" "_law_prime" BB f fd)(B:Callee P w K mg base "_law_draw" 2 ["bag","many"] kH)(d:Callee P w K mg base "_law_prime_from" 1 ["number"] GZ):
  aW P w K mg base bu 3 f fd ["bag"] (fP 1 Es):=by
 refine F.ok sZ (λvs H Q E h=>h.1) (λcdv A outer s H vs Q E hr h=>?_);obtain⟨b,l,ws,nb,ds,Φ,rfl,O,g,W,u,I,M⟩:=mK h;obtain⟨rfl,q⟩:=M;refine⟨_,(@ao _ _ _ _ _ (@V8 _ 1 _ _ _ _ _ _ sZ.nd rfl (ay rfl) rfl (ay rfl)) (@ao _ _ _ _ _ (@aJ _ _ (1) _ _ _ _ sZ.nd rfl (ay rfl) (@aG _ _ _ _ _ _ _ _ p8 (pv 1) (@eV _ _ _ _ (@aa _ _ _ _ _ (@aG _ _ _ _ _ _ _ _ eU (@aG _ _ _ _ _ _ _ _ xC aj aj) aj) (@aa _ _ _ _ _ (@aG _ _ _ _ _ _ _ _ jm (@aG _ _ _ _ _ _ _ _ xC aj aj) aj) (@aa _ _ _ _ _ aj (@aa _ _ _ _ _ aj af rfl) rfl) rfl) rfl))) (by rfl) (by first|exact .inl rfl|exact .inr rfl|assumption)) (@ao _ _ _ _ _ (@aJ _ _ (1) _ _ _ _ sZ.nd rfl (ay rfl) (@aG _ _ _ _ _ _ _ _ p8 (pv 1) (@eV _ _ _ _ (@aa _ _ _ _ _ aj (@aa _ _ _ _ _ aj af rfl) rfl))) (by rfl) (by first|exact .inl rfl|exact .inr rfl|assumption)) (@ao _ _ _ _ _ (@aJ _ _ (2) _ _ _ _ sZ.nd rfl (ay rfl) (@aD _ _ _ _ _ _ _ _ _ _ B (hr.mono ⋯) (@aa _ _ _ _ _ (pv 0) (@aa _ _ _ _ _ aj af rfl) rfl) (by rfl) ⋯ (by rfl) (by rfl)) (by rfl) (by first|exact .inl rfl|exact .inr rfl|assumption)) (@aC _ _ _ (@aM _ _ _ _ (@o9 _ _ _ _ _ _ _ _ (@aS _ _ _ _ _ _ _ _ rm (pv 2) aj (aQ _)) (@au _ _ _ _ _ _ (bG K) aX (pv 1) (pv 2) (λ_ _=>rfl)) (@aD _ _ _ _ _ _ _ _ _ _ d (hr.mono ⋯) (@aa _ _ _ _ _ (@aG _ _ _ _ _ _ _ _ eU aj (@aD _ _ _ _ _ _ _ _ _ _ B (hr.mono ⋯) (@aa _ _ _ _ _ (pv 0) (@aa _ _ _ _ _ aj af rfl) rfl) (by rfl) ⋯ (by rfl) (by rfl))) af rfl) (by rfl) ⋯ (by rfl) (by rfl))))))))),?_⟩;refine Sv.mE O g W u I (ρ:=[.az, .no, .no]) rfl ?_;clear I u;rfl';intro way w1 w2;by_cases c:way<20
 .rfl';obtain⟨m,v,G,a⟩:=pick (L:=[2,3,5,7,2,11,101,10007,65537,1000003,998244353,1000000007,2147483647,1000000000039,10^r3 39+3,10^r3 40-17,2305843009213693951,618970019642690137449562111,162259276829213363391578010288127,170141183460469231731687303715884105727]) (k:=way) w1 (by show _<(20:Int);omega) _ ZT;refine⟨_,v,?_⟩;exact q m (YL m G) a _
 .rfl';intro r r1 r2;rfl';exact λr' h1 h2=>q r' h1 h2 _
def uO:DF:=λds Φ=>∃p a b:Int,ds=[.int p, .int a, .int b]/\gG p/\p<10^40/\b%p≠0/\ -(10^85)<=a/\a<=10^85/\((∃k,b*sol p b a-a=p*k)->Φ true (.int (sol p b a)))
theorem Di:cM uO:=by
 intro ds Φ Ψ hm z;revert hm;walk_at "mo";exact λq=>λh=>z _ _ (q h)
theorem lM:bH ["p","a","b","old","new","one","two","times"] ["p","a","b"] (aE DK):=⟨rfl,rfl,rfl,by decide+kernel,rfl,by decide+kernel,by decide+kernel⟩
theorem Zs(F:bA K "_law_over" "_law_over" DK f fd):
  aW P w K mg base bu 1 f fd ["p","a","b"] (aU 3 uO):=by
 refine F.ok lM (λvs H Q E h=>h.1) (λcdv A outer s H vs Q E hr h=>?_);obtain⟨nb,ds,Φ,g,u,I,M⟩:=fL h;obtain⟨p,a,b,rfl,hp,gK,hb,B,a1,q⟩:=M;refine⟨_,(@ao _ _ _ _ _ (@gD _ _ _ _ _ _ (@bQ _ _ _ _ _ (@aa _ _ _ _ _ (@aG _ _ _ _ _ _ _ _ jk (pv 2) (pv 0)) (@aa _ _ _ _ _ (pv 0) (@aa _ _ _ _ _ aj (@aa _ _ _ _ _ aj af rfl) rfl) rfl) rfl)) (@i9 _ (K) _ _ _ (4) _ rfl rfl (@cF _ _ _ _ _ (aO (i:=3) lM.nd rfl (ay rfl)) (@cF _ _ _ _ _ (aO (i:=4) lM.nd rfl (ay rfl)) (@cF _ _ _ _ _ (aO (i:=5) lM.nd rfl (ay rfl)) (@cF _ _ _ _ _ (aO (i:=6) lM.nd rfl (ay rfl)) iN (by rfl)) (by rfl)) (by rfl)) (by rfl)) (by rfl) (by rfl)) (by rfl) (by rfl) (by rfl)) (@ao _ _ _ _ _ (@DV _ _ _ _ _ _ gW (@aS _ _ _ _ _ _ _ _ iw (pv 4) aj (aQ _)) (@ao _ _ _ _ _ (@aJ _ _ (7) _ _ _ _ lM.nd rfl (ay rfl) (@aG _ _ _ _ _ _ _ _ uW (pv 3) (pv 4)) (by rfl) (by first|exact .inl rfl|exact .inr rfl|assumption)) (@aC _ _ _ (@gD _ _ _ _ _ _ (@bQ _ _ _ _ _ (@aa _ _ _ _ _ (pv 4) (@aa _ _ _ _ _ (@aG _ _ _ _ _ _ _ _ jm (pv 3) (@aG _ _ _ _ _ _ _ _ iJ (pv 7) (pv 4))) (@aa _ _ _ _ _ (pv 6) (@aa _ _ _ _ _ (@aG _ _ _ _ _ _ _ _ jm (pv 5) (@aG _ _ _ _ _ _ _ _ iJ (pv 7) (pv 6))) af rfl) rfl) rfl) rfl)) (@i9 _ (K) _ _ _ (4) _ rfl rfl (@cF _ _ _ _ _ (aO (i:=3) lM.nd rfl (ay rfl)) (@cF _ _ _ _ _ (aO (i:=4) lM.nd rfl (ay rfl)) (@cF _ _ _ _ _ (aO (i:=5) lM.nd rfl (ay rfl)) (@cF _ _ _ _ _ (aO (i:=6) lM.nd rfl (ay rfl)) iN (by rfl)) (by rfl)) (by rfl)) (by rfl)) (by rfl) (by rfl)) (by rfl) (by rfl) (by rfl))))) (@aC _ _ _ (@aM _ _ _ _ (@aG _ _ _ _ _ _ _ _ jk (@aG _ _ _ _ _ _ _ _ iJ (pv 1) (pv 5)) (pv 0)))))),?_⟩;refine Sv.fF g u I (ρ:=[.d false _, .d false _, .d false _, .no, .no, .no, .no, .no]) rfl ?_;clear I u;have p2:=hp.1;have m1:=i8 b (show p≠0 by omega);have m2:=i6 b (show 0<p by omega);rfl';show mW _ _ _ _ [a4 (b%p), .int p, .int 1, .int 0] _;rfl';refine Sv.JH (λρ=>∃(L lt r t:Int) (y:Sl),ρ=[.d false (.int p), .d false (.int a), .d false (.int b), .d true (.int L), .d true (.int r), .d true (.int lt), .d true (.int t),y]/\(-p<=lt/\lt<=p)/\((L=b%p/\r=p/\lt=1/\t=0)\/Eu p b L lt r t)) (λρ:Rh=>match ρ[4]? with|some (Sl.d _ (a4 r))=>r.toNat|_=>0) ⟨_,_,_,_,_,rfl,∅, .inl ⟨rfl,rfl,rfl,rfl⟩⟩ ?_;rintro ρ ⟨L,lt,r,t,y,rfl,hlt,hI⟩;by_cases c:r=0
 .rcases hI with ⟨_,h,_,_⟩|hE
  .omega
  subst c;obtain⟨k,hk⟩:=hE.fin hp hb;obtain⟨Y,S⟩:=hE.tb;have sa:Sm a:=by unfold Sm;omega
  have sl:Sm lt:=by unfold Sm;omega
  rfl';have e:=nk (a*lt) p;have ef:=nk lt p
  have ex:∃k,b*(a*lt%p)-a=p*k:=⟨a*k+a*(lt/p)*b-a*lt/p*b,by
   generalize a*lt/p=Q1 at*;generalize a*lt%p=R1 at*;generalize lt/p=Q2 at*;generalize lt%p=R2 at*;have h1:R1=a*lt-p*Q1:=∅
   have h2:lt=p*Q2+R2:=∅
   rw[h1];have h3:a*(R2*b)=a*(1+p*k):=by rw[hk]
   grind⟩
  have es:=Kd (x:=a*lt%p) (a:=a) hp hb (i8 _ ∅) (i6 _ ∅) ex;rw[es];rw[es] at ex;exact q ex
 .rcases hI with ⟨rfl,rfl,rfl,rfl⟩|hE
  .have R:b%r/r=0:=Int.ediv_eq_zero_of_lt m1 m2;rfl';show mW _ _ _ _ [a4 r, .int (b%r-b%r/r*r), .int 0, .int (1-b%r/r*0)] _;rw[R];rfl';refine⟨⟨_,_,_,_,_,rfl,∅, .inr ?_⟩,?_⟩
   .rw[qh,DO,Fx,DO];exact Eu.start p2
   .show(b%r-0*r).toNat<r.toNat;rw[qh];omega
  .obtain⟨Y,S⟩:=hE.tb;have e1:=hE.l0;have e2:=hE.r0;have e3:=hE.lp;have e4:=hE.rp;have hr:0<r:=∅
   have J:0<=L/r:=AW ∅ ∅;have O:L/r<=L:=D4 _ ∅;obtain⟨j,l⟩:=hE.next hr
   rfl';show mW _ _ _ _ [a4 r, .int (L-L/r*r), .int t, .int (lt-L/r*t)] _;rfl';exact⟨⟨_,_,_,_,_,rfl,⟨Y,S⟩, .inr j⟩,by show(L-L/r*r).toNat<r.toNat;omega⟩
def Aa:DF:=λds Φ=>∃(p:Int) (prs:aA) (wd:Wo),ds=[.int p,e7 prs,bI wd]/\0<p/\prs.length<=10000/\qF prs wd.length/\dU wd/\Φ true (.int (dB prs wd%p))
theorem Me:cM Aa:=by
 intro ds Φ Ψ hm z;revert hm;walk_at "mo";exact λq=>z _ _ q
theorem U9:bH ["p","pairs","word"] ["p","pairs","word"] (aE wY):=⟨rfl,rfl,rfl,by decide+kernel,rfl,by decide+kernel,by decide+kernel⟩
theorem Qz(F:bA K "_law_sum" "_law_sum" wY f fd)(E7:mg "sum"=none):
    aW P w K mg base bu 1 f fd ["p","pairs","word"] (aU 3 Aa):=by
  refine F.ok U9 (λvs H Q E h=>h.1) (λcdv A outer s H vs Q E hr h=>?_);obtain⟨nb,ds,Φ,g,u,I,M⟩:=fL h;obtain⟨p,prs,wd,rfl,hp,hl,h1,h2,q⟩:=M;refine⟨_,(@aC _ _ _ (@aM _ _ _ _ (@aG _ _ _ _ _ _ _ _ jk (@bX _ _ _ _ _ _ _ _ (Ft K) (QB rfl) rfl E7 wy (@aa _ _ _ _ _ (gC (dw.of (show dO (aE wY) ["p","pairs","word"] _ ["place","factor","word"] [none,none,some 2]=true by decide+kernel)) (gx (K:=K) rfl (pv 1)) (λ_ _ _ _=>⟨(@i9 _ (K) _ _ _ (2) _ rfl rfl (@cF _ _ _ _ _ (aO (i:=0) (by show bp (["place","factor","word"]:List Str);decide+kernel) rfl (ay rfl)) (@cF _ _ _ _ _ (aO (i:=1) (by show bp (["place","factor","word"]:List Str);decide+kernel) rfl (ay rfl)) iN (by rfl)) (by rfl)) (by rfl) (by rfl)),(mz (@aS _ _ _ _ _ _ _ _ l7 (@au _ _ _ _ _ _ (bG K) aX (pv 2) (pv 0) (λ_ _=>rfl)) fk (aQ _))),(@aG _ _ _ _ _ _ _ _ iJ (pv 1) (@au _ _ _ _ _ _ (bG K) aX (pv 2) (pv 0) (λ_ _=>rfl)))⟩)) af rfl) ⋯ ⋯ (by rfl) (by rfl)) (pv 0)))),?_⟩;refine Sv.fF g u I (ρ:=[.d false _, .d false _, .d false _]) rfl ?_;clear I u;rfl';refine aq.ev (aq.ju ⋯ rfl ?_);rfl';refine⟨by rw[ak];exact hl,λv=>⟨false,λi ds=>∃ns:List Int,ds=ns.map .int/\ns.sum=dB (prs.take i) wd,⟨[],rfl,by simp[dB]⟩,?_,?_⟩⟩
  · rintro i d ds hd hl' ⟨ns,rfl,hs⟩
    obtain⟨pr,dP,rfl⟩:=fB hd;obtain⟨g1,g2,N⟩:=h1 pr (fQ dP);obtain⟨o,D,S⟩:=uI (xs:=wd) bS g1 g2 rfl;have hi:i<prs.length:=(bT.mp dP).1;have Bo:=KU (wd:=wd) hi;have a:prs[i]=pr:=(bT.mp dP).2;rw[a] at Bo;rfl';refine⟨by walk_at "wk",?_⟩;rfl';rw[rM];cases o with
    | none =>
      rfl';refine⟨ns,rfl,?_⟩;rw[Bo,hs];unfold oX;rw[D];simp
    | some x =>
      have hx:Sm x:=h2 x (fQ D);have b:bC (wd.map bS) pr.1=some (.int x):=S;rfl';refine⟨ns++[pr.2*x],by simp,?_⟩;rw[Bo,qs,hs];unfold oX;rw[D];simp
  · rintro ds hl' ⟨ns,rfl,hs⟩
    rw[ak,fW] at hs;refine⟨ns,rfl,?_⟩;rw[hs];rfl';exact q
def Gs:DF:=λds Φ=>∃p n:Int,ds=[.int p, .int n]/\KW p/\0<=n/\n<=10000/\∀os:List Int,(os.length:Int)=n->(∀x∈os,0<=x/\x<p)->Φ true (.list (os.map .int))
theorem yL:cM Gs:=by
 intro ds Φ Ψ hm z;revert hm;walk_at "mo";exact λq=>λos a b=>z _ _ (q os a b)
theorem Il:bH ["bag","p","n","way"] ["bag","p","n"] (aE tw):=⟨rfl,rfl,rfl,by decide+kernel,rfl,by decide+kernel,by decide+kernel⟩
theorem Sj(F:bA K "_law_letters" "_law_letters" tw f fd)(B:Callee P w K mg base "_law_draw" 2 ["bag","many"] kH)(bF:mg "range"=none)(gV:mg "int"=none)(EM:mg "min"=none):
  aW P w K mg base bu 3 f fd ["bag","p","n"] (fP 3 Gs):=by
 refine F.ok Il (λvs H Q E h=>h.1) (λcdv A outer s H vs Q E hr h=>?_);obtain⟨b,l,ws,nb,ds,Φ,rfl,O,g,W,u,I,M⟩:=mK h;obtain⟨p,n,rfl,⟨p2,a⟩,n0,n1,q⟩:=M;refine⟨_,(@ao _ _ _ _ _ (@aJ _ _ (3) _ _ _ _ Il.nd rfl (ei rfl) (@aD _ _ _ _ _ _ _ _ _ _ B (hr.mono ⋯) (@aa _ _ _ _ _ (pv 0) (@aa _ _ _ _ _ aj af rfl) rfl) (by rfl) ⋯ (by rfl) (by rfl)) (by rfl) (by first|exact .inl rfl|exact .inr rfl|assumption)) (@ao _ _ _ _ _ (@cy _ _ _ _ _ _ _ _ (@aS _ _ _ _ _ _ _ _ iA (pv 3) aj (aQ _)) (@aC _ _ _ (@aM _ _ _ _ (gC (dw.of (show dO (aE tw) ["bag","p","n","way"] _ ["k","bag","p"] [none,some 0,some 1]=true by decide+kernel)) (@iH _ _ _ _ _ _ rfl bF (@aa _ _ _ _ _ (pv 2) af rfl) (by rfl)) (λ_ _ _ _=>⟨(aO (i:=0) (by show bp (["k","bag","p"]:List Str);decide+kernel) rfl (ay rfl)),gM,(@aG _ _ _ _ _ _ _ _ iJ (@aD _ _ _ _ _ _ _ _ _ _ B (hr.mono ⋯) (@aa _ _ _ _ _ (pv 1) (@aa _ _ _ _ _ (pv 2) af rfl) rfl) (by rfl) ⋯ (by rfl) (by rfl)) (@iB _ _ _ _ _ _ _ _ _ HK rfl gV uH (@aa _ _ _ _ _ (@oM _ _ _ _ _ _ _ _ iA (@aD _ _ _ _ _ _ _ _ _ _ B (hr.mono ⋯) (@aa _ _ _ _ _ (pv 1) (@aa _ _ _ _ _ aj af rfl) rfl) (by rfl) ⋯ (by rfl) (by rfl)) aj (aQ _)) af rfl) ⋯ ⋯ (by rfl) (by rfl)))⟩)))) cJ) (@aC _ _ _ (@aM _ _ _ _ (gC (dw.of (show dO (aE tw) ["bag","p","n","way"] _ ["k","bag","p","way"] [none,some 0,some 1,some 3]=true by decide+kernel)) (@iH _ _ _ _ _ _ rfl bF (@aa _ _ _ _ _ (pv 2) af rfl) (by rfl)) (λ_ _ _ _=>⟨(aO (i:=0) (by show bp (["k","bag","p","way"]:List Str);decide+kernel) rfl (ay rfl)),gM,(@aD _ _ _ _ _ _ _ _ _ _ B (hr.mono ⋯) (@aa _ _ _ _ _ (pv 1) (@aa _ _ _ _ _ (@au _ _ _ _ _ _ (bG K) aX (@eV _ _ _ _ (@aa _ _ _ _ _ (pv 2) (@aa _ _ _ _ _ (@bX _ _ _ _ _ _ _ _ _ (Xs rfl) rfl EM wB (@aa _ _ _ _ _ (pv 2) (@aa _ _ _ _ _ aj af rfl) rfl) ⋯ ⋯ (by rfl) (by rfl)) af rfl) rfl)) (pv 3) (λ_ _=>rfl)) af rfl) rfl) (by rfl) ⋯ (by rfl) (by rfl))⟩)))))),?_⟩;refine Sv.mE O g W u I (ρ:=[.az, .d false _, .d false _, .no]) rfl ?_;clear I u;rfl';intro way w1 w2;by_cases c:way=2
 .rfl';refine aq.ev (aq.kI ⋯ rfl ?_);rfl';refine g6.ints (λx=>0<=x/\x<p) ?_ λos Z t=>q os ∅ t;rintro i d ⟨hi,rfl⟩;rfl';refine⟨by walk_at "wk",?_⟩;rfl';intro r C U;rfl';intro s s1 s2;by_cases c2:s=3
  .rfl';rw[decide_eq_true c2];exact⟨by simp;omega,by simp;omega⟩
  .rfl';rw[decide_eq_false c2];exact⟨by simp,by simp;omega⟩
 .obtain⟨m,v,m1,m2⟩:∃m:Int,bC [a4 p, .int (if 3<p then 3 else p)] way=some (.int m)/\1<=m/\m<=p:=by
   rcases(show way=0\/way=1 by omega) with rfl|rfl
   .exact⟨p,rfl,∅,∅⟩
   .exact⟨_,rfl,by split<;>omega,by split<;>omega⟩
  rfl';refine aq.ev (aq.kI ⋯ rfl ?_);rfl';refine g6.ints (λx=>0<=x/\x<p) ?_ λos Z t=>q os ∅ t;rintro i d ⟨hi,rfl⟩;rfl';refine⟨by walk_at "wk",?_⟩;rfl';exact λr C U=>⟨r,rfl,C,∅⟩
def mU(p:Int)(m:Nat)(prs:aA):Prop:=prs.length<=60/\∀pr∈prs,0<=pr.1/\pr.1<m/\1<=pr.2/\pr.2<p
noncomputable def wD:Option aA->PyData
 |none=> .none
 |some prs=>e7 prs
def B6:DF:=λds Φ=>∃(p wide:Int) (wd:List Int),ds=[.int p, .list (wd.map .int), .int wide]/\gG p/\p<10^40/\1<=wd.length/\wd.length<=400/\(∀x∈wd,0<=x/\x<p)/\1<=wide/\wide<=60/\∀(o:Option aA) (f:Bool),(∀prs,o=some prs->mU p wd.length prs)->Φ f (wD o)
theorem Zz:cM B6:=by
 intro ds Φ Ψ hm z;revert hm;walk_at "mo";exact λq=>λo f h=>z _ _ (q o f h)
theorem qE:bH ["bag","p","word","wide","n","places","pairs","rest","last"] ["bag","p","word","wide"] (aE uZ):=⟨rfl,rfl,rfl,by decide+kernel,rfl,by decide+kernel,by decide+kernel⟩
theorem FO(F:bA K "_law_planted_check" "_law_planted_check" uZ f fd)(Dy:Callee P w K mg base "_law_sum" 1 ["p","pairs","word"] (aU 3 Aa))(B:Callee P w K mg base "_law_draw" 2 ["bag","many"] kH)(tK:Callee P w K mg base "_law_over" 1 ["p","a","b"] (aU 3 uO))(bh:mg "len"=none)(mw:mg "sorted"=none)(EN:mg "set"=none)(bF:mg "range"=none):
  aW P w K mg base bu 3 f fd ["bag","p","word","wide"] (fP 4 B6):=by
 refine F.ok qE (λvs H Q E h=>h.1) (λcdv A outer s H vs Q E hr h=>?_);obtain⟨b,l,ws,nb,ds,Φ,rfl,O,g,W,u,I,M⟩:=mK h;obtain⟨p,wide,wd,rfl,hp,gK,S,L,AL,d1,X,q⟩:=M;refine⟨_,(@ao _ _ _ _ _ (@aJ _ _ (4) _ _ _ _ qE.nd rfl (ei rfl) (@bX _ _ _ _ _ _ _ _ (eX K) gk rfl bh fE (@aa _ _ _ _ _ (pv 2) af rfl) ⋯ ⋯ (by rfl) (by rfl)) (by rfl) (by first|exact .inl rfl|exact .inr rfl|assumption)) (@ao _ _ _ _ _ (@aJ _ _ (5) _ _ _ _ qE.nd rfl (ay rfl) (@bX _ _ _ _ _ _ _ _ (Gz P w) (UW rfl) rfl mw CS (@aa _ _ _ _ _ (@iB _ _ _ _ _ _ _ _ (Ep P w K) (EC rfl) rfl EN wQ (@aa _ _ _ _ _ (gC (dw.of (show dO (aE uZ) ["bag","p","word","wide","n","places","pairs","rest","last"] _ ["k","bag","n"] [none,some 0,some 4]=true by decide+kernel)) (@iH _ _ _ _ _ _ rfl bF (@aa _ _ _ _ _ (@aG _ _ _ _ _ _ _ _ eU aj (@aD _ _ _ _ _ _ _ _ _ _ B (hr.mono ⋯) (@aa _ _ _ _ _ (pv 0) (@aa _ _ _ _ _ (pv 3) af rfl) rfl) (by rfl) ⋯ (by rfl) (by rfl))) af rfl) (by rfl)) (λ_ _ _ _=>⟨(aO (i:=0) (by show bp (["k","bag","n"]:List Str);decide+kernel) rfl (ay rfl)),gM,(@aD _ _ _ _ _ _ _ _ _ _ B (hr.mono ⋯) (@aa _ _ _ _ _ (pv 1) (@aa _ _ _ _ _ (pv 2) af rfl) rfl) (by rfl) ⋯ (by rfl) (by rfl))⟩)) af rfl) ⋯ ⋯ (by rfl) (by rfl)) af rfl) ⋯ ⋯ (by rfl) (by rfl)) (by rfl) (by first|exact .inl rfl|exact .inr rfl|assumption)) (@ao _ _ _ _ _ (n9 (i:=6) qE.nd rfl rfl (dw.of (show dO (aE uZ) ["bag","p","word","wide","n","places","pairs","rest","last"] _ ["place","bag","p"] [none,some 0,some 1]=true by decide+kernel)) (gx (K:=K) rfl (pv 5)) (λ_ _ _ _=>⟨(aO (i:=0) (by show bp (["place","bag","p"]:List Str);decide+kernel) rfl (ay rfl)),gM,(@bQ _ _ _ _ _ (@aa _ _ _ _ _ (pv 0) (@aa _ _ _ _ _ (@aG _ _ _ _ _ _ _ _ eU aj (@aD _ _ _ _ _ _ _ _ _ _ B (hr.mono ⋯) (@aa _ _ _ _ _ (pv 1) (@aa _ _ _ _ _ (@aG _ _ _ _ _ _ _ _ jm (pv 2) aj) af rfl) rfl) (by rfl) ⋯ (by rfl) (by rfl))) af rfl) rfl))⟩)) (@ao _ _ _ _ _ (@aJ _ _ (7) _ _ _ _ qE.nd rfl (ay rfl) (@aD _ _ _ _ _ _ _ _ _ _ Dy (hr.mono ⋯) (@aa _ _ _ _ _ (pv 1) (@aa _ _ _ _ _ (@lZ _ _ _ _ _ _ _ _ _ (kN K) nZ (pv 6) mT (@mH _ _ _ (@mX _ _ _ _ _ _ nY aj))) (@aa _ _ _ _ _ (pv 2) af rfl) rfl) rfl) (by rfl) ⋯ (by rfl) (by rfl)) (by rfl) (by first|exact .inl rfl|exact .inr rfl|assumption)) (@ao _ _ _ _ _ (@aJ _ _ (8) _ _ _ _ qE.nd rfl (ay rfl) (@au _ _ _ _ _ _ (bG K) aX (pv 5) (@mX _ _ _ _ _ _ nY aj) (λ_ _=>rfl)) (by rfl) (by first|exact .inl rfl|exact .inr rfl|assumption)) (@ao _ _ _ _ _ (@cy _ _ _ _ _ _ _ _ (PW.pt (oq (@aS _ _ _ _ _ _ _ _ iw (pv 7) aj (aQ _)) (nG (@aS _ _ _ _ _ _ _ _ iw (@au _ _ _ _ _ _ (bG K) aX (pv 2) (pv 8) (λ_ _=>rfl)) aj (aQ _))))) (@aC _ _ _ (@aM _ _ _ _ (@aG _ _ _ _ _ _ _ _ p8 (@lZ _ _ _ _ _ _ _ _ _ (kN K) nZ (pv 6) mT (@mH _ _ _ (@mX _ _ _ _ _ _ nY aj))) (@eV _ _ _ _ (@aa _ _ _ _ _ (@bQ _ _ _ _ _ (@aa _ _ _ _ _ (pv 8) (@aa _ _ _ _ _ (@aD _ _ _ _ _ _ _ _ _ _ tK (hr.mono ⋯) (@aa _ _ _ _ _ (pv 1) (@aa _ _ _ _ _ (@aG _ _ _ _ _ _ _ _ jm aj (pv 7)) (@aa _ _ _ _ _ (@au _ _ _ _ _ _ (bG K) aX (pv 2) (pv 8) (λ_ _=>rfl)) af rfl) rfl) rfl) (by rfl) ⋯ (by rfl) (by rfl)) af rfl) rfl)) af rfl))))) cJ) (@ao _ _ _ _ _ (@cy _ _ _ _ _ _ _ _ (PW.pt (oq (@aS _ _ _ _ _ _ _ _ iA (pv 7) aj (aQ _)) (nG (@aS _ _ _ _ _ _ _ _ iA (@au _ _ _ _ _ _ (bG K) aX (pv 2) (pv 8) (λ_ _=>rfl)) aj (aQ _))))) (@aC _ _ _ (@aM _ _ _ _ (pv 6))) cJ) (@aC _ _ _ (@aM _ _ _ _ (@o9 _ _ _ _ _ _ _ _ (PW.pt (oq (@aS _ _ _ _ _ _ _ _ iA (pv 7) aj (aQ _)) (nG (@aS _ _ _ _ _ _ _ _ DP (@bX _ _ _ _ _ _ _ _ (eX K) gk rfl bh fE (@aa _ _ _ _ _ (pv 6) af rfl) ⋯ ⋯ (by rfl) (by rfl)) aj (aQ _))))) (@lZ _ _ _ _ _ _ _ _ _ (kN K) nZ (pv 6) mT (@mH _ _ _ (@mX _ _ _ _ _ _ nY aj))) fk)))))))))),?_⟩;refine Sv.mE O g W u I (ρ:=[.az, .d false _, .d false _, .d false _, .no, .no, .no, .no, .no]) rfl ?_;clear I u;have p2:=hp.1;have n5:(wd.map a4).length=wd.length:=ak ..;have V:∀x:Int,0<=x->x<=p->Sm x:=λx T x1=>by unfold Sm;omega
 rfl';refine aq.ev (aq.Tr (aq.ev (aq.kI ⋯ rfl ?_)));rfl';intro k0 k1 k2;rfl';refine g6.ints (λx=>0<=x/\x<(wd.map a4).length) ?_ λos Z t=>⟨os,rfl,∅,λN o c=>?_⟩
 .rintro i d ⟨hi,rfl⟩;rfl';refine⟨by walk_at "wk",?_⟩;rfl';exact λr C U=>⟨r,rfl,C,U⟩
 have n:0<N.length:=by
  have:0<os.length:=∅
  obtain⟨y,hy⟩:=List.exists_mem_of_length_pos this;exact List.length_pos_of_mem ((c y).mpr hy)
 have adH:N.length<=os.length:=Ga (o.imp λh=>∅) λk hk=>(c k).mp hk;rfl';refine aq.ev (aq.ju ⋯ rfl ?_);rfl';refine⟨by rw[ak];omega,λv=>g6.rel Bh true (λi pr=>N[i]?=some pr.1/\1<=pr.2/\pr.2<p) ?_ λprs Y D=>?_⟩
 .rintro i d hd;obtain⟨x,hx,rfl⟩:=fB hd;rfl';refine⟨by walk_at "wk",?_⟩;rfl';intro r C U;rfl';exact⟨λ_=>rfl,(x,1+r),rfl,hx,by show 1<=1+r;omega,by show 1+r<p;omega⟩
 rw[ak] at Y
 have G:mU p wd.length prs:=⟨∅,λpr dP=>by
  obtain⟨k,hk⟩:=oF dP;have h2:=D k pr hk;have h1:=t pr.1 ((c _).mp (fQ h2.1));omega⟩
 have hlp:(prs.map Bh).length=prs.length:=ak ..;have J:g7 (prs.map Bh) none (some (-1))=prs.dropLast.map Bh:=by
  unfold g7 HT.eE;simp only[tG,Nat.sub_zero];rw[List.dropLast_eq_take,List.map_take,hlp]
  congr 1
  first|omega|(split<;>omega)
 have m:prs.dropLast.length=prs.length-1:=List.length_dropLast ..;have EW:mU p wd.length prs.dropLast:=⟨∅,λpr dP=>G.2 pr (List.dropLast_subset _ dP)⟩;have HY:N.length-1<N.length:=∅
 have LB:bC (N.map a4) (-1)=some (.int N[N.length-1]):=by
  unfold bC ir;rw[if_neg ⋯,if_pos (by rw[ak];omega)];show(N.map a4)[_]?=_;rw[cY,ak,show(-1+(N.length:Int)).toNat=N.length-1 by omega,bw HY];rfl
 obtain⟨last,G9⟩:∃x,N[N.length-1]=x:=⟨_,rfl⟩;rw[G9] at LB;have iu:0<=last/\last<wd.length:=by
  have:=t last ((c _).mp (G9▸fZ HY));omega
 have hlt:last.toNat<wd.length:=∅
 have ach:bC (wd.map a4) last=some (.int wd[last.toNat]):=iE iu.1 (by rw[cY,bw hlt];rfl);have hwl:=AL _ (fZ hlt);generalize wd[last.toNat]=wl at*;have j:wd.map a4=(wd.map some).map bS:=by rw[oY];rfl
 have VP:qF prs.dropLast (wd.map some).length:=λpr dP=>by
  have:=EW.2 pr dP;rw[ak];exact⟨this.1,this.2.1,V _ ∅ ∅⟩
 have hWo:dU (wd.map some):=λx hx=>by
  obtain⟨y,hy,e⟩:=dG.mp hx;cases e;have:=AL x hy;exact V x ∅ ∅
 rfl';refine Ev.cZ Me ?_;rfl';refine⟨rfl,p,prs.dropLast,wd.map some,by show[_,fI _,fI _]=_;rw[J,j],∅,∅,VP,hWo,?_⟩;have R0:=i8 (dB prs.dropLast (wd.map some)) (show p≠0 by omega);have R1:=i6 (dB prs.dropLast (wd.map some)) (show 0<p by omega);generalize dB prs.dropLast (wd.map some)%p=R at*;rfl';by_cases cR:R=0
 .rfl';by_cases cw:wl=0
  .rfl';exact q (some prs) _ (λ_ e=>by cases e;exact G)
  .rfl';by_cases cl:1<((prs.map Bh).length:Int)
   .rfl';rw[J];exact q (some prs.dropLast) _ (λ_ e=>by cases e;exact EW)
   .rfl';exact q none _ (λ_ e=>by cases e)
 .rfl';by_cases cw:wl=0
  .rfl';exact q none _ (λ_ e=>by cases e)
  .have hwp:wl%p≠0:=by rw[qP ∅ ∅];exact cw
   rfl';refine Ev.cZ Di ?_;rfl';refine⟨rfl,p,0-R,wl,rfl,hp,gK,hwp,∅,∅,λ⟨k,hk⟩=>?_⟩;have hs:=FG (p:=p) (b:=wl) (a:=0-R) ∅;generalize sol p wl (0-R)=sl at*;have hs1:sl≠0:=λz=>by
    subst z;rw[Fx] at hk;have hkR:R=p*k:=∅
    rcases oo k 0 with z|z|z
    .have:p*k<=p*(-1):=u0 ∅ ∅;omega
    .subst z;omega
    .have:p*1<=p*k:=u0 ∅ ∅;omega
   rfl';refine⟨by rw[J,ak];show _+1<=10000;omega,?_⟩;show Φ _ (.list (g7 (prs.map Bh) none (some (-1))++[Bh (last,sl)]));rw[J,show(prs.dropLast.map Bh++[Bh (last,sl)])=(prs.dropLast++[(last,sl)]).map Bh by rw[cI];rfl];refine q (some (prs.dropLast++[(last,sl)])) _ (λ_ e=>?_);cases e;refine⟨by rw[cK,jn];omega,λpr dP=>?_⟩;rcases iG.mp dP with h|h
   .exact EW.2 pr h
   .rw[br.mp h];exact⟨iu.1,iu.2,by show 1<=sl;omega,hs.2⟩
def GI:DF:=λds Φ=>∃(p many wide:Int) (wd:List Int),ds=[.int p, .list (wd.map .int), .int many, .int wide]/\gG p/\p<10^40/\1<=wd.length/\wd.length<=400/\(∀x∈wd,0<=x/\x<p)/\0<=many/\many<=400/\1<=wide/\wide<=60/\∀(cs:List aA) (f:Bool),cs.length<=400->(∀prs∈cs,mU p wd.length prs)->Φ f (bE p wd.length cs)
theorem Ia:cM GI:=by
 intro ds Φ Ψ hm z;revert hm;walk_at "mo";exact λq=>λcs f a b=>z _ _ (q cs f a b)
theorem VN(o:Option aA):uf (wD o)=o.isNone:=by cases o<;>rfl
theorem Ng:bH ["bag","p","word","many","wide","checks"] ["bag","p","word","many","wide"] (aE tY):=⟨rfl,rfl,rfl,by decide+kernel,rfl,by decide+kernel,by decide+kernel⟩
theorem UD(F:bA K "_law_planted" "_law_planted" tY f fd)(a:Callee P w K mg base "_law_planted_check" 3 ["bag","p","word","wide"] (fP 4 B6))(bh:mg "len"=none)(bF:mg "range"=none):
    aW P w K mg base bu 4 f fd ["bag","p","word","many","wide"] (fP 5 GI):=by
  refine F.ok Ng (λvs H Q E h=>h.1) (λcdv A outer s H vs Q E hr h=>?_);obtain⟨b,l,ws,nb,ds,Φ,rfl,O,g,W,u,I,M⟩:=mK h;obtain⟨p,many,wide,wd,rfl,hp,gK,S,L,AL,m1,m2,d1,X,q⟩:=M;refine⟨_,(@ao _ _ _ _ _ (n9 (i:=5) Ng.nd rfl rfl (dw.of (show dO (aE tY) ["bag","p","word","many","wide","checks"] _ ["c","bag","p","word","wide"] [none,some 0,some 1,some 2,some 4]=true by decide+kernel)) (@iH _ _ _ _ _ _ rfl bF (@aa _ _ _ _ _ (pv 3) af rfl) (by rfl)) (λ_ _ _ _=>⟨(aO (i:=0) (by show bp (["c","bag","p","word","wide"]:List Str);decide+kernel) rfl (ay rfl)),gM,(@aD _ _ _ _ _ _ _ _ _ _ a (hr.mono ⋯) (@aa _ _ _ _ _ (pv 1) (@aa _ _ _ _ _ (pv 2) (@aa _ _ _ _ _ (pv 3) (@aa _ _ _ _ _ (pv 4) af rfl) rfl) rfl) rfl) (by rfl) ⋯ (by rfl) (by rfl))⟩)) (@aC _ _ _ (@aM _ _ _ _ (@bQ _ _ _ _ _ (@aa _ _ _ _ _ (pv 1) (@aa _ _ _ _ _ (@bX _ _ _ _ _ _ _ _ (eX K) gk rfl bh fE (@aa _ _ _ _ _ (pv 2) af rfl) ⋯ ⋯ (by rfl) (by rfl)) (@aa _ _ _ _ _ (gC (dw.of (show dO (aE tY) ["bag","p","word","many","wide","checks"] _ ["pairs"] [none]=true by decide+kernel)) (gx (K:=K) rfl (pv 5)) (λ_ _ _ _=>⟨(aO (i:=0) (by show bp (["pairs"]:List Str);decide+kernel) rfl (ay rfl)),(mz (@aS _ _ _ _ _ _ _ _ l7 (pv 0) fk (aQ _))),(pv 0)⟩)) af rfl) rfl) rfl))))),?_⟩;refine Sv.mE O g W u I (ρ:=[.az, .d false _, .d false _, .d false _, .d false _, .no]) rfl ?_;clear I u;have n5:(wd.map a4).length=wd.length:=ak ..;rfl';refine aq.ev (aq.kI ⋯ rfl ?_);rfl';refine g6.rel wD false (λ_ o=>∀prs,o=some prs->mU p wd.length prs) ?_ λos Z t=>?_
  · rintro i d ⟨hi,rfl⟩
    rfl';refine⟨by walk_at "wk",?_⟩;refine Ev.iO Zz rfl ?_;rfl';exact⟨rfl,p,wide,wd,rfl,hp,gK,S,L,AL,d1,X,λo f h=>⟨(λz=>by cases z),o,rfl,h⟩⟩
  rfl';refine aq.ev (aq.ju ⋯ rfl ?_);rfl';refine⟨by rw[ak];omega,λv=>⟨false,λi ds=>∃es:List aA,ds=es.map e7/\es.length<=i/\∀prs∈es,mU p wd.length prs,⟨[],rfl,aH _,(λ_ h=>nomatch h)⟩,?_,?_⟩⟩
  · rintro j d ds hd hl' ⟨es,rfl,hel,hes⟩
    obtain⟨o,D,rfl⟩:=fB hd;rfl';refine⟨by walk_at "wk",?_⟩;rfl';rw[VN];cases o with
    | none =>
      rfl';exact⟨es,rfl,∅,hes⟩
    | some prs =>
      rw[show wD (some prs)=e7 prs from rfl];rfl';refine⟨es++[prs],by rw[cI];rfl,by simp;omega,λq hq=>?_⟩;rcases iG.mp hq with h|h
      · exact hes q h
      · rw[br.mp h];exact t j _ D prs rfl
  rintro ds hl' ⟨es,rfl,hel,hes⟩;rfl';rw[ak] at hel;show Φ _ (.tuple [.int p, .int ((wd.map a4).length:Int), .list (es.map e7)]);rw[n5];exact q es _ ∅ hes
def C9:DF:=λds Φ=>∃wd:List Int,ds=[.list (wd.map .int)]/\wd.length<=10000/\∀ld:Wo,vh wd ld->Φ true (bI ld)
theorem KH:cM C9:=by
 intro ds Φ Ψ hm z;revert hm;walk_at "mo";exact λq=>λld hl=>z _ _ (q ld hl)
theorem P5:bH ["bag","word","often"] ["bag","word"] (aE yE):=⟨rfl,rfl,rfl,by decide+kernel,rfl,by decide+kernel,by decide+kernel⟩
theorem UX(F:bA K "_law_lossy" "_law_lossy" yE f fd)(B:Callee P w K mg base "_law_draw" 2 ["bag","many"] kH):
  aW P w K mg base bu 3 f fd ["bag","word"] (fP 2 C9):=by
 refine F.ok P5 (λvs H Q E h=>h.1) (λcdv A outer s H vs Q E hr h=>?_);obtain⟨b,l,ws,nb,ds,Φ,rfl,O,g,W,u,I,M⟩:=mK h;obtain⟨wd,rfl,hl,q⟩:=M;refine⟨_,(@ao _ _ _ _ _ (@aJ _ _ (2) _ _ _ _ P5.nd rfl (ei rfl) (@au _ _ _ _ _ _ (bG K) aX (@eV _ _ _ _ (@Ba _ _ _ rfl)) (@aD _ _ _ _ _ _ _ _ _ _ B (hr.mono ⋯) (@aa _ _ _ _ _ (pv 0) (@aa _ _ _ _ _ aj af rfl) rfl) (by rfl) ⋯ (by rfl) (by rfl)) (λ_ _=>rfl)) (by rfl) (by first|exact .inl rfl|exact .inr rfl|assumption)) (@aC _ _ _ (@aM _ _ _ _ (gC (dw.of (show dO (aE yE) ["bag","word","often"] _ ["letter","bag","often"] [none,some 0,some 2]=true by decide+kernel)) (gx (K:=K) rfl (pv 1)) (λ_ _ _ _=>⟨(aO (i:=0) (by show bp (["letter","bag","often"]:List Str);decide+kernel) rfl (ay rfl)),gM,(@o9 _ _ _ _ _ _ _ _ (@aS _ _ _ _ _ _ _ _ iA (@aD _ _ _ _ _ _ _ _ _ _ B (hr.mono ⋯) (@aa _ _ _ _ _ (pv 1) (@aa _ _ _ _ _ (pv 2) af rfl) rfl) (by rfl) ⋯ (by rfl) (by rfl)) aj (aQ _)) fk (pv 0))⟩))))),?_⟩;refine Sv.mE O g W u I (ρ:=[.az, .d false _, .no]) rfl ?_;clear I u;rfl';intro way w1 w2;have y:way.toNat<([8,3,2,1]:List Int).length:=by show way.toNat<4;omega
 have hm:∀x∈([8,3,2,1]:List Int),1<=x/\x<=8:=⋯
 obtain⟨m1,m2⟩:=hm _ (fZ y);refine⟨way,rfl, .int ([8,3,2,1]:List Int)[way.toNat],?_,?_⟩
 .show bC (cj a4 [8,3,2,1]) way=_;exact iE w1 (by rw[cY,bw y];rfl)
 generalize ([8,3,2,1]:List Int)[way.toNat]=often at m1 m2⊢;rfl';refine aq.ev (aq.ju ⋯ rfl ?_);rfl';refine⟨by rw[ak];exact hl,λv=>⟨true,λi ds=>ds.length=i/\∀(j:Nat) d,ds[j]?=some d->d= .none\/∃x,wd[j]?=some x/\d= .int x,⟨rfl,λj d e=>by simp at e⟩,?_,?_⟩⟩
 .rintro i d ds hd hl' ⟨hl2,hI⟩;obtain⟨x,hx,rfl⟩:=fB hd;rfl';refine⟨by walk_at "wk",?_⟩;rfl';intro r r1 r2;have key:∀e:PyData,(e= .none\/e= .int x)->(ds++[e]).length=i+1/\∀(j:Nat) d,(ds++[e])[j]?=some d->d= .none\/∃x,wd[j]?=some x/\d= .int x:=λe he=>by
   refine⟨by rw[cK,jn,hl2],λj d hj=>?_⟩;rcases xD j ds.length with h|h|h
   .exact hI j d (by rwa[gQ h] at hj)
   .subst h;simp at hj;subst hj;rw[hl2];rcases he with he|he
    .exact .inl he
    .exact .inr ⟨x,hx,he⟩
   .rw[tu (by rw[cK,jn];omega)] at hj;cases hj
  by_cases c:r=0
  .rfl';exact key _ (.inl rfl)
  .rfl';exact key _ (.inr rfl)
 .rintro ds hl' ⟨hl2,hI⟩;rw[ak] at hl2;obtain⟨ld,rfl,eu⟩:=Oa (wd:=wd) ds hl2 hI;exact q ld eu
def zf:DF:=λds Φ=>∃(p n:Int) (cs:List aA),ds=[bE p n cs]/\cs.length<=10000/\∀f,Φ f (bE p n cs)
theorem Jv:cM zf:=by
 intro ds Φ Ψ hm z;revert hm;walk_at "mo";exact λq=>λf=>z _ _ (q f)
theorem X8:bH ["net"] ["net"] (aE za):=⟨rfl,rfl,rfl,by decide+kernel,rfl,by decide+kernel,by decide+kernel⟩
theorem Rr(F:bA K "_law_copy" "_law_copy" za f fd)(bY:mg "list"=none):
  aW P w K mg base bu 1 f fd ["net"] (aU 1 zf):=by
 refine F.ok X8 (λvs H Q E h=>h.1) (λcdv A outer s H vs Q E hr h=>?_);obtain⟨nb,ds,Φ,g,u,I,M⟩:=fL h;obtain⟨p,n,cs,rfl,hl,q⟩:=M;refine⟨_,(@aC _ _ _ (@aM _ _ _ _ (@bQ _ _ _ _ _ (@aa _ _ _ _ _ (@au _ _ _ _ _ _ (aT K) aV (pv 0) aj (λ_ _=>rfl)) (@aa _ _ _ _ _ (@au _ _ _ _ _ _ (aT K) aV (pv 0) aj (λ_ _=>rfl)) (@aa _ _ _ _ _ (gC (dw.of (show dO (aE za) ["net"] _ ["pairs"] [none]=true by decide+kernel)) (gx (K:=K) rfl (@au _ _ _ _ _ _ (aT K) aV (pv 0) aj (λ_ _=>rfl))) (λ_ _ _ _=>⟨(aO (i:=0) (by show bp (["pairs"]:List Str);decide+kernel) rfl (ay rfl)),gM,(@iB _ _ _ _ _ _ _ _ (iS K) jW rfl bY iR (@aa _ _ _ _ _ (pv 0) af rfl) ⋯ ⋯ (by rfl) (by rfl))⟩)) af rfl) rfl) rfl)))),?_⟩;refine Sv.fF g u I (ρ:=[.d false _]) rfl ?_;clear I u;rfl';refine aq.ev (aq.ju ⋯ rfl ?_);rfl';refine⟨by rw[ak];exact hl,λv=>⟨false,λi ds=>ds=(cs.take i).map e7,rfl,?_,?_⟩⟩
 .rintro i d ds hd hl' rfl;obtain⟨prs,D,rfl⟩:=fB hd;rfl';refine⟨by walk_at "wk",?_⟩;rfl';refine⟨λz=>(by cases z),?_⟩;show _=cj _ _;rw[Bf D,cI]
  rfl
 .rintro ds hl' rfl;rw[ak,fW];rfl';exact q _
def yW:DF:=λds Φ=>∃(p n c:Int) (cs:List aA) (wd:Wo),ds=[bE p n cs,bI wd, .int c]/\dZ p cs wd.length/\dU wd/\0<=c/\c<cs.length/\Φ true (jJ (cG p (cs.getD c.toNat []) 0 wd))
theorem EG:cM yW:=by
 intro ds Φ Ψ hm z;revert hm;walk_at "mo";exact λq=>z _ _ q
theorem J5:bH ["net","word","c","lost"] ["net","word","c"] (aE zQ):=⟨rfl,rfl,rfl,by decide+kernel,rfl,by decide+kernel,by decide+kernel⟩
theorem Y8(F:bA K "_law_told" "_law_told" zQ f fd)(tK:Callee P w K mg base "_law_over" 1 ["p","a","b"] (aU 3 uO))(Dy:Callee P w K mg base "_law_sum" 1 ["p","pairs","word"] (aU 3 Aa))(bh:mg "len"=none):
    aW P w K mg base bu 2 f fd ["net","word","c"] (aU 3 yW):=by
  refine F.ok J5 (λvs H Q E h=>h.1) (λcdv A outer s H vs Q E hr h=>?_);obtain⟨nb,ds,Φ,g,u,I,M⟩:=fL h;obtain⟨p,n,c,cs,wd,rfl,hN,hW,c0,c1,q⟩:=M;refine⟨_,(@ao _ _ _ _ _ (n9 (i:=3) J5.nd rfl rfl (dw.of (show dO (aE zQ) ["net","word","c","lost"] _ ["place","factor","word"] [none,none,some 1]=true by decide+kernel)) (gx (K:=K) rfl (@au _ _ _ _ _ _ (bG K) aX (@au _ _ _ _ _ _ (aT K) aV (pv 0) aj (λ_ _=>rfl)) (pv 2) (λ_ _=>rfl))) (λ_ _ _ _=>⟨(@i9 _ (K) _ _ _ (2) _ rfl rfl (@cF _ _ _ _ _ (aO (i:=0) (by show bp (["place","factor","word"]:List Str);decide+kernel) rfl (ay rfl)) (@cF _ _ _ _ _ (aO (i:=1) (by show bp (["place","factor","word"]:List Str);decide+kernel) rfl (ay rfl)) iN (by rfl)) (by rfl)) (by rfl) (by rfl)),(mz (@aS _ _ _ _ _ _ _ _ oS (@au _ _ _ _ _ _ (bG K) aX (pv 2) (pv 0) (λ_ _=>rfl)) fk (aQ _))),(@bQ _ _ _ _ _ (@aa _ _ _ _ _ (pv 0) (@aa _ _ _ _ _ (pv 1) af rfl) rfl))⟩)) (@ao _ _ _ _ _ (@cy _ _ _ _ _ _ _ _ (@aS _ _ _ _ _ _ _ _ iw (@bX _ _ _ _ _ _ _ _ (eX K) gk rfl bh fE (@aa _ _ _ _ _ (pv 3) af rfl) ⋯ ⋯ (by rfl) (by rfl)) aj (aQ _)) (@aC _ _ _ (@aM _ _ _ _ fk)) cJ) (@aC _ _ _ (@aM _ _ _ _ (@bQ _ _ _ _ _ (@aa _ _ _ _ _ (@au _ _ _ _ _ _ (aT K) aV (@au _ _ _ _ _ _ (bG K) aX (pv 3) aj (λ_ _=>rfl)) aj (λ_ _=>rfl)) (@aa _ _ _ _ _ (@aD _ _ _ _ _ _ _ _ _ _ tK (hr.mono ⋯) (@aa _ _ _ _ _ (@au _ _ _ _ _ _ (aT K) aV (pv 0) aj (λ_ _=>rfl)) (@aa _ _ _ _ _ (@aG _ _ _ _ _ _ _ _ jm aj (@aD _ _ _ _ _ _ _ _ _ _ Dy (hr.mono ⋯) (@aa _ _ _ _ _ (@au _ _ _ _ _ _ (aT K) aV (pv 0) aj (λ_ _=>rfl)) (@aa _ _ _ _ _ (@au _ _ _ _ _ _ (bG K) aX (@au _ _ _ _ _ _ (aT K) aV (pv 0) aj (λ_ _=>rfl)) (pv 2) (λ_ _=>rfl)) (@aa _ _ _ _ _ (pv 1) af rfl) rfl) rfl) (by rfl) ⋯ (by rfl) (by rfl))) (@aa _ _ _ _ _ (@au _ _ _ _ _ _ (aT K) aV (@au _ _ _ _ _ _ (bG K) aX (pv 3) aj (λ_ _=>rfl)) aj (λ_ _=>rfl)) af rfl) rfl) rfl) (by rfl) ⋯ (by rfl) (by rfl)) af rfl) rfl)))))),?_⟩;refine Sv.fF g u I (ρ:=[.d false _, .d false _, .d false _, .no]) rfl ?_;clear I u;obtain⟨prs,e1,e2,hl,Z,b⟩:=hN.at c0 c1;rw[e2] at q;have hp:=hN.1;have gK:=hN.2.1;have p2:=hN.1.1;have S:bC (cs.map e7) c=some (e7 prs):=iE c0 (by rw[cY,e1];rfl);have iu:(prs.map Bh).length=prs.length:=ak ..;rfl';refine aq.ev (aq.ju ⋯ rfl ?_);rfl';refine λv=>⟨true,λi ds=>ds=(fJ wd (prs.take i)).map Bh,rfl,?_,?_⟩
  · rintro i d ds hd hl' rfl
    obtain⟨pr,dP,rfl⟩:=fB hd;obtain⟨g1,g2,N⟩:=Z pr (fQ dP);obtain⟨o,D,S⟩:=uI (xs:=wd) bS g1 g2 rfl;rfl';refine⟨by walk_at "wk",?_⟩;rfl';rw[rM];cases o with
    | none =>
      rfl';refine⟨λ_=>rfl,?_⟩;show _=cj Bh (fJ wd (prs.take (i+1)));rw[Bf dP,Ay,if_pos D,cI]
      rfl
    | some x =>
      rfl';show _=cj Bh (fJ wd (prs.take (i+1)));rw[Bf dP,Ay,if_neg (by rw[D];simp)]
  rintro ds hl' rfl;rw[iu,fW];rfl';have key:∀L,fJ wd prs=L->cG p prs 0 wd=(match L with|[pr]=>some (pr.1,sol p pr.2 (0-dB prs wd%p))|_=>none):=λL e=>by unfold cG;rw[e]<;>rfl
  cases y:fJ wd prs with
  | nil =>
    rfl';rw[key _ y] at q;exact q
  | cons pr r =>
    cases r with
    | cons a U =>
      have:¬((cj Bh (pr::a::U)).length:Int)=1:=by simp;omega
      rfl';rw[key _ y] at q;exact q
    | nil =>
      have hm:=(DS (wd:=wd) (prs:=prs) (pr:=pr) (by rw[y];simp)).1;have d0:=i8 (dB prs wd) (show p≠0 by omega);have d1:=i6 (dB prs wd) (show 0<p by omega);rfl';refine Ev.cZ Di ?_;rfl';refine Ev.cZ Me ?_;rfl';refine⟨rfl,p,prs,wd,rfl,∅,∅,Z,hW,?_⟩;rfl';refine⟨rfl,p,0-dB prs wd%p,pr.2,rfl,hp,gK,b pr hm,∅,∅,λ_=>?_⟩;rfl';rw[key _ y] at q;exact q
theorem J1{G:Gx}{ρ:Rh}{t:TS}{E:DE}(h:∀c:DE,(∀C,E.nx C->c.nx C)->(∀f d,E.rt f d->c.rt f d)->Sv G ρ t c):Sv G ρ t E:=h E (λ_ z=>z) λ_ _ z=>z
def Cw:DF:=λds Φ=>∃(p:Int) (cs:List aA) (wd:Wo),ds=[bE p wd.length cs,bI wd]/\dZ p cs wd.length/\dU wd/\wd.length<=1000/\∀f,Φ f (.tuple [bI (fG p cs wd), .list ((cX p cs wd).map dS)])
theorem MM:cM Cw:=by
 intro ds Φ Ψ hm z;revert hm;walk_at "mo";exact λq=>λf=>z _ _ (q f)
theorem lP:bH ["net","word","now","rounds","turn","found","c","told","place","letter"] ["net","word"] (aE xF):=⟨rfl,rfl,rfl,by decide+kernel,rfl,by decide+kernel,by decide+kernel⟩
theorem Z4(F:bA K "_law_rounds" "_law_rounds" xF f fd)(V:Callee P w K mg base "_law_told" 2 ["net","word","c"] (aU 3 yW))(bY:mg "list"=none)(bF:mg "range"=none)(bh:mg "len"=none)(mw:mg "sorted"=none):
    aW P w K mg base bu 3 f fd ["net","word"] (aU 2 Cw):=by
  refine F.ok lP (λvs H Q E h=>h.1) (λcdv A outer s H vs Q E hr h=>?_);obtain⟨nb,ds,Φ,g,u,I,M⟩:=fL h;obtain⟨p,cs,wd,rfl,hN,hW,hl,q⟩:=M;refine⟨_,(@ao _ _ _ _ _ (@aJ _ _ (2) _ _ _ _ lP.nd rfl (ay rfl) (@iB _ _ _ _ _ _ _ _ (iS K) jW rfl bY iR (@aa _ _ _ _ _ (pv 1) af rfl) ⋯ ⋯ (by rfl) (by rfl)) (by rfl) (by first|exact .inl rfl|exact .inr rfl|assumption)) (@ao _ _ _ _ _ (@aJ _ _ (3) _ _ _ _ lP.nd rfl (ay rfl) (@eV _ _ _ _ af) (by rfl) (by first|exact .inl rfl|exact .inr rfl|assumption)) (@ao _ _ _ _ _ (@iT _ _ _ _ _ _ _ _ gW rfl (@iH _ _ _ _ _ _ rfl bF (@aa _ _ _ _ _ (@aG _ _ _ _ _ _ _ _ eU (@au _ _ _ _ _ _ (aT K) aV (pv 0) aj (λ_ _=>rfl)) aj) af rfl) (by rfl)) (aO (i:=4) lP.nd rfl (ay rfl)) (@ao _ _ _ _ _ (@aJ _ _ (5) _ _ _ _ lP.nd rfl (ei rfl) CK (by rfl) (by first|exact .inl rfl|exact .inr rfl|assumption)) (@ao _ _ _ _ _ (@iT _ _ _ _ _ _ _ _ gW rfl (@iH _ _ _ _ _ _ rfl bF (@aa _ _ _ _ _ (@bX _ _ _ _ _ _ _ _ (eX K) gk rfl bh fE (@aa _ _ _ _ _ (@au _ _ _ _ _ _ (aT K) aV (pv 0) aj (λ_ _=>rfl)) af rfl) ⋯ ⋯ (by rfl) (by rfl)) af rfl) (by rfl)) (aO (i:=6) lP.nd rfl (ay rfl)) (@ao _ _ _ _ _ (@aJ _ _ (7) _ _ _ _ lP.nd rfl (ay rfl) (@aD _ _ _ _ _ _ _ _ _ _ V (hr.mono ⋯) (@aa _ _ _ _ _ (pv 0) (@aa _ _ _ _ _ (pv 2) (@aa _ _ _ _ _ (pv 6) af rfl) rfl) rfl) (by rfl) ⋯ (by rfl) (by rfl)) (by rfl) (by first|exact .inl rfl|exact .inr rfl|assumption)) (@aC _ _ _ (@cy _ _ _ _ _ _ _ _ (PW.pt (oq (@aS _ _ _ _ _ _ _ _ l7 (pv 7) fk (aQ _)) (nG (@aS _ _ _ _ _ _ _ _ (MR hr.units) (@au _ _ _ _ _ _ (aT K) aV (pv 7) aj (λ_ _=>rfl)) (pv 5) (by with_unfolding_all rfl))))) (@aC _ _ _ (@gD _ _ _ _ _ _ (@bQ _ _ _ _ _ (@aa _ _ _ _ _ (@au _ _ _ _ _ _ (aT K) aV (pv 7) aj (λ_ _=>rfl)) (@aa _ _ _ _ _ (pv 6) (@aa _ _ _ _ _ (@au _ _ _ _ _ _ (aT K) aV (pv 7) aj (λ_ _=>rfl)) af rfl) rfl) rfl)) (jx (pv 5) (@au _ _ _ _ _ _ (aT K) aV (pv 7) aj (λ_ _=>rfl)) set_dict) (by rfl) (by rfl) (by rfl))) cJ))) (by intro _;rfl)) (@ao _ _ _ _ _ (@cy _ _ _ _ _ _ _ _ (@aS _ _ _ _ _ _ _ _ (YB hr.units) (pv 5) CK (aQ _)) (@aC _ _ _ (@aM _ _ _ _ (@bQ _ _ _ _ _ (@aa _ _ _ _ _ (pv 2) (@aa _ _ _ _ _ (pv 3) af rfl) rfl)))) cJ) (@ao _ _ _ _ _ (@rC _ _ _ _ (j8 qy ux ug rj (pv 3) (@aa _ _ _ _ _ (gC (dw.of (show dO (aE xF) ["net","word","now","rounds","turn","found","c","told","place","letter"] _ ["place","found"] [none,some 5]=true by decide+kernel)) (gx (K:=K) rfl (@bX _ _ _ _ _ _ _ _ (AA) (NV rfl) rfl mw CS (@aa _ _ _ _ _ (pv 5) af rfl) ⋯ ⋯ (by rfl) (by rfl))) (λ_ _ _ _=>⟨(aO (i:=0) (by show bp (["place","found"]:List Str);decide+kernel) rfl (ay rfl)),gM,(@au _ _ _ _ _ _ (xY) Oz (pv 1) (pv 0) (λ_ _=>rfl))⟩)) af rfl)) (by rfl)) (@aC _ _ _ (@iT _ _ _ _ _ _ _ _ gW rfl (gx (K:=K) rfl (@au _ _ _ _ _ _ (bG K) aX (pv 3) (@mX _ _ _ _ _ _ nY aj) (λ_ _=>rfl))) (@i9 _ (K) _ _ _ (3) _ rfl rfl (@cF _ _ _ _ _ (aO (i:=8) lP.nd rfl (ay rfl)) (@cF _ _ _ _ _ (aO (i:=6) lP.nd rfl (ay rfl)) (@cF _ _ _ _ _ (aO (i:=9) lP.nd rfl (ay rfl)) iN (by rfl)) (by rfl)) (by rfl)) (by rfl) (by rfl)) (@aC _ _ _ (@gD _ _ _ _ _ _ (pv 9) (jx (pv 2) (pv 8) set_list) (by rfl) (by rfl) (by rfl))) (by intro _;rfl))))))) (by intro _;rfl)) (@aC _ _ _ (@aM _ _ _ _ (@bQ _ _ _ _ _ (@aa _ _ _ _ _ (pv 2) (@aa _ _ _ _ _ (pv 3) af rfl) rfl))))))),?_⟩;refine Sv.fF g u I (ρ:=[.d false _, .d false _, .no, .no, .no, .no, .no, .no, .no, .no]) rfl ?_;clear I u;have p2:=hN.1.1;have qQ:=hN.2.1;have hcl:=hN.2.2.1;have Rb:((cs.map e7).length:Int)=cs.length:=by rw[ak]
  have key:∀{w:Wo},w.length=wd.length->dZ p cs w.length:=λ{w} h=>by rw[h];exact hN
  refine Sv.seq (Sv.uJ (aq.listOf ?_));rfl';intro A2;refine Sv.seq (Sv.sF λl=>?_);refine Sv.seq (Sv.qJ ?_);rfl';refine⟨λi ρ=>∃(w:Wo) (st:List (List bf)) (G T:Bool) (x4 X y Z n Y:Sl),ρ=[.d false (bE p wd.length cs), .d false (bI wd), .own A2 G (w.map bS), .own l T (st.map dS),x4,X,y,Z,n,Y]/\w.length=wd.length/\dU w/\st++cX p cs w=cX p cs wd/\fG p cs w=fG p cs wd/\st.length=i,⟨wd,[],_,_,_,_,_,_,_,_,rfl,rfl,hW,rfl,rfl,rfl⟩,?_,?_⟩
  · rintro i d ρ ⟨hi,rfl⟩ ⟨w,st,G,T,x4,X,y,Z,n,Y,rfl,hwl,hwW,h1,h2,h3⟩
    have jM:=key hwl;have hpw:=Ml jM hwW;refine Gv.qm ?_;refine J1 λE1 n1 C=>?_;refine Sv.seq (Sv.JM (tT.new λB=>?_));refine Sv.seq (Sv.qJ ?_);rfl';refine⟨λj ρ=>∃(y Z n Y:Sl),ρ=[.d false (bE p wd.length cs), .d false (bI wd), .own A2 G (w.map bS), .own l T (st.map dS), .d true (.int (0+(i:Int))), .bR B true ((bK p cs w j).map kM),y,Z,n,Y],⟨_,_,_,_,rfl⟩,?_,?_⟩
    · rintro j d ρ ⟨hj,rfl⟩ ⟨y,Z,n,Y,rfl⟩
      have hjc:j<cs.length:=∅
      have hfl:=vQ (p:=p) (cs:=cs) (wd:=w) ∅ jM.rg (i:=j) ∅
      have ef:bK p cs w (j+1)=match cG p (cs.getD j []) 0 w with
        |some (a,x)=>if a∈(bK p cs w j).map (·.1) then bK p cs w j else bK p cs w j++[(a,(j:Int),x)]
        |none=>bK p cs w j:=by rw[bK]<;>rfl
      refine Gv.qm ?_;refine J1 λE2 n2 U=>?_;refine Sv.seq (Sv.asg (Ev.pV EG ?_));refine cQ.cons ?_;rfl';refine cQ.own rfl ?_;refine cQ.cons ?_;rfl';refine cQ.nil ?_;refine⟨rfl,p,wd.length,0+(j:Int),cs,w,rfl,jM,hwW,∅,∅, .inl rfl,?_⟩;rw[show(0+(j:Int)).toNat=j by omega];have done:bK p cs w (j+1)=bK p cs w j->∀(J D W y9:Sl),∃(y Z n Y:Sl),[Sl.d false (bE p wd.length cs), .d false (bI wd), .own A2 G (w.map bS), .own l T (st.map dS), .d true (.int (0+(i:Int))), .bR B true ((bK p cs w j).map kM),J,D,W,y9]=[.d false (bE p wd.length cs), .d false (bI wd), .own A2 G (w.map bS), .own l T (st.map dS), .d true (.int (0+(i:Int))), .bR B true ((bK p cs w (j+1)).map kM),y,Z,n,Y]:=λe J D W y9=>by rw[e];exact⟨_,_,_,_,rfl⟩
      cases e:cG p (cs.getD j []) 0 w with
      | none =>
        rw[e] at ef;rw[show jJ none=iq from rfl];rfl';exact n2 _ (done ef _ _ _ _)
      | some O =>
        obtain⟨a,x⟩:=O;rw[e] at ef;dsimp only at ef;rw[show jJ (some (a,x))=eA [.int a, .int x] from rfl];rfl';refine Ev.KL rfl ?_;rfl';rw[vt];by_cases c:a∈(bK p cs w j).map (·.1)
        · rw[if_pos c] at ef
          have:jQ ((bK p cs w j).map kM) a=true:=by rw[wA,sj];exact c
          rw[this];rfl';exact n2 _ (done ef _ _ _ _)
        · rw[if_neg c] at ef
          have L:jQ ((bK p cs w j).map kM) a=false:=by rw[<-p1,wA,sj];exact c
          rw[L];generalize gP:(gE _ (pO (cH 5) _ _):TS)=tl;rfl';subst gP;refine Sv.ID rfl ?_;rfl';refine⟨by rw[ak];omega,?_⟩;refine n2 _ ?_;show∃(y Z n Y:Sl),(_:Rh)=[Sl.d false (bE p wd.length cs), .d false (bI wd), .own A2 G (w.map bS), .own l T (st.map dS), .d true (.int (0+(i:Int))), .bR B true ((bK p cs w (j+1)).map kM),y,Z,n,Y];rw[ef,cI];unfold tO;rw[L,show(0+(j:Int))=j by omega];exact⟨_,_,_,_,rfl⟩
    · rintro ρ ⟨y,Z,n,Y,rfl⟩
      rw[show((cs.map e7).length:Int).toNat=cs.length by omega];have hfl:=vQ (p:=p) (cs:=cs) (wd:=w) ∅ jM.rg (i:=cs.length) (aH _);have dP:=(uS p cs w).length_eq;refine Sv.seq (Sv.kP (Tv.test (Ev.Fn rfl ⟨_,rfl,?_⟩)));by_cases c0:aR p cs w=[]
      · have R:bK p cs w cs.length=[]:=by rw[c0] at dP;exact Qk dP.symm
        rw[R];rw[AM c0,fY] at h1;rw[NU c0] at h2;subst h1 h2;rw[if_pos (show List.isEmpty (cj kM [])=true from rfl)];refine Sv.qR 2 rfl ?_;refine Sv.qR 3 rfl ?_;rfl';exact C _ _ (q _)
      have R:((bK p cs w cs.length).map kM).isEmpty=false:=by
        cases z:bK p cs w cs.length with
        |nil=>rw[z] at dP;exact absurd (Qk dP) c0
        |cons=>rfl
      rw[if_neg (by rw[R];decide)];refine Sv.next ?_
      rw[uV ∅ jM.rg c0] at h1;rw[Lq ∅ jM.rg c0] at h2;have hl':=CC (p:=p) (cs:=cs) (wd:=wd);rw[<-h1,cK,eB] at hl';refine Sv.seq (Sv.append rfl (aq.ev (aq.ju ⋯ rfl ?_)));refine aq.ev (aq.Ly rfl (by rw[ak];omega) λN o b=>?_);rw[sj] at b;obtain⟨ms,rfl,t⟩:=HL b _ rfl;have hmr:=JL t o;have hml:ms.length<=w.length:=by rw[t.length_eq];exact hfl
      refine⟨_,rfl,by rw[ak,ak];omega,λv=>⟨true,λk ds=>ds=(ms.take k).map cz,rfl,?_,?_⟩⟩
      · rintro k d ds hd hl' rfl
        obtain⟨a,ha,rfl⟩:=fB hd;obtain⟨m,hm,rfl⟩:=fB ha;have hv:=Cc (nO (p:=p) (cs:=cs) (wd:=w) cs.length) (t.mem_iff.mp (fQ hm));rfl';refine⟨by walk_at "wk",?_⟩;rfl';refine Ev.Io rfl ?_;rfl';refine⟨_,hv,λ_=>rfl,?_⟩;show _=cj _ (hJ (k+1) ms);rw[Bf hm,cI]
        rfl
      rintro ds hl' rfl;refine⟨by rw[ak];omega,?_⟩;rw[ak,ak,fW,hmr];have r:(st.map dS).length=st.length:=ak ..;have S:bC (st.map dS++[dS (aR p cs w)]) (-1)=some (dS (aR p cs w)):=by
        unfold bC ir;simp;rw[if_pos ∅,show(-1+((st.length:Int)+1)).toNat=st.length by omega];simp
      refine Sv.forL (Ev.Lr rfl ?_);rfl';refine λv=>⟨λk ρ=>∃(G T:Bool) (X y Z n Y:Sl),ρ=[.d false (bE p wd.length cs), .d false (bI wd), .own A2 G ((A4 w ((aR p cs w).take k)).map bS), .own l T (st.map dS++[dS (aR p cs w)]), .d true (.int (0+(i:Int))),X,y,Z,n,Y],⟨_,_,_,_,_,_,_,rfl⟩,?_,?_⟩
      · rintro k d ρ hd ⟨G,T,X,y,Z,n,Y,rfl⟩
        obtain⟨m,hm,rfl⟩:=fB hd;obtain⟨b1,b2,b3,b4,b5⟩:=rY ∅ (fQ hm) jM.rg;rfl';refine⟨m.1,m.1.toNat,rfl,su b1 (by rw[ak,iy];omega),?_⟩;show∃(G T:Bool) (X y Z n Y:Sl),(_:Rh)=[.d false (bE p wd.length cs), .d false (bI wd), .own A2 G ((A4 w ((aR p cs w).take (k+1))).map bS), .own l T (st.map dS++[dS (aR p cs w)]), .d true (.int (0+(i:Int))),X,y,Z,n,Y];rw[Bf hm,Bn,uy];exact⟨_,_,_,_,_,_,_,rfl⟩
      · rintro ρ ⟨G,T,X,y,Z,n,Y,rfl⟩
        rw[ak,fW];refine n1 _ ⟨A4 w (aR p cs w),st++[aR p cs w],_,_,_,_,_,_,_,_,by rw[cI];rfl,by rw[iy];exact hwl,hpw,by rw[fS];exact h1,h2,by rw[cK,jn,h3]⟩
  rintro ρ ⟨w,st,G,T,x4,X,y,Z,n,Y,rfl,hwl,hwW,h1,h2,h3⟩;exfalso;have hml:=CC (p:=p) (cs:=cs) (wd:=wd);rw[<-h1,cK] at hml;omega
theorem Vm{G:Gx}{ρ:Rh}{t:TS}{E:DE}(h:∀c:DE,(∀C,E.nx C->c.nx C)->(∀f d,E.rt f d->c.rt f d)->Sv G ρ t c):Sv G ρ t E:=h E (λ_ z=>z) λ_ _ z=>z
def Ca:DF:=λds Φ=>∃p n:Int,ds=[.int p, .int n]/\gG p/\p<10^40/\1<=n/\n<=400/\∀(os:List Int) (cs:List aA) (f:Bool),(os.length:Int)=n->(∀x∈os,0<=x/\x<p)->dZ p cs os.length->cs.length<=400->Φ f (.tuple [.list (os.map .int),bE p n cs])
theorem Q6:cM Ca:=by
 intro ds Φ Ψ hm z;revert hm;walk_at "mo";exact λq=>λos cs f a b c d=>z _ _ (q os cs f a b c d)
theorem tU:bH ["bag","p","n","word","checks","c","factor"] ["bag","p","n"] (aE zh):=⟨rfl,rfl,rfl,by decide+kernel,rfl,by decide+kernel,by decide+kernel⟩
theorem VO(F:bA K "_law_chain" "_law_chain" zh f fd)(B:Callee P w K mg base "_law_draw" 2 ["bag","many"] kH)(tK:Callee P w K mg base "_law_over" 1 ["p","a","b"] (aU 3 uO))(bF:mg "range"=none):
  aW P w K mg base bu 3 f fd ["bag","p","n"] (fP 3 Ca):=by
 refine F.ok tU (λvs H Q E h=>h.1) (λcdv A outer s H vs Q E hr h=>?_);obtain⟨b,l,ws,nb,ds,Φ,rfl,O,g,W,u,I,M⟩:=mK h;obtain⟨p,n,rfl,hp,gK,n1,n2,q⟩:=M;refine⟨_,(@ao _ _ _ _ _ (n9 (i:=3) tU.nd rfl rfl (dw.of (show dO (aE zh) ["bag","p","n","word","checks","c","factor"] _ ["k","bag","p"] [none,some 0,some 1]=true by decide+kernel)) (@iH _ _ _ _ _ _ rfl bF (@aa _ _ _ _ _ (pv 2) af rfl) (by rfl)) (λ_ _ _ _=>⟨(aO (i:=0) (by show bp (["k","bag","p"]:List Str);decide+kernel) rfl (ay rfl)),gM,(@aG _ _ _ _ _ _ _ _ eU aj (@aD _ _ _ _ _ _ _ _ _ _ B (hr.mono ⋯) (@aa _ _ _ _ _ (pv 1) (@aa _ _ _ _ _ (@aG _ _ _ _ _ _ _ _ jm (pv 2) aj) af rfl) rfl) (by rfl) ⋯ (by rfl) (by rfl)))⟩)) (@ao _ _ _ _ _ (@aJ _ _ (4) _ _ _ _ tU.nd rfl (ay rfl) (@eV _ _ _ _ af) (by rfl) (by first|exact .inl rfl|exact .inr rfl|assumption)) (@ao _ _ _ _ _ (@iT _ _ _ _ _ _ _ _ gW rfl (@iH _ _ _ _ _ _ rfl bF (@aa _ _ _ _ _ (@aG _ _ _ _ _ _ _ _ jm (pv 2) aj) af rfl) (by rfl)) (aO (i:=5) tU.nd rfl (ay rfl)) (@ao _ _ _ _ _ (@aJ _ _ (6) _ _ _ _ tU.nd rfl (ay rfl) (@aG _ _ _ _ _ _ _ _ eU aj (@aD _ _ _ _ _ _ _ _ _ _ B (hr.mono ⋯) (@aa _ _ _ _ _ (pv 0) (@aa _ _ _ _ _ (@aG _ _ _ _ _ _ _ _ jm (pv 1) aj) af rfl) rfl) (by rfl) ⋯ (by rfl) (by rfl))) (by rfl) (by first|exact .inl rfl|exact .inr rfl|assumption)) (@aC _ _ _ (@rC _ _ _ _ (j8 qy ux ug rj (pv 4) (@aa _ _ _ _ _ (@eV _ _ _ _ (@aa _ _ _ _ _ (@bQ _ _ _ _ _ (@aa _ _ _ _ _ (pv 5) (@aa _ _ _ _ _ (pv 6) af rfl) rfl)) (@aa _ _ _ _ _ (@bQ _ _ _ _ _ (@aa _ _ _ _ _ (@aG _ _ _ _ _ _ _ _ eU (pv 5) aj) (@aa _ _ _ _ _ (@aD _ _ _ _ _ _ _ _ _ _ tK (hr.mono ⋯) (@aa _ _ _ _ _ (pv 1) (@aa _ _ _ _ _ (@aG _ _ _ _ _ _ _ _ jm aj (@aG _ _ _ _ _ _ _ _ iJ (pv 6) (@au _ _ _ _ _ _ (bG K) aX (pv 3) (pv 5) (λ_ _=>rfl)))) (@aa _ _ _ _ _ (@au _ _ _ _ _ _ (bG K) aX (pv 3) (@aG _ _ _ _ _ _ _ _ eU (pv 5) aj) (λ_ _=>rfl)) af rfl) rfl) rfl) (by rfl) ⋯ (by rfl) (by rfl)) af rfl) rfl)) af rfl) rfl)) af rfl)) (by rfl)))) (by intro _;rfl)) (@aC _ _ _ (@aM _ _ _ _ (@bQ _ _ _ _ _ (@aa _ _ _ _ _ (pv 3) (@aa _ _ _ _ _ (@bQ _ _ _ _ _ (@aa _ _ _ _ _ (pv 1) (@aa _ _ _ _ _ (pv 2) (@aa _ _ _ _ _ (pv 4) af rfl) rfl) rfl)) af rfl) rfl))))))),?_⟩;refine Sv.mE O g W u I (ρ:=[.az, .d false _, .d false _, .no, .no, .no, .no]) rfl ?_;clear I u;have p2:=hp.1;rfl';refine aq.ev (aq.kI ⋯ rfl ?_);rfl';refine g6.ints (λx=>1<=x/\x<p) ?_ λos Z t=>?_
 .rintro i d ⟨hi,rfl⟩;rfl';refine⟨by walk_at "wk",?_⟩;rfl';exact λr C U=>⟨r,rfl,1+r,rfl,∅,∅⟩
 have Nz:(os.length:Int)=n:=∅
 have iu:(os.map a4).length=os.length:=ak ..;refine Sv.seq (Sv.sF λm=>?_);refine Sv.seq (Sv.qJ ?_);rfl';refine⟨λi ρ=>∃(es:List aA) (T V:Bool) (X y:Sl),ρ=[.az, .d false (.int p), .d false (.int n), .d T (.list (os.map .int)), .own m V (es.map e7),X,y]/\es.length=i/\∀prs∈es,prs.length<=1000/\qF prs os.length/\wC p prs,⟨[],_,_,_,_,rfl,rfl,(λ_ h=>nomatch h)⟩,?_,?_⟩
 .rintro i d ρ ⟨hi,rfl⟩ ⟨es,T,V,X,y,rfl,hel,hes⟩;have G:i+1<os.length:=∅
  obtain⟨a1,a2⟩:=t os[i] (fZ _);obtain⟨b1,b2⟩:=t os[i+1] (fZ _);have LB:bC (os.map a4) (0+(i:Int))=some (.int os[i]):=iE ∅ (by rw[show(0+(i:Int)).toNat=i by omega,cY,bw ∅];rfl);have ach:bC (os.map a4) (0+(i:Int)+1)=some (.int os[i+1]):=iE ∅ (by rw[show(0+(i:Int)+1).toNat=i+1 by omega,cY,bw G];rfl);have s1:Sm os[i]:=by unfold Sm;omega
  refine Gv.qm ?_;refine Vm λE1 n1 C=>?_;rfl';intro r C U;have s2:Sm (1+r):=by unfold Sm;omega
  rfl';refine Ev.cZ Di ?_;rfl';have R:0<=(1+r)*os[i]:=CB ∅ ∅;have m1:(1+r)*os[i]<=10^40*10^40:=Dn ∅ ∅ ∅ ⋯;have j:os[i+1]%p≠0:=by rw[qP ∅ b2];omega
  refine⟨rfl,p,0-(1+r)*os[i],os[i+1],rfl,hp,gK,j,∅,∅,λhk=>?_⟩;rfl';refine⟨by rw[ak];omega,n1 _ ⟨es++[[((i:Int),1+r),((i:Int)+1,sol p os[i+1] (0-(1+r)*os[i]))]],T,_,_,_,by rw[cI,show(0+(i:Int))=i by omega];rfl,by rw[cK,hel];rfl,λprs hm=>?_⟩⟩;rcases iG.mp hm with hm|hm
  .exact hes prs hm
  rw[br.mp hm];obtain⟨k,hk⟩:=hk;obtain⟨x0,x1⟩:=FG (p:=p) (b:=os[i+1]) (a:=0-(1+r)*os[i]) ∅;have c:sol p os[i+1] (0-(1+r)*os[i])≠0:=λz=>by
   rw[z,Fx] at hk;have hd:p∣(1+r)*os[i]:=⟨k,∅⟩;rcases Hs hp hd with h|h
   .have:=Fo ∅ h;omega
   .have:=Fo ∅ h;omega
  clear hm;obtain⟨x,hx⟩:∃x,sol p os[i+1] (0-(1+r)*os[i])=x:=⟨_,rfl⟩;rw[hx] at x0 x1 c⊢;refine⟨by show 2<=1000;decide,λpr h=>?_,λpr h=>?_⟩<;>simp only[aK,cC,or_false] at h<;>rcases h with rfl|rfl
  .exact⟨by show(0:Int)<=i;omega,by show(i:Int)<_;omega,s2⟩
  .exact⟨by show(0:Int)<=i+1;omega,by show(i:Int)+1<_;omega,by show Sm x;unfold Sm;omega⟩
  .show(1+r)%p≠0;rw[qP ∅ ∅];omega
  .show x%p≠0;rw[qP x0 x1];exact c
 .rintro ρ ⟨es,T,V,X,y,rfl,hel,hes⟩;have e:es.length=os.length-1:=∅
  refine Sv.qR 4 rfl ?_;rfl';exact q os es _ Nz (λx hx=>by have:=t x hx;omega) ⟨hp,gK,∅,hes⟩ ∅
def FH:DF:=λds Φ=>ds=[]/\∀(p:Int) (cs:List aA) (wd:Wo) (f:Bool),dZ p cs wd.length->1<=wd.length->wd.length<=400->cs.length<=400->(∀x,some x∈wd->0<=x/\x<p)->Φ f (.tuple [bE p wd.length cs,bI wd])
theorem Jb:cM FH:=by
 intro ds Φ Ψ hm z;revert hm;walk_at "mo";exact λq=>λp cs wd f a b c d g=>z _ _ (q p cs wd f a b c d g)
theorem Jm{p:Int}{m:Nat}{cs:List aA}(hp:gG p)(gK:p<10^40)(hl:cs.length<=1000)(h:∀prs∈cs,mU p m prs):dZ p cs m:=⟨hp,gK,hl,λprs D=>by
 obtain⟨g1,g2⟩:=h prs D;have:=hp.1;refine⟨∅,λpr dP=>?_,λpr dP=>?_⟩
 .have:=g2 pr dP;exact⟨this.1,this.2.1,by unfold Sm;omega⟩
 .have:=g2 pr dP;rw[qP ∅ ∅];omega⟩
theorem N3{p:Int}{os:List Int}{ld:Wo}(h:∀x∈os,0<=x/\x<p)(hl:vh os ld):∀x,some x∈ld->0<=x/\x<p:=λx hx=>h x (Rc hl hx)
theorem jr:bH ["bag","p","n","at","true","net","planted","wide"] ["bag"] (aE AE):=⟨rfl,rfl,rfl,by decide+kernel,rfl,by decide+kernel,by decide+kernel⟩
theorem Tf(F:bA K "_law_case" "_law_case" AE f fd)(Ui:Callee P w K mg base "_law_prime" 3 ["bag"] (fP 1 Es))(v:Callee P w K mg base "_law_letters" 3 ["bag","p","n"] (fP 3 Gs))(X:Callee P w K mg base "_law_planted" 4 ["bag","p","word","many","wide"] (fP 5 GI))(B:Callee P w K mg base "_law_draw" 2 ["bag","many"] kH)(y:Callee P w K mg base "_law_chain" 3 ["bag","p","n"] (fP 3 Ca))(HM:Callee P w K mg base "_law_lossy" 3 ["bag","word"] (fP 2 C9))(bF:mg "range"=none):
  aW P w K mg base bu 5 f fd ["bag"] (fP 1 FH):=by
 refine F.ok jr (λvs H Q E h=>h.1) (λcdv A outer s H vs Q E hr h=>?_);obtain⟨b,l,ws,nb,ds,Φ,rfl,O,g,W,u,I,M⟩:=mK h;obtain⟨rfl,q⟩:=M;refine⟨_,(@ao _ _ _ _ _ (@aJ _ _ (1) _ _ _ _ jr.nd rfl (ay rfl) (@aD _ _ _ _ _ _ _ _ _ _ Ui (hr.mono ⋯) (@aa _ _ _ _ _ (pv 0) af rfl) (by rfl) ⋯ (by rfl) (by rfl)) (by rfl) (by first|exact .inl rfl|exact .inr rfl|assumption)) (@ao _ _ _ _ _ (@cy _ _ _ _ _ _ _ _ (@aS _ _ _ _ _ _ _ _ iA (@aD _ _ _ _ _ _ _ _ _ _ B (hr.mono ⋯) (@aa _ _ _ _ _ (pv 0) (@aa _ _ _ _ _ aj af rfl) rfl) (by rfl) ⋯ (by rfl) (by rfl)) aj (aQ _)) (@ao _ _ _ _ _ (@aJ _ _ (2) _ _ _ _ jr.nd rfl (ay rfl) (@aG _ _ _ _ _ _ _ _ eU aj (@aD _ _ _ _ _ _ _ _ _ _ B (hr.mono ⋯) (@aa _ _ _ _ _ (pv 0) (@aa _ _ _ _ _ aj af rfl) rfl) (by rfl) ⋯ (by rfl) (by rfl))) (by rfl) (by first|exact .inl rfl|exact .inr rfl|assumption)) (@ao _ _ _ _ _ (@aJ _ _ (3) _ _ _ _ jr.nd rfl (ei rfl) (@aG _ _ _ _ _ _ _ _ iJ (@aG _ _ _ _ _ _ _ _ jm (pv 2) aj) (@aD _ _ _ _ _ _ _ _ _ _ B (hr.mono ⋯) (@aa _ _ _ _ _ (pv 0) (@aa _ _ _ _ _ aj af rfl) rfl) (by rfl) ⋯ (by rfl) (by rfl))) (by rfl) (by first|exact .inl rfl|exact .inr rfl|assumption)) (@ao _ _ _ _ _ (@gD _ _ _ _ _ _ (@aD _ _ _ _ _ _ _ _ _ _ y (hr.mono ⋯) (@aa _ _ _ _ _ (pv 0) (@aa _ _ _ _ _ (pv 1) (@aa _ _ _ _ _ (pv 2) af rfl) rfl) rfl) (by rfl) ⋯ (by rfl) (by rfl)) (@i9 _ (K) _ _ _ (2) _ rfl rfl (@cF _ _ _ _ _ (aO (i:=4) jr.nd rfl (ei rfl)) (@cF _ _ _ _ _ (aO (i:=5) jr.nd rfl (ay rfl)) iN (by rfl)) (by rfl)) (by rfl) (by rfl)) (by rfl) (by rfl) (by rfl)) (@aC _ _ _ (@aM _ _ _ _ (@bQ _ _ _ _ _ (@aa _ _ _ _ _ (pv 5) (@aa _ _ _ _ _ (gC (dw.of (show dO (aE AE) ["bag","p","n","at","true","net","planted","wide"] _ ["k","at","true"] [none,some 3,some 4]=true by decide+kernel)) (@iH _ _ _ _ _ _ rfl bF (@aa _ _ _ _ _ (pv 2) af rfl) (by rfl)) (λ_ _ _ _=>⟨(aO (i:=0) (by show bp (["k","at","true"]:List Str);decide+kernel) rfl (ay rfl)),gM,(@o9 _ _ _ _ _ _ _ _ (@aS _ _ _ _ _ _ _ _ iA (pv 0) (pv 1) (aQ _)) (@au _ _ _ _ _ _ (bG K) aX (pv 2) (pv 0) (λ_ _=>rfl)) fk)⟩)) af rfl) rfl))))))) cJ) (@ao _ _ _ _ _ (@cy _ _ _ _ _ _ _ _ (@aS _ _ _ _ _ _ _ _ iA (@aD _ _ _ _ _ _ _ _ _ _ B (hr.mono ⋯) (@aa _ _ _ _ _ (pv 0) (@aa _ _ _ _ _ aj af rfl) rfl) (by rfl) ⋯ (by rfl) (by rfl)) aj (aQ _)) (@ao _ _ _ _ _ (@aJ _ _ (4) _ _ _ _ jr.nd rfl (ei rfl) (@aD _ _ _ _ _ _ _ _ _ _ v (hr.mono ⋯) (@aa _ _ _ _ _ (pv 0) (@aa _ _ _ _ _ (pv 1) (@aa _ _ _ _ _ (@aG _ _ _ _ _ _ _ _ eU aj (@aD _ _ _ _ _ _ _ _ _ _ B (hr.mono ⋯) (@aa _ _ _ _ _ (pv 0) (@aa _ _ _ _ _ aj af rfl) rfl) (by rfl) ⋯ (by rfl) (by rfl))) af rfl) rfl) rfl) (by rfl) ⋯ (by rfl) (by rfl)) (by rfl) (by first|exact .inl rfl|exact .inr rfl|assumption)) (@ao _ _ _ _ _ (@aJ _ _ (5) _ _ _ _ jr.nd rfl (ay rfl) (@aD _ _ _ _ _ _ _ _ _ _ X (hr.mono ⋯) (@aa _ _ _ _ _ (pv 0) (@aa _ _ _ _ _ (pv 1) (@aa _ _ _ _ _ (pv 4) (@aa _ _ _ _ _ (@aG _ _ _ _ _ _ _ _ eU aj (@aD _ _ _ _ _ _ _ _ _ _ B (hr.mono ⋯) (@aa _ _ _ _ _ (pv 0) (@aa _ _ _ _ _ aj af rfl) rfl) (by rfl) ⋯ (by rfl) (by rfl))) (@aa _ _ _ _ _ aj af rfl) rfl) rfl) rfl) rfl) (by rfl) ⋯ (by rfl) (by rfl)) (by rfl) (by first|exact .inl rfl|exact .inr rfl|assumption)) (@ao _ _ _ _ _ (@cy _ _ _ _ _ _ _ _ (@aS _ _ _ _ _ _ _ _ iA (@aD _ _ _ _ _ _ _ _ _ _ B (hr.mono ⋯) (@aa _ _ _ _ _ (pv 0) (@aa _ _ _ _ _ aj af rfl) rfl) (by rfl) ⋯ (by rfl) (by rfl)) aj (aQ _)) (@aC _ _ _ (@aJ _ _ (4) _ _ _ _ jr.nd rfl (ei rfl) (@aD _ _ _ _ _ _ _ _ _ _ v (hr.mono ⋯) (@aa _ _ _ _ _ (pv 0) (@aa _ _ _ _ _ (pv 1) (@aa _ _ _ _ _ (@au _ _ _ _ _ _ (aT K) aV (pv 5) aj (λ_ _=>rfl)) af rfl) rfl) rfl) (by rfl) ⋯ (by rfl) (by rfl)) (by rfl) (by first|exact .inl rfl|exact .inr rfl|assumption))) cJ) (@aC _ _ _ (@aM _ _ _ _ (@bQ _ _ _ _ _ (@aa _ _ _ _ _ (pv 5) (@aa _ _ _ _ _ (@aD _ _ _ _ _ _ _ _ _ _ HM (hr.mono ⋯) (@aa _ _ _ _ _ (pv 0) (@aa _ _ _ _ _ (pv 4) af rfl) rfl) (by rfl) ⋯ (by rfl) (by rfl)) af rfl) rfl))))))) cJ) (@ao _ _ _ _ _ (@aJ _ _ (6) _ _ _ _ jr.nd rfl (ay rfl) (@oM _ _ _ _ _ _ _ _ DP (@aD _ _ _ _ _ _ _ _ _ _ B (hr.mono ⋯) (@aa _ _ _ _ _ (pv 0) (@aa _ _ _ _ _ aj af rfl) rfl) (by rfl) ⋯ (by rfl) (by rfl)) aj (aQ _)) (by rfl) (by first|exact .inl rfl|exact .inr rfl|assumption)) (@ao _ _ _ _ _ (@aJ _ _ (7) _ _ _ _ jr.nd rfl (ay rfl) (@au _ _ _ _ _ _ (bG K) aX (@eV _ _ _ _ (@Ba _ _ _ rfl)) (@aD _ _ _ _ _ _ _ _ _ _ B (hr.mono ⋯) (@aa _ _ _ _ _ (pv 0) (@aa _ _ _ _ _ aj af rfl) rfl) (by rfl) ⋯ (by rfl) (by rfl)) (λ_ _=>rfl)) (by rfl) (by first|exact .inl rfl|exact .inr rfl|assumption)) (@ao _ _ _ _ _ (@aJ _ _ (4) _ _ _ _ jr.nd rfl (ei rfl) (@aD _ _ _ _ _ _ _ _ _ _ v (hr.mono ⋯) (@aa _ _ _ _ _ (pv 0) (@aa _ _ _ _ _ (pv 1) (@aa _ _ _ _ _ (@aG _ _ _ _ _ _ _ _ eU aj (@aD _ _ _ _ _ _ _ _ _ _ B (hr.mono ⋯) (@aa _ _ _ _ _ (pv 0) (@aa _ _ _ _ _ aj af rfl) rfl) (by rfl) ⋯ (by rfl) (by rfl))) af rfl) rfl) rfl) (by rfl) ⋯ (by rfl) (by rfl)) (by rfl) (by first|exact .inl rfl|exact .inr rfl|assumption)) (@ao _ _ _ _ _ (@aJ _ _ (5) _ _ _ _ jr.nd rfl (ay rfl) (@aD _ _ _ _ _ _ _ _ _ _ X (hr.mono ⋯) (@aa _ _ _ _ _ (pv 0) (@aa _ _ _ _ _ (pv 1) (@aa _ _ _ _ _ (pv 4) (@aa _ _ _ _ _ (@aD _ _ _ _ _ _ _ _ _ _ B (hr.mono ⋯) (@aa _ _ _ _ _ (pv 0) (@aa _ _ _ _ _ aj af rfl) rfl) (by rfl) ⋯ (by rfl) (by rfl)) (@aa _ _ _ _ _ (pv 7) af rfl) rfl) rfl) rfl) rfl) (by rfl) ⋯ (by rfl) (by rfl)) (by rfl) (by first|exact .inl rfl|exact .inr rfl|assumption)) (@ao _ _ _ _ _ (@cy _ _ _ _ _ _ _ _ (@nu _ _ _ _ (@kD _ (K) _ _ rfl (pv 6) (λ_=>rfl))) (@aC _ _ _ (@aJ _ _ (4) _ _ _ _ jr.nd rfl (ei rfl) (@aD _ _ _ _ _ _ _ _ _ _ v (hr.mono ⋯) (@aa _ _ _ _ _ (pv 0) (@aa _ _ _ _ _ (pv 1) (@aa _ _ _ _ _ (@au _ _ _ _ _ _ (aT K) aV (pv 5) aj (λ_ _=>rfl)) af rfl) rfl) rfl) (by rfl) ⋯ (by rfl) (by rfl)) (by rfl) (by first|exact .inl rfl|exact .inr rfl|assumption))) cJ) (@aC _ _ _ (@aM _ _ _ _ (@bQ _ _ _ _ _ (@aa _ _ _ _ _ (pv 5) (@aa _ _ _ _ _ (@aD _ _ _ _ _ _ _ _ _ _ HM (hr.mono ⋯) (@aa _ _ _ _ _ (pv 0) (@aa _ _ _ _ _ (pv 4) af rfl) rfl) (by rfl) ⋯ (by rfl) (by rfl)) af rfl) rfl)))))))))))),?_⟩;refine Sv.mE O g W u I (ρ:=[.az, .no, .no, .no, .no, .no, .no, .no]) rfl ?_;clear I u;rfl';refine Ev.iO Yq rfl ?_;rfl';refine⟨rfl,λp hp gK Y=>?_⟩;have p2:=hp.1;have c:KW p:=⟨∅,∅⟩;rfl';intro d1 d1a d1b;by_cases c1:d1=15
 .rfl';intro d2 d2a d2b;rfl';intro r r1 r2;have R:0<=(40+d2-1)*r:=CB ∅ r1;refine⟨r,rfl, .inr ⟨by unfold Sm;omega,by unfold Sm;omega⟩,?_⟩;rfl';refine Ev.iO Q6 rfl ?_;rfl';refine⟨rfl,p,40+d2,rfl,hp,gK,∅,∅,λos cs G Nz t hN hcl=>?_⟩;rfl';refine aq.ev (aq.kI ⋯ rfl ?_);rfl';refine g6.rel bS false (λ_ o=>∀x,o=some x->0<=x/\x<p) ?_ λes hel j=>?_
  .rintro i d ⟨hi,rfl⟩;rfl';refine⟨by walk_at "wk",?_⟩;rfl';by_cases T:0+(i:Int)=(40+d2-1)*r
   .rw[decide_eq_true T,if_pos rfl];have Yv:i<os.length:=∅
    have S:bC (os.map a4) (0+(i:Int))=some (.int os[i]):=iE ∅ (by rw[show(0+(i:Int)).toNat=i by omega,cY,bw Yv];rfl);rfl';exact⟨some os[i],rfl,λx e=>by cases e;exact t _ (fZ _)⟩
   .rw[decide_eq_false T,if_neg ⋯];rfl';exact⟨none,rfl,λx e=>by cases e⟩
  have hl:es.length=os.length:=∅
  have z:(40+d2:Int)=(es.length:Int):=∅
  rfl';have hq:=q p cs es;rw[<-z] at hq;rw[hl] at hq;refine hq _ hN ∅ ∅ ∅ λx hx=>?_;obtain⟨k,hk,e⟩:=LP.mp hx;exact j k _ (bw hk) x e
 rfl';intro d2 d2a d2b;by_cases c2:d2=15
 .rfl';refine Ev.iO yL rfl ?_;rfl';intro d3 d3a d3b;rfl';refine⟨rfl,p,100+d3,rfl,c,∅,∅,λos Z t=>?_⟩;rfl';refine Ev.iO Ia rfl ?_;rfl';intro d4 d4a d4b;rfl';refine⟨rfl,p,300+d4,4,os,rfl,hp,gK,∅,∅,t,∅,∅,∅,∅,λcs fN hcl m=>?_⟩;have hN:=Jm hp gK ∅ m;refine Gv.kW ?_;refine Sv.seq ?_;refine Sv.sS (λC=>∃(a:List Int) (V J:Bool),a.length=os.length/\(∀x∈a,0<=x/\x<p)/\C=[.az, .d true (.int p), .no, .no, .d V (.list (a.map .int)), .d J (bE p os.length cs), .no, .no]) ?_ ?_
  .rfl';intro d5 d5a d5b;by_cases D:d5=2
   .rfl';refine Ev.iO yL rfl ?_;rfl';refine⟨rfl,p,os.length,rfl,c,∅,∅,λa U n=>?_⟩;rfl';exact⟨a,_,_,∅,n,rfl⟩
   .rfl';exact⟨os,_,_,rfl,t,rfl⟩
  rintro C ⟨a,V,J,hl2,n,rfl⟩;rfl';refine Ev.iO KH rfl ?_;rfl';refine⟨rfl,a,rfl,∅,λld eu=>?_⟩;have mZ:ld.length=os.length:=by rw[eu.1];exact hl2
  rfl';rw[<-mZ];exact q p cs ld _ (by rw[mZ];exact hN) ∅ ∅ hcl (N3 n eu)
 rfl';intro d3 d3a d3b;refine⟨d3,rfl,?_⟩;rfl';intro d4 d4a d4b;obtain⟨wide,ew,N,Zl⟩:=pick (L:=[4,4,4,20]) (k:=d4) d4a (by show _<(4:Int);omega) (λx=>1<=x/\x<=60) ⋯;refine⟨_,rfl,_,ew,?_⟩;rfl';refine Ev.iO yL rfl ?_;rfl';intro n0 n1 n2;rfl';refine⟨rfl,p,1+n0,rfl,c,∅,∅,λos Z t=>?_⟩;rfl';refine Ev.iO Ia rfl ?_;rfl';intro c0 c1 c2;rfl';refine⟨rfl,p,c0,wide,os,rfl,hp,gK,∅,∅,t,c1,∅,N,Zl,λcs fN hcl m=>?_⟩;have hN:=Jm hp gK ∅ m;refine Gv.kW ?_;refine Sv.seq ?_;refine Sv.sS (λC=>∃(a:List Int) (V J:Bool),a.length=os.length/\(∀x∈a,0<=x/\x<p)/\C=[.az, .d true (.int p), .no, .no, .d V (.list (a.map .int)), .d J (bE p os.length cs), .d true (.bool (decide (0<d3))), .d true (.int wide)]) ?_ ?_
 .by_cases D:0<d3
  .rfl';exact⟨os,_,_,rfl,t,rfl⟩
  .rfl';refine Ev.iO yL rfl ?_;rfl';refine⟨rfl,p,os.length,rfl,c,∅,∅,λa U n=>?_⟩;rfl';exact⟨a,_,_,∅,n,rfl⟩
 rintro C ⟨a,V,J,hl2,n,rfl⟩;rfl';refine Ev.iO KH rfl ?_;rfl';refine⟨rfl,a,rfl,∅,λld eu=>?_⟩;have mZ:ld.length=os.length:=by rw[eu.1];exact hl2
 rfl';rw[<-mZ];exact q p cs ld _ (by rw[mZ];exact hN) ∅ ∅ hcl (N3 n eu)
theorem VY{G:Gx}{ρ:Rh}{t:TS}{E:DE}(h:∀c:DE,(∀C,E.nx C->c.nx C)->(∀f d,E.rt f d->c.rt f d)->Sv G ρ t c):Sv G ρ t E:=h E (λ_ z=>z) λ_ _ z=>z
def Ce:DF:=λds Φ=>∃(p:Int) (cs:List aA) (wd:Wo) (ms:List bf) (left:List Int),ds=[bE p wd.length cs,bI wd, .list (ms.map cz), .list (left.map .int)]/\dZ p cs wd.length/\dU wd/\wd.length<=1000/\ms.length<=1000/\∀d,nI p cs wd ms left d->Φ true d
theorem Ol:cM Ce:=by
 intro ds Φ Ψ hm z;revert hm;walk_at "mo";exact λq=>λd h=>z _ _ (q d h)
theorem oA:bH ["net","word","mends","left","now","k","place","c","letter","told","out"] ["net","word","mends","left"] (aE u7):=⟨rfl,rfl,rfl,by decide+kernel,rfl,by decide+kernel,by decide+kernel⟩
theorem SS(F:bA K "_law_due" "_law_due" u7 f fd)(V:Callee P w K mg base "_law_told" 2 ["net","word","c"] (aU 3 yW))(bY:mg "list"=none)(bF:mg "range"=none)(bh:mg "len"=none):
    aW P w K mg base bu 3 f fd ["net","word","mends","left"] (aU 4 Ce):=by
  refine F.ok oA (λvs H Q E h=>h.1) (λcdv A outer s H vs Q E hr h=>?_);obtain⟨nb,ds,Φ,g,u,I,M⟩:=fL h;obtain⟨p,cs,wd,ms,left,rfl,hN,hW,hl,hml,q⟩:=M;refine⟨_,(@ao _ _ _ _ _ (@aJ _ _ (4) _ _ _ _ oA.nd rfl (ei rfl) (@iB _ _ _ _ _ _ _ _ (iS K) jW rfl bY iR (@aa _ _ _ _ _ (pv 1) af rfl) ⋯ ⋯ (by rfl) (by rfl)) (by rfl) (by first|exact .inl rfl|exact .inr rfl|assumption)) (@ao _ _ _ _ _ (@iT _ _ _ _ _ _ _ _ gW rfl (@iH _ _ _ _ _ _ rfl bF (@aa _ _ _ _ _ (@bX _ _ _ _ _ _ _ _ (eX K) gk rfl bh fE (@aa _ _ _ _ _ (pv 2) af rfl) ⋯ ⋯ (by rfl) (by rfl)) af rfl) (by rfl)) (aO (i:=5) oA.nd rfl (ay rfl)) (@ao _ _ _ _ _ (@gD _ _ _ _ _ _ (@au _ _ _ _ _ _ (bG K) aX (pv 2) (pv 5) (λ_ _=>rfl)) (@i9 _ (K) _ _ _ (3) _ rfl rfl (@cF _ _ _ _ _ (aO (i:=6) oA.nd rfl (ay rfl)) (@cF _ _ _ _ _ (aO (i:=7) oA.nd rfl (ay rfl)) (@cF _ _ _ _ _ (aO (i:=8) oA.nd rfl (ay rfl)) iN (by rfl)) (by rfl)) (by rfl)) (by rfl) (by rfl)) (by rfl) (by rfl) (by rfl)) (@ao _ _ _ _ _ (@cy _ _ _ _ _ _ _ _ (PW.pt (kC (@aS _ _ _ _ _ _ _ _ rm (pv 7) aj (aQ _)) (lC (@aS _ _ _ _ _ _ _ _ GC (pv 7) (@bX _ _ _ _ _ _ _ _ (eX K) gk rfl bh fE (@aa _ _ _ _ _ (@au _ _ _ _ _ _ (aT K) aV (pv 0) aj (λ_ _=>rfl)) af rfl) ⋯ ⋯ (by rfl) (by rfl)) (aQ _))))) (@aC _ _ _ (@aM _ _ _ _ (@bQ _ _ _ _ _ (@aa _ _ _ _ _ gc (@aa _ _ _ _ _ (pv 5) af rfl) rfl)))) cJ) (@ao _ _ _ _ _ (@aJ _ _ (9) _ _ _ _ oA.nd rfl (ay rfl) (@aD _ _ _ _ _ _ _ _ _ _ V (hr.mono ⋯) (@aa _ _ _ _ _ (pv 0) (@aa _ _ _ _ _ (pv 4) (@aa _ _ _ _ _ (pv 7) af rfl) rfl) rfl) (by rfl) ⋯ (by rfl) (by rfl)) (by rfl) (by first|exact .inl rfl|exact .inr rfl|assumption)) (@ao _ _ _ _ _ (@cy _ _ _ _ _ _ _ _ (PW.pt (kC (@aS _ _ _ _ _ _ _ _ oS (pv 9) fk (aQ _)) (lC (@aS _ _ _ _ _ _ _ _ iw (@au _ _ _ _ _ _ (aT K) aV (pv 9) aj (λ_ _=>rfl)) (pv 6) (aQ _))))) (@aC _ _ _ (@aM _ _ _ _ (@bQ _ _ _ _ _ (@aa _ _ _ _ _ gc (@aa _ _ _ _ _ (pv 5) af rfl) rfl)))) cJ) (@ao _ _ _ _ _ (@cy _ _ _ _ _ _ _ _ (@aS _ _ _ _ _ _ _ _ iw (@au _ _ _ _ _ _ (aT K) aV (pv 9) aj (λ_ _=>rfl)) (pv 8) (aQ _)) (@aC _ _ _ (@aM _ _ _ _ (@bQ _ _ _ _ _ (@aa _ _ _ _ _ gc (@aa _ _ _ _ _ (pv 5) af rfl) rfl)))) cJ) (@aC _ _ _ (@gD _ _ _ _ _ _ (pv 8) (jx (pv 4) (pv 6) set_list) (by rfl) (by rfl) (by rfl)))))))) (by intro _;rfl)) (@ao _ _ _ _ _ (@cy _ _ _ _ _ _ _ _ (@aS _ _ _ _ _ _ _ _ (Hq hr.units) (pv 3) (gC (dw.of (show dO (aE u7) ["net","word","mends","left","now","k","place","c","letter","told","out"] _ ["place","now"] [none,some 4]=true by decide+kernel)) (@iH _ _ _ _ _ _ rfl bF (@aa _ _ _ _ _ (@au _ _ _ _ _ _ (aT K) aV (pv 0) aj (λ_ _=>rfl)) af rfl) (by rfl)) (λ_ _ _ _=>⟨(aO (i:=0) (by show bp (["place","now"]:List Str);decide+kernel) rfl (ay rfl)),(mz (@aS _ _ _ _ _ _ _ _ oS (@au _ _ _ _ _ _ (bG K) aX (pv 1) (pv 0) (λ_ _=>rfl)) fk (aQ _))),(pv 0)⟩)) (aQ _)) (@aC _ _ _ (@aM _ _ _ _ (@bQ _ _ _ _ _ (@aa _ _ _ _ _ gc (@aa _ _ _ _ _ aj af rfl) rfl)))) cJ) (@ao _ _ _ _ _ (n9 (i:=10) oA.nd rfl rfl (dw.of (show dO (aE u7) ["net","word","mends","left","now","k","place","c","letter","told","out"] _ ["c","net","now"] [none,some 0,some 4]=true by decide+kernel)) (@iH _ _ _ _ _ _ rfl bF (@aa _ _ _ _ _ (@bX _ _ _ _ _ _ _ _ (eX K) gk rfl bh fE (@aa _ _ _ _ _ (@au _ _ _ _ _ _ (aT K) aV (pv 0) aj (λ_ _=>rfl)) af rfl) ⋯ ⋯ (by rfl) (by rfl)) af rfl) (by rfl)) (λ_ _ _ _=>⟨(aO (i:=0) (by show bp (["c","net","now"]:List Str);decide+kernel) rfl (ay rfl)),(mz (@aS _ _ _ _ _ _ _ _ l7 (@aD _ _ _ _ _ _ _ _ _ _ V (hr.mono ⋯) (@aa _ _ _ _ _ (pv 1) (@aa _ _ _ _ _ (pv 2) (@aa _ _ _ _ _ (pv 0) af rfl) rfl) rfl) (by rfl) ⋯ (by rfl) (by rfl)) fk (aQ _))),(pv 0)⟩)) (@aC _ _ _ (@aM _ _ _ _ (@o9 _ _ _ _ _ _ _ _ (@aS _ _ _ _ _ _ _ _ (Bt hr.units) (pv 10) (@eV _ _ _ _ af) (aQ _)) fk (@bQ _ _ _ _ _ (@aa _ _ _ _ _ gc (@aa _ _ _ _ _ (@au _ _ _ _ _ _ (bG K) aX (pv 10) aj (λ_ _=>rfl)) af rfl) rfl))))))))),?_⟩;refine Sv.fF g u I (ρ:=[.d false _, .d false _, .d false _, .d false _, .no, .no, .no, .no, .no, .no, .no]) rfl ?_;clear I u;have iu:(cs.map e7).length=cs.length:=ak ..;have G:(ms.map cz).length=ms.length:=ak ..;have p2:=hN.1.1;have qQ:=hN.2.1;have hcl:=hN.2.2.1;refine Sv.seq ?_;refine Sv.uJ (aq.listOf ?_);rfl';intro a;refine Sv.seq ?_;refine Sv.qJ ?_;rfl';refine⟨λi ρ=>∃(f:Bool) (X y Z n Y U:Sl),ρ=[.d false (bE p wd.length cs), .d false (bI wd), .d false (.list (ms.map cz)), .d false (.list (left.map .int)), .own a f ((A4 wd (ms.take i)).map bS),X,y,Z,n,Y,U]/\∀j<i,pY p cs wd ms j,⟨_,_,_,_,_,_,_,rfl,λj hj=>∅⟩,?_,?_⟩
  · rintro i d ρ ⟨hi,rfl⟩ ⟨f,X,y,Z,n,Y,U,rfl,hI⟩
    have hil:i<ms.length:=∅
    have L:(0+(i:Int)).toNat=i:=∅
    obtain⟨m,hm⟩:∃m,ms[i]?=some m:=⟨_,bw hil⟩;have Lh:bC (ms.map cz) (0+(i:Int))=some (cz m):=iE ∅ (by rw[L,cY,hm];rfl);have kq:=qA hN hW hI;have J:(A4 wd (ms.take i)).length=wd.length:=iy;have ret:∀x,gu p cs (A4 wd (ms.take i)) m= .str x->Φ true (.tuple [.str x, .int (0+(i:Int))]):=λx h=>by
      rw[show(0+(i:Int))=(i:Int) by omega];exact q _ (.inl ⟨i,m,x,hI,hm,h,rfl⟩)
    refine Gv.qm ?_;refine VY λE1 n1 C=>?_;rfl';by_cases c0:m.2.1<0
    · rfl'
      exact C _ _ (ret _ (by unfold gu;rw[if_pos (.inl c0)]))
    rfl';by_cases c1:((cs.map e7).length:Int)<=m.2.1
    · rfl'
      exact C _ _ (ret _ (by unfold gu;rw[if_pos (.inr ∅)]))
    rfl';refine Ev.pV EG ?_;refine cQ.cons ?_;rfl';refine cQ.own rfl ?_;refine cQ.cons ?_;rfl';refine cQ.nil ?_;refine⟨rfl,p,wd.length,m.2.1,cs,A4 wd (ms.take i),rfl,by rw[J];exact hN,kq,∅,∅, .inl rfl,?_⟩
    have v:gu p cs (A4 wd (ms.take i)) m=(match cG p (cs.getD m.2.1.toNat []) 0 (A4 wd (ms.take i)) with
      |none=> .str "place"
      |some (a,x)=>if a≠m.1 then .str "place" else if x≠m.2.2 then .str "letter" else .none):=by unfold gu;rw[if_neg ∅]<;>rfl
    cases e:cG p (cs.getD m.2.1.toNat []) 0 (A4 wd (ms.take i)) with
    | none =>
      rw[e] at v;rw[show jJ none=iq from rfl];rfl';exact C _ _ (ret _ v)
    | some O =>
      obtain⟨N,x⟩:=O;rw[e] at v;rw[show jJ (some (N,x))=eA [.int N, .int x] from rfl];rfl';by_cases T:N=m.1
      · rfl'
        by_cases t:x=m.2.2
        · simp only[T,t,ne_eq,not_true_eq_false,if_false] at v
          have hk:=AO (by rw[J];exact hN) kq v;rw[J] at hk;rfl';refine⟨m.1,m.1.toNat,rfl,su hk.1 (by rw[ak,J];exact hk.2.1),?_⟩;have e2:(cj bS (A4 wd (ms.take i))).set m.1.toNat (.int m.2.2)=(A4 wd (ms.take (i+1))).map bS:=by rw[Bf hm,Bn,uy];rfl
          rw[e2];refine n1 _ ⟨_,_,_,_,_,_,_,rfl,λj hj=>?_⟩;rcases qN (Du.mp hj) with z|z
          · exact hI j z
          · subst z;exact⟨m,hm,v⟩
        · rfl'
          simp only[T,t,ne_eq,not_true_eq_false,if_false,not_false_eq_true,if_true] at v;exact C _ _ (ret _ v)
      · rfl'
        simp only[T,ne_eq,not_false_eq_true,if_true] at v;exact C _ _ (ret _ v)
  rintro ρ ⟨f,X,y,Z,n,Y,U,rfl,hI⟩;rw[show((ms.map cz).length:Int).toNat=ms.length by omega] at hI⊢;rw[fW];have kq:=qA hN hW hI;rw[fW] at kq;have J:(A4 wd ms).length=wd.length:=iy;have fin:∀d,d=kr p cs (A4 wd ms) left->Φ true d:=λd h=>q d (.inr ⟨hI,h⟩);generalize A4 wd ms=wq at*;have n5:(wq.map bS).length=wq.length:=ak ..;rfl';refine aq.ev (aq.kI ⋯ rfl ?_);rfl';refine⟨true,λi ds=>ds=(((bo i).filter λj=>wq[j]?==some none).map λ(j:Nat)=>(j:Int)).map a4,rfl,?_,?_⟩
  · rintro i d ds ⟨hi,rfl⟩ hl' rfl
    obtain⟨o,D,S⟩:=uI (xs:=wq) bS (k:=0+(i:Int)) (m:=wq.length) ∅ ∅ rfl;rw[show(0+(i:Int)).toNat=i by omega] at D;rfl';refine⟨by walk_at "wk",?_⟩;rfl';rw[rM];cases o with
    | none =>
      rfl';show _=cj _ (cj _ (il _ (bo (i+1))));rw[pC,nP,tH (by rw[D];rfl)];simp
    | some x =>
      rfl';show _=cj _ (cj _ (il _ (bo (i+1))));rw[pC,nP,uY (by rw[D];simp)];simp
  rintro ds hl' rfl;have B:(((bo ((wd.length:Int)).toNat).filter λj=>wq[j]?==some none).map λ(j:Nat)=>(j:Int))=jl wq:=by unfold jl;rw[J];rfl
  rw[B];refine⟨shaped_ints _,shaped_ints _,?_⟩;rw[HQ];by_cases c:left=jl wq
  · rw[decide_eq_true c]
    have R:kr p cs wq left=match(outs p cs wq).head? with|none=> .none|some c=> .tuple [.str "out", .int c]:=by unfold kr;rw[if_neg (by simpa using c)]<;>rfl
    rfl';refine aq.ev (aq.kI ⋯ rfl ?_);rfl';refine⟨true,λi ds=>ds=(((bo i).filter λc=>(cG p (cs.getD c []) 0 wq).isSome).map λ(j:Nat)=>(j:Int)).map a4,rfl,?_,?_⟩
    · rintro i d ds ⟨hi,rfl⟩ hl' rfl
      rfl';refine⟨by walk_at "wk",?_⟩;rfl';refine Ev.pV EG ?_;refine cQ.cons ?_;rfl';refine cQ.own rfl ?_;refine cQ.cons ?_;rfl';refine cQ.nil ?_;refine⟨rfl,p,wd.length,0+(i:Int),cs,wq,rfl,by rw[J];exact hN,kq,∅,∅, .inl rfl,?_⟩;rw[show(0+(i:Int)).toNat=i by omega];cases e:cG p (cs.getD i []) 0 wq with
      | none =>
        rw[show jJ none=iq from rfl];rfl';show _=cj _ (cj _ (il _ (bo (i+1))));rw[pC,nP,uY (by rw[e];simp)];simp
      | some O =>
        rw[show jJ (some O)=eA [.int O.1, .int O.2] from rfl];rfl';show _=cj _ (cj _ (il _ (bo (i+1))));rw[pC,nP,tH (by rw[e];rfl)];simp
    rintro ds hl' rfl;have l:((bo ((cs.map e7).length:Int).toNat).filter λc=>(cG p (cs.getD c []) 0 wq).isSome)=outs p cs wq:=by unfold outs;rw[iu];rfl
    rw[l];rfl';refine⟨shaped_ints _,⋯,?_⟩;show∃b,mi (dE (.list (((outs p cs wq).map λ(j:Nat)=>(j:Int)).map a4)) (.list []) !=false)= .bool b/\_;rw[ZH];cases D:outs p cs wq with
    | nil =>
      rfl';refine fin _ ?_;rw[R,D];rfl
    | cons c r =>
      rfl';refine⟨.int (c:Int),iE ∅ rfl,?_⟩;rfl';refine fin _ ?_;rw[R,D];rfl
  · rw[decide_eq_false c]
    rfl';refine fin _ ?_;unfold kr;rw[if_pos c]
    rfl
def Cd:DF:=λds Φ=>∃(p:Int) (cs:List aA) (wd:Wo) (ms:List bf) (ls:List Int),ds=[bE p wd.length cs,bI wd, .tuple [.list (ms.map cz), .list (ls.map .int)]]/\dZ p cs wd.length/\dU wd/\1<=wd.length/\wd.length<=400/\ms.length<=400/\ls.length<=400/\Φ true (.bool true)
theorem Ki:cM Cd:=by
 intro ds Φ Ψ hm z;revert hm;walk_at "mo";exact λq=>z _ _ q
theorem Gk{n:Nat}(x:Str)(k:Int):jh (n+2) (.tuple [.str x, .int k]):= .inr ⟨_, .inr rfl,by show 2<=10000;omega,λe he=>by
 simp only[aK,cC,or_false] at he;rcases he with rfl|rfl<;>exact .inl rfl⟩
theorem WR{n:Nat}{p:Int}{cs:List aA}{wd:Wo}{ms:List bf}{left:List Int}{d:PyData}(h:nI p cs wd ms left d):jh (n+2) d:=by
 rcases h with ⟨i,m,x,_,_,_,rfl⟩|⟨_,rfl⟩
 .exact Gk _ _
 .unfold kr;split;·exact Gk _ _
  split;·exact .inl rfl
  .exact Gk _ _
theorem nN:bH ["bag","net","word","due","mends","left","part","step","at","parts","fault"] ["bag","net","word","due"] (aE E3):=⟨rfl,rfl,rfl,by decide+kernel,rfl,by decide+kernel,by decide+kernel⟩
theorem Hb(F:bA K "_law_spoilt_right" "_law_spoilt_right" E3 f fd)(B:Callee P w K mg base "_law_draw" 2 ["bag","many"] kH)(X:Callee P w K mg base "_law_due" 3 ["net","word","mends","left"] (aU 4 Ce))(N:Callee P w K mg base "_law_alike" 7 ["found","due"] (aU 2 (qf 7)))(E5:Callee P w K mg base "paper_fault" 6 ["net","word","paper"] (aU 3 zT))(FA:Callee P w K mg base "_law_copy" 1 ["net"] (aU 1 zf))(bY:mg "list"=none)(bh:mg "len"=none):
  aW P w K mg base bu 8 f fd ["bag","net","word","due"] (fP 4 Cd):=by
 refine F.ok nN (λvs H Q E h=>h.1) (λcdv A outer s H vs Q E hr h=>?_);obtain⟨b,l,ws,nb,ds,Φ,rfl,O,g,W,u,I,M⟩:=mK h;obtain⟨p,cs,wd,ms,ls,rfl,hN,hW,hw0,Z,G,hl1,q⟩:=M;refine⟨_,(@ao _ _ _ _ _ (Yo (i:=4) (j:=5) rfl nN.nd rfl rfl ⋯ rfl rfl (@aa _ _ _ _ _ (@iB _ _ _ _ _ _ _ _ (iS K) jW rfl bY iR (@aa _ _ _ _ _ (@au _ _ _ _ _ _ (aT K) aV (pv 3) aj (λ_ _=>rfl)) af rfl) ⋯ ⋯ (by rfl) (by rfl)) (@aa _ _ _ _ _ (@iB _ _ _ _ _ _ _ _ (iS K) jW rfl bY iR (@aa _ _ _ _ _ (@au _ _ _ _ _ _ (aT K) aV (pv 3) aj (λ_ _=>rfl)) af rfl) ⋯ ⋯ (by rfl) (by rfl)) af rfl) rfl) rfl) (@ao _ _ _ _ _ (@aJ _ _ (6) _ _ _ _ nN.nd rfl (ay rfl) (@aD _ _ _ _ _ _ _ _ _ _ B (hr.mono ⋯) (@aa _ _ _ _ _ (pv 0) (@aa _ _ _ _ _ aj af rfl) rfl) (by rfl) ⋯ (by rfl) (by rfl)) (by rfl) (by first|exact .inl rfl|exact .inr rfl|assumption)) (@ao _ _ _ _ _ (@aJ _ _ (7) _ _ _ _ nN.nd rfl (ay rfl) (@au _ _ _ _ _ _ (bG K) aX (@eV _ _ _ _ (@aa _ _ _ _ _ aj (@aa _ _ _ _ _ (@mX _ _ _ _ _ _ nY aj) (@aa _ _ _ _ _ aj af rfl) rfl) rfl)) (@aD _ _ _ _ _ _ _ _ _ _ B (hr.mono ⋯) (@aa _ _ _ _ _ (pv 0) (@aa _ _ _ _ _ aj af rfl) rfl) (by rfl) ⋯ (by rfl) (by rfl)) (λ_ _=>rfl)) (by rfl) (by first|exact .inl rfl|exact .inr rfl|assumption)) (@ao _ _ _ _ _ (@cy _ _ _ _ _ _ _ _ (PW.pt (kC (@aS _ _ _ _ _ _ _ _ iA (pv 6) aj (aQ _)) (lC (@aS _ _ _ _ _ _ _ _ (Bt hr.units) (pv 4) (@eV _ _ _ _ af) (aQ _))))) (@aC _ _ _ (@aJ _ _ (5) _ _ _ _ nN.nd rfl (ay rfl) (@aG _ _ _ _ _ _ _ _ p8 (pv 5) (@eV _ _ _ _ (@aa _ _ _ _ _ (@aD _ _ _ _ _ _ _ _ _ _ B (hr.mono ⋯) (@aa _ _ _ _ _ (pv 0) (@aa _ _ _ _ _ (@au _ _ _ _ _ _ (aT K) aV (pv 1) aj (λ_ _=>rfl)) af rfl) rfl) (by rfl) ⋯ (by rfl) (by rfl)) af rfl))) (by rfl) (by first|exact .inl rfl|exact .inr rfl|assumption))) (@ao _ _ _ _ _ (@aJ _ _ (8) _ _ _ _ nN.nd rfl (ay rfl) (@aD _ _ _ _ _ _ _ _ _ _ B (hr.mono ⋯) (@aa _ _ _ _ _ (pv 0) (@aa _ _ _ _ _ (@bX _ _ _ _ _ _ _ _ (eX K) gk rfl bh fE (@aa _ _ _ _ _ (pv 4) af rfl) ⋯ ⋯ (by rfl) (by rfl)) af rfl) rfl) (by rfl) ⋯ (by rfl) (by rfl)) (by rfl) (by first|exact .inl rfl|exact .inr rfl|assumption)) (@ao _ _ _ _ _ (@aJ _ _ (9) _ _ _ _ nN.nd rfl (ay rfl) (@iB _ _ _ _ _ _ _ _ (iS K) jW rfl bY iR (@aa _ _ _ _ _ (@au _ _ _ _ _ _ (bG K) aX (pv 4) (pv 8) (λ_ _=>rfl)) af rfl) ⋯ ⋯ (by rfl) (by rfl)) (by rfl) (by first|exact .inl rfl|exact .inr rfl|assumption)) (@ao _ _ _ _ _ (@gD _ _ _ _ _ _ (@aG _ _ _ _ _ _ _ _ eU (@au _ _ _ _ _ _ (bG K) aX (pv 9) (pv 6) (λ_ _=>rfl)) (pv 7)) (jx (pv 9) (pv 6) set_list) (by rfl) (by rfl) (by rfl)) (@aC _ _ _ (@gD _ _ _ _ _ _ (@bQ _ _ _ _ _ (@aa _ _ _ _ _ (@au _ _ _ _ _ _ (bG K) aX (pv 9) aj (λ_ _=>rfl)) (@aa _ _ _ _ _ (@au _ _ _ _ _ _ (bG K) aX (pv 9) aj (λ_ _=>rfl)) (@aa _ _ _ _ _ (@au _ _ _ _ _ _ (bG K) aX (pv 9) aj (λ_ _=>rfl)) af rfl) rfl) rfl)) (jx (pv 4) (pv 8) set_list) (by rfl) (by rfl) (by rfl))))))) (@ao _ _ _ _ _ (@aJ _ _ (10) _ _ _ _ nN.nd rfl (ay rfl) (@aD _ _ _ _ _ _ _ _ _ _ X (hr.mono ⋯) (@aa _ _ _ _ _ (pv 1) (@aa _ _ _ _ _ (pv 2) (@aa _ _ _ _ _ (pv 4) (@aa _ _ _ _ _ (pv 5) af rfl) rfl) rfl) rfl) (by rfl) ⋯ (by rfl) (by rfl)) (by rfl) (by first|exact .inl rfl|exact .inr rfl|assumption)) (@aC _ _ _ (@aM _ _ _ _ (@aD _ _ _ _ _ _ _ _ _ _ N (hr.mono ⋯) (@aa _ _ _ _ _ (@aD _ _ _ _ _ _ _ _ _ _ E5 (hr.mono ⋯) (@aa _ _ _ _ _ (@aD _ _ _ _ _ _ _ _ _ _ FA (hr.mono ⋯) (@aa _ _ _ _ _ (pv 1) af rfl) (by rfl) ⋯ (by rfl) (by rfl)) (@aa _ _ _ _ _ (@iB _ _ _ _ _ _ _ _ (iS K) jW rfl bY iR (@aa _ _ _ _ _ (pv 2) af rfl) ⋯ ⋯ (by rfl) (by rfl)) (@aa _ _ _ _ _ (@bQ _ _ _ _ _ (@aa _ _ _ _ _ (pv 4) (@aa _ _ _ _ _ (pv 5) af rfl) rfl)) af rfl) rfl) rfl) (by rfl) ⋯ (by rfl) (by rfl)) (@aa _ _ _ _ _ (pv 10) af rfl) rfl) (by rfl) ⋯ (by rfl) (by rfl))))))))),?_⟩;refine Sv.mE O g W u I (ρ:=[.az, .d false _, .d false _, .d false _, .no, .no, .no, .no, .no, .no, .no]) rfl ?_;clear I u;have D:(ms.map cz).length=ms.length:=ak ..;refine Sv.seq (Sv.SQ (aq.listOf ?_));rfl';intro A;rfl';intro t t1 t2;rfl';intro s s1 s2;obtain⟨step,z,-⟩:=pick (L:=[1,-1,2]) (k:=s) s1 (by show _<(3:Int);omega) (λx=>True) (by simp);refine⟨_,rfl,_,z,?_⟩;refine Gv.name ?_;refine Sv.seq ?_;refine Sv.sS (λC=>∃(y:List bf) (o:List Int) (V J R:Bool) (n Y:Sl),y.length<=400/\o.length<=401/\C=[.az, .d false (bE p wd.length cs), .d false (bI wd), .d false (.tuple [.list (ms.map cz), .list (ls.map .int)]), .own A V (y.map cz), .d J (.list (o.map .int)), .d true (.int t), .d R (.int step),n,Y, .no]) ?_ ?_
 .refine Sv.kP (Tv.or ?_);have left:∀(E:DE) (V J:Bool) (n Y U:Sl),True:=λ_ _ _ _ _ _=>trivial;by_cases c:t=3
  .rfl';intro r r1 r2;rfl';refine⟨by rw[ak];show _+1<=_;omega,?_⟩;refine Gv.kW ?_;exact⟨ms,ls++[r],_,_,_,_,_,G,by rw[cK];show _+1<=_;omega,by rw[cI];rfl⟩
  generalize hT:(sV (dM (w4 false) _ _):TT)=T;rfl';subst hT;refine Tv.lend 4 rfl ?_;rfl';refine⟨Mx _,Oc,_,rfl,?_⟩;rw[mP,JF];by_cases c2:ms=[]
  .rw[decide_eq_true c2];rfl';intro r r1 r2;rfl';refine⟨by rw[ak];show _+1<=_;omega,?_⟩;refine Gv.kW ?_;exact⟨ms,ls++[r],_,_,_,_,_,G,by rw[cK];show _+1<=_;omega,by rw[cI];rfl⟩
  rw[decide_eq_false c2];have hml:0<ms.length:=vf.mpr c2;rfl';refine λa a1 a2=>?_;have S:a.toNat<ms.length:=∅
  have Lh:bC (ms.map cz) a=some (cz ms[a.toNat]):=iE ∅ (by rw[cY,bw S];rfl);generalize ms[a.toNat]=m at Lh;refine Gv.qm ?_;refine Sv.seq (Sv.uJ (aq.listOf ?_));rfl';intro A9;obtain⟨v,hv⟩:∃v,bC [a4 m.1, .int m.2.1, .int m.2.2] t=some (.int v):=by
   rcases(show t=0\/t=1\/t=2 by omega) with rfl|rfl|rfl
   .exact⟨_,rfl⟩
   .exact⟨_,rfl⟩
   .exact⟨_,rfl⟩
  obtain⟨m',hm'⟩:∃m':bf,[a4 m.1, .int m.2.1, .int m.2.2].set t.toNat (.int (v+step))=[a4 m'.1, .int m'.2.1, .int m'.2.2]:=by
   rcases(show t=0\/t=1\/t=2 by omega) with rfl|rfl|rfl
   .exact⟨(v+step,m.2.1,m.2.2),rfl⟩
   .exact⟨(m.1,v+step,m.2.2),rfl⟩
   .exact⟨(m.1,m.2.1,v+step),rfl⟩
  rfl';refine⟨t,t.toNat,rfl,su t1 (by show t<3;omega),?_⟩;rw[hm'];rfl';refine⟨a,a.toNat,rfl,su a1 (by rw[ak];omega),?_⟩;exact⟨ms.set a.toNat m',ls,_,_,_,_,_,by rw[jd];exact G,∅,by rw[uy];rfl⟩
 rintro C ⟨y,o,V,J,R,n,Y,hm',hl',rfl⟩;refine Sv.seq ?_;refine Sv.asg (Ev.pV Ol ?_);refine cQ.cons ?_;rfl';refine cQ.cons ?_;rfl';refine cQ.own rfl ?_;refine cQ.cons ?_;rfl';refine cQ.nil ?_;refine⟨rfl,p,cs,wd,y,o,rfl,hN,hW,∅,∅,λd hd=>⟨.inl rfl,?_⟩⟩;refine Gv.name ?_;refine Sv.qR 4 rfl ?_;rfl';refine Ev.cZ (p9 7) ?_;rfl';refine Ev.cZ MX ?_;rfl';refine Ev.cZ Jv ?_;rfl';refine⟨rfl,p,wd.length,cs,rfl,by have:=hN.2.2.1;omega,λfc=>?_⟩;rfl';refine⟨rfl,p,wd.length,cs,wd,y,o,rfl,hN,hW,∅,λe he=>?_⟩;rfl';rw[nI.uniq he hd];exact⟨rfl,d,rfl,WR hd,q⟩
def D8:DF:=λds Φ=>∃(p:Int) (cs:List aA) (wd:Wo),ds=[bE p wd.length cs,bI wd]/\dZ p cs wd.length/\1<=wd.length/\wd.length<=400/\cs.length<=400/\(∀x,some x∈wd->0<=x/\x<p)/\Φ true (.bool true)
theorem Hm:cM D8:=by
 intro ds Φ Ψ hm z;revert hm;walk_at "mo";exact λq=>z _ _ q
theorem UA{n:Nat}(ns:List Int)(h:ns.length<=10000):jh (n+2) (.list (ns.map .int)):= .inr ⟨_, .inl rfl,by rw[ak];exact h,λe he=>by
 obtain⟨o,_,rfl⟩:=dG.mp he;exact .inl rfl⟩
theorem TN{n:Nat}(wd:Wo)(h:wd.length<=10000):jh (n+2) (bI wd):= .inr ⟨_, .inl rfl,by rw[ak];exact h,λe he=>by
 obtain⟨o,_,rfl⟩:=dG.mp he;cases o<;>exact .inl rfl⟩
theorem yk{n:Nat}{ds:List PyData}(hl:ds.length<=10000)(h:∀e∈ds,jh n e):jh (n+1) (.tuple ds):= .inr ⟨_, .inr rfl,hl,h⟩
theorem vI{n:Nat}{ds:List PyData}(hl:ds.length<=10000)(h:∀e∈ds,jh n e):jh (n+1) (.list ds):= .inr ⟨_, .inl rfl,hl,h⟩
theorem Qv{n:Nat}(p k:Int)(cs:List aA)(h:cs.length<=10000)(hp:∀prs∈cs,prs.length<=10000):jh (n+5) (bE p k cs):=by
 refine yk (by show 3<=10000;omega) λe he=>?_;simp only[aK,cC,or_false] at he;rcases he with rfl|rfl|rfl
 .exact .inl rfl
 .exact .inl rfl
 refine vI (by rw[ak];exact h) λe he=>?_;obtain⟨prs,hm,rfl⟩:=dG.mp he;refine vI (by rw[ak];exact hp prs hm) λe he=>?_;obtain⟨pr,_,rfl⟩:=dG.mp he;refine yk (by show 2<=10000;omega) λe he=>?_;simp only[aK,cC,or_false] at he;rcases he with rfl|rfl<;>exact .inl rfl
theorem RJ{n:Nat}(ms:List bf)(h:ms.length<=10000):jh (n+3) (.list (ms.map cz)):=by
 refine vI (by rw[ak];exact h) λe he=>?_;obtain⟨m,_,rfl⟩:=dG.mp he;refine yk (by show 3<=10000;omega) λe he=>?_;simp only[aK,cC,or_false] at he;rcases he with rfl|rfl|rfl<;>exact .inl rfl
theorem mD:bH ["bag","net","word","now","rounds","mends","some","due","handed","found"] ["bag","net","word"] (aE zg):=⟨rfl,rfl,rfl,by decide+kernel,rfl,by decide+kernel,by decide+kernel⟩
theorem YS(F:bA K "_law_paper_right" "_law_paper_right" zg f fd)(aao:Callee P w K mg base "_law_rounds" 3 ["net","word"] (aU 2 Cw))(OU:Callee P w K mg base "paper_of" 9 ["net","word"] (BA 2 uh))(FA:Callee P w K mg base "_law_copy" 1 ["net"] (aU 1 zf))(abI:Callee P w K mg base "_law_spoilt_right" 8 ["bag","net","word","due"] (fP 4 Cd))(N:Callee P w K mg base "_law_alike" 7 ["found","due"] (aU 2 (qf 7)))(E5:Callee P w K mg base "paper_fault" 6 ["net","word","paper"] (aU 3 zT))(SD:Callee P w K mg base "read_paper" 5 ["text"] (BA 1 AQ))(abW:Callee P w K mg base "paper_text" 3 ["paper"] (aU 1 Dm))(bY:mg "list"=none)(bh:mg "len"=none)(bF:mg "range"=none):
    aW P w K mg base bu 10 f fd ["bag","net","word"] (fP 3 D8):=by
  refine F.ok mD (λvs H Q E h=>h.1) (λcdv A outer s H vs Q E hr h=>?_);obtain⟨b,l,ws,nb,ds,Φ,rfl,O,g,W,u,I,M⟩:=mK h;obtain⟨p,cs,wd,rfl,hN,hw0,Z,U,zc,q⟩:=M;refine⟨_,(@ao _ _ _ _ _ (@gD _ _ _ _ _ _ (@aD _ _ _ _ _ _ _ _ _ _ aao (hr.mono ⋯) (@aa _ _ _ _ _ (pv 1) (@aa _ _ _ _ _ (pv 2) af rfl) rfl) (by rfl) ⋯ (by rfl) (by rfl)) (@i9 _ (K) _ _ _ (2) _ rfl rfl (@cF _ _ _ _ _ (aO (i:=3) mD.nd rfl (ei rfl)) (@cF _ _ _ _ _ (aO (i:=4) mD.nd rfl (ay rfl)) iN (by rfl)) (by rfl)) (by rfl) (by rfl)) (by rfl) (by rfl) (by rfl)) (@ao _ _ _ _ _ (@aJ _ _ (5) _ _ _ _ mD.nd rfl (ay rfl) (@eV _ _ _ _ af) (by rfl) (by first|exact .inl rfl|exact .inr rfl|assumption)) (@ao _ _ _ _ _ (@iT _ _ _ _ _ _ _ _ gW rfl (gx (K:=K) rfl (pv 4)) (aO (i:=6) mD.nd rfl (ay rfl)) (@aC _ _ _ (@aJ _ _ (5) _ _ _ _ mD.nd rfl (ay rfl) (@aG _ _ _ _ _ _ _ _ p8 (pv 5) (pv 6)) (by rfl) (by first|exact .inl rfl|exact .inr rfl|assumption))) (by intro _;rfl)) (@ao _ _ _ _ _ (@aJ _ _ (7) _ _ _ _ mD.nd rfl (ay rfl) (@bQ _ _ _ _ _ (@aa _ _ _ _ _ (pv 5) (@aa _ _ _ _ _ (gC (dw.of (show dO (aE zg) ["bag","net","word","now","rounds","mends","some","due","handed","found"] _ ["place","now"] [none,some 3]=true by decide+kernel)) (@iH _ _ _ _ _ _ rfl bF (@aa _ _ _ _ _ (@au _ _ _ _ _ _ (aT K) aV (pv 1) aj (λ_ _=>rfl)) af rfl) (by rfl)) (λ_ _ _ _=>⟨(aO (i:=0) (by show bp (["place","now"]:List Str);decide+kernel) rfl (ay rfl)),(mz (@aS _ _ _ _ _ _ _ _ oS (@au _ _ _ _ _ _ (bG K) aX (pv 1) (pv 0) (λ_ _=>rfl)) fk (aQ _))),(pv 0)⟩)) af rfl) rfl)) (by rfl) (by first|exact .inl rfl|exact .inr rfl|assumption)) (@ao _ _ _ _ _ (@aJ _ _ (8) _ _ _ _ mD.nd rfl (ay rfl) (@eV _ _ _ _ (@aa _ _ _ _ _ (@aD _ _ _ _ _ _ _ _ _ _ FA (hr.mono ⋯) (@aa _ _ _ _ _ (pv 1) af rfl) (by rfl) ⋯ (by rfl) (by rfl)) (@aa _ _ _ _ _ (@iB _ _ _ _ _ _ _ _ (iS K) jW rfl bY iR (@aa _ _ _ _ _ (pv 2) af rfl) ⋯ ⋯ (by rfl) (by rfl)) af rfl) rfl)) (by rfl) (by first|exact .inl rfl|exact .inr rfl|assumption)) (@ao _ _ _ _ _ (@aJ _ _ (9) _ _ _ _ mD.nd rfl (ay rfl) (@aD _ _ _ _ _ _ _ _ _ _ OU (hr.mono ⋯) (@aa _ _ _ _ _ (@au _ _ _ _ _ _ (bG K) aX (pv 8) aj (λ_ _=>rfl)) (@aa _ _ _ _ _ (@au _ _ _ _ _ _ (bG K) aX (pv 8) aj (λ_ _=>rfl)) af rfl) rfl) (by rfl) ⋯ (by rfl) (by rfl)) (by rfl) (by first|exact .inl rfl|exact .inr rfl|assumption)) (@ao _ _ _ _ _ (@cy _ _ _ _ _ _ _ _ (PW.pt (kC (@nu _ _ _ _ (@kD _ (K) _ _ rfl (@aD _ _ _ _ _ _ _ _ _ _ N (hr.mono ⋯) (@aa _ _ _ _ _ (pv 9) (@aa _ _ _ _ _ (pv 7) af rfl) rfl) (by rfl) ⋯ (by rfl) (by rfl)) (λ_=>rfl))) (lC (@nu _ _ _ _ (@kD _ (K) _ _ rfl (@aD _ _ _ _ _ _ _ _ _ _ N (hr.mono ⋯) (@aa _ _ _ _ _ (pv 8) (@aa _ _ _ _ _ (@eV _ _ _ _ (@aa _ _ _ _ _ (pv 1) (@aa _ _ _ _ _ (pv 2) af rfl) rfl)) af rfl) rfl) (by rfl) ⋯ (by rfl) (by rfl)) (λ_=>rfl)))))) (@aC _ _ _ (@aM _ _ _ _ mO)) cJ) (@ao _ _ _ _ _ (@cy _ _ _ _ _ _ _ _ (PW.pt (kC (@aS _ _ _ _ _ _ _ _ l7 (@aD _ _ _ _ _ _ _ _ _ _ E5 (hr.mono ⋯) (@aa _ _ _ _ _ (@au _ _ _ _ _ _ (bG K) aX (pv 8) aj (λ_ _=>rfl)) (@aa _ _ _ _ _ (@au _ _ _ _ _ _ (bG K) aX (pv 8) aj (λ_ _=>rfl)) (@aa _ _ _ _ _ (pv 9) af rfl) rfl) rfl) (by rfl) ⋯ (by rfl) (by rfl)) fk (aQ _)) (lC (@nu _ _ _ _ (@kD _ (K) _ _ rfl (@aD _ _ _ _ _ _ _ _ _ _ N (hr.mono ⋯) (@aa _ _ _ _ _ (@aD _ _ _ _ _ _ _ _ _ _ SD (hr.mono ⋯) (@aa _ _ _ _ _ (@aD _ _ _ _ _ _ _ _ _ _ abW (hr.mono ⋯) (@aa _ _ _ _ _ (pv 9) af rfl) (by rfl) ⋯ (by rfl) (by rfl)) af rfl) (by rfl) ⋯ (by rfl) (by rfl)) (@aa _ _ _ _ _ (pv 7) af rfl) rfl) (by rfl) ⋯ (by rfl) (by rfl)) (λ_=>rfl)))))) (@aC _ _ _ (@aM _ _ _ _ mO)) cJ) (@ao _ _ _ _ _ (@cy _ _ _ _ _ _ _ _ (@nu _ _ _ _ (@kD _ (K) _ _ rfl (@aD _ _ _ _ _ _ _ _ _ _ abI (hr.mono ⋯) (@aa _ _ _ _ _ (pv 0) (@aa _ _ _ _ _ (pv 1) (@aa _ _ _ _ _ (pv 2) (@aa _ _ _ _ _ (pv 7) af rfl) rfl) rfl) rfl) (by rfl) ⋯ (by rfl) (by rfl)) (λ_=>rfl))) (@aC _ _ _ (@aM _ _ _ _ mO)) cJ) (@ao _ _ _ _ _ (@rC _ _ _ _ (j8 qy ux ug rj (@au _ _ _ _ _ _ (aT K) aV (pv 9) aj (λ_ _=>rfl)) (@aa _ _ _ _ _ (@bQ _ _ _ _ _ (@Ba _ _ _ rfl)) af rfl)) (by rfl)) (@ao _ _ _ _ _ (@cy _ _ _ _ _ _ _ _ (@aS _ _ _ _ _ _ _ _ iw (@bX _ _ _ _ _ _ _ _ (eX K) gk rfl bh fE (@aa _ _ _ _ _ (@au _ _ _ _ _ _ (aT K) aV (pv 9) aj (λ_ _=>rfl)) af rfl) ⋯ ⋯ (by rfl) (by rfl)) (@bX _ _ _ _ _ _ _ _ (eX K) gk rfl bh fE (@aa _ _ _ _ _ (@au _ _ _ _ _ _ (aT K) aV (pv 7) aj (λ_ _=>rfl)) af rfl) ⋯ ⋯ (by rfl) (by rfl)) (aQ _)) (@aC _ _ _ (@aM _ _ _ _ mO)) cJ) (@ao _ _ _ _ _ (@rC _ _ _ _ (j8 qy ux ug rj (@au _ _ _ _ _ _ (aT K) aV (pv 9) aj (λ_ _=>rfl)) (@aa _ _ _ _ _ aj af rfl)) (by rfl)) (@aC _ _ _ (@aM _ _ _ _ (@MU _ _ _ _ _ _ _ (@oM _ _ _ _ _ _ _ _ iA (@bX _ _ _ _ _ _ _ _ (eX K) gk rfl bh fE (@aa _ _ _ _ _ (@au _ _ _ _ _ _ (aT K) aV (pv 9) aj (λ_ _=>rfl)) af rfl) ⋯ ⋯ (by rfl) (by rfl)) (@aG _ _ _ _ _ _ _ _ eU (@bX _ _ _ _ _ _ _ _ (eX K) gk rfl bh fE (@aa _ _ _ _ _ (@au _ _ _ _ _ _ (aT K) aV (pv 7) aj (λ_ _=>rfl)) af rfl) ⋯ ⋯ (by rfl) (by rfl)) aj) (aQ _)) (@LZ _ _ _ _ _ (@aD _ _ _ _ _ _ _ _ _ _ N (hr.mono ⋯) (@aa _ _ _ _ _ (@aD _ _ _ _ _ _ _ _ _ _ OU (hr.mono ⋯) (@aa _ _ _ _ _ (@au _ _ _ _ _ _ (bG K) aX (pv 8) aj (λ_ _=>rfl)) (@aa _ _ _ _ _ (@au _ _ _ _ _ _ (bG K) aX (pv 8) aj (λ_ _=>rfl)) af rfl) rfl) (by rfl) ⋯ (by rfl) (by rfl)) (@aa _ _ _ _ _ (pv 7) af rfl) rfl) (by rfl) ⋯ (by rfl) (by rfl)))))))))))))))))),?_⟩;refine Sv.mE O g W u I (ρ:=[.az, .d false _, .d false _, .no, .no, .no, .no, .no, .no, .no]) rfl ?_;clear I u;have p2:=hN.1.1;have qQ:=hN.2.1;have hW:dU wd:=λx hx=>by have:=zc x hx;unfold Sm;omega
  have hfl:=JV (p:=p) (cs:=cs) (wd:=wd) ∅ hN.rg;have mZ:=Zo (fG p cs wd);have hel:=Mq (p:=p) (cs:=cs) (wd:=wd);obtain⟨EH,-,-,Y,-⟩:=Ob (p:=p) (cs:=cs) (wd:=wd) ∅ hN.rg;rfl';refine Ev.cZ MM ?_;rfl';refine⟨rfl,p,cs,wd,rfl,hN,hW,∅,λC=>?_⟩;generalize z:(pD (qD _ _ _) _:TS)=tl;rfl';intro A5;subst z;refine Sv.qR 5 rfl ?_;refine Sv.seq ?_;refine Sv.forL (Ev.var rfl ⟨_,rfl,λv=>?_⟩);refine⟨λi ρ=>∃(T V f5:Bool) (y:Sl),ρ=[.az, .d false (bE p wd.length cs), .d false (bI wd), .d T (bI (fG p cs wd)), .d V (.list ((cX p cs wd).map dS)), .d f5 (.list (((cX p cs wd).take i).flatten.map cz)),y, .no, .no, .no],⟨_,_,_,_,rfl⟩,?_,?_⟩
  · rintro i d ρ hd ⟨T,V,f5,y,rfl⟩
    obtain⟨r,hr,rfl⟩:=fB hd;have J:((cX p cs wd).take (i+1)).flatten.length<=(cX p cs wd).flatten.length:=by
      conv=>rhs;rw[<-jX (i+1) (cX p cs wd),HC,cK]
      omega
    have e2:((cX p cs wd).take (i+1)).flatten=((cX p cs wd).take i).flatten++r:=by rw[Bf hr];simp
    rw[e2,cK] at J;refine Gv.kW ?_;rfl';refine⟨by rw[ak,ak];omega,?_⟩;refine Gv.kW ?_;show∃(T V f5:Bool) (y:Sl),(_:Rh)=[.az, .d false (bE p wd.length cs), .d false (bI wd), .d T (bI (fG p cs wd)), .d V (.list ((cX p cs wd).map dS)), .d f5 (.list (((cX p cs wd).take (i+1)).flatten.map cz)),y, .no, .no, .no];rw[e2,cI];exact⟨_,_,_,_,rfl⟩
  rintro ρ ⟨T,V,f5,y,rfl⟩;rw[ak,fW];generalize t:(cX p cs wd).flatten=ms at*;rfl';generalize Bl:fG p cs wd=we at*;refine aq.ev (aq.kI ⋯ rfl ?_);rfl';refine⟨true,λi ds=>ds=(om we i).map .int,rfl,?_,?_⟩
  · rintro i d ds ⟨hi,rfl⟩ hl' rfl
    obtain⟨o,D,S⟩:=uI (xs:=we) bS (k:=0+(i:Int)) (m:=we.length) ∅ ∅ rfl;rw[show(0+(i:Int)).toNat=i by omega] at D;have hls:=Yj we i;rw[D] at hls;rfl';refine⟨by walk_at "wk",?_⟩;rfl';rw[rM];cases o with
    | none =>
      rfl';rw[if_pos rfl] at hls;show _=(om we (i+1)).map a4;rw[hls,cI,show 0+(i:Int)=i by omega]
      rfl
    | some x =>
      rfl';rw[if_neg (by simp)] at hls;show _=(om we (i+1)).map a4;rw[hls]
  rintro ds hl' rfl;have X:om we ((wd.length:Int)).toNat=jl we:=by rw[show((wd.length:Int)).toNat=we.length by omega];rfl
  rw[X];generalize n5:jl we=ls at*;generalize z:(pD (gE (gm (BA 2 uh) [] E0 _) _) _:TS)=tl;rfl';refine Ev.cZ Jv ?_;rfl';refine⟨rfl,p,wd.length,cs,rfl,∅,λfc=>?_⟩;rfl';subst z;refine Sv.seq (Sv.Tj Jg ?_);rfl';refine⟨rfl,p,wd.length,cs,wd,rfl,hN,hW,∅,λc B a1 n0 n1 n2 nd=>?_⟩;rw[t,Bl,n5];have DG:=Fy (ms:=ms) (ls:=ls) n0 n1 n2;have iu:ms.length<=400:=∅
  have Hu:ls.length<=400:=∅
  have GF:jh 7 (.tuple [.list (ms.map cz), .list (ls.map .int)]):=yk (by show 2<=10000;omega) λe he=>by
    rcases aK.mp he with rfl|he
    · exact RJ _ ∅
    · rw[br.mp he];exact UA _ ∅
  refine Sv.seq (Sv.kP (Tv.Gr 9 rfl DG (Tv.or ?_)));rfl';refine Ev.cZ (p9 7) ?_;rfl';refine⟨rfl,_,rfl,GF,_,rfl,?_⟩;rw[if_neg ⋯];have Sx:jh 7 (.list [bE p wd.length cs,bI wd]):=vI (by show 2<=10000;omega) λe he=>by
    rcases aK.mp he with rfl|he
    · exact Qv (n:=1) _ _ _ ∅ λprs h=>by have:=(hN.2.2.2 prs h).1;omega
    · rw[br.mp he];exact TN _ ∅
  rfl';refine Ev.cZ (p9 7) ?_;rfl';refine⟨rfl,_,rfl,Sx,_,rfl,?_⟩;rw[if_neg ⋯];refine Sv.next ?_
  refine Sv.seq (Sv.kP (Tv.Gr 9 rfl DG (Tv.or ?_)));rfl';refine Ev.cZ MX ?_;rfl';refine⟨rfl,p,wd.length,cs,wd,ms,ls,rfl,hN,hW,∅,λd hd=>?_⟩
  have a:d= .none:=nI.uniq hd (.inr ⟨EH,by
    have e:A4 wd ms=we:=by rw[<-t,<-Bl];rfl
    rw[e];unfold kr;rw[n5,if_neg (by simp),Y]
    rfl⟩)
  subst a;rfl';refine Ev.cZ (p9 7) (Av.cons (Ev.Iq VX (Av.cons (Ev.cZ Fq ?_))));rfl';have hbm:∀m∈ms,∀n∈[m.1,m.2.1,m.2.2],n.natAbs<10^60:=λm hm n hn=>by
    obtain⟨j,hj,e⟩:=LP.mp hm;obtain⟨m',e1,e2⟩:=EH j hj;rw[bw hj,e] at e1;cases e1;have U0:=qA (i:=j) hN hW λj' h=>EH j' ∅;have Ef:dZ p cs (A4 wd (ms.take j)).length:=by rw[iy];exact hN
    obtain⟨b1,b2,b3,b4,b5,b6⟩:=AO Ef U0 e2;rw[iy] at b2;have h60:(10:Int)^40<=10^60:=⋯
    simp only[aK,cC,or_false] at hn;rcases hn with rfl|rfl|rfl<;>omega
  have An:∀n∈ls,n.natAbs<10^60:=λn hn=>by
    rw[<-n5] at hn;obtain⟨b1,b2⟩:=Sn.mp hn;have:=(bT.mp b2).1;omega
  refine⟨rfl,ms,ls,rfl,⟨iu,Hu,hbm,An⟩,?_⟩;rfl';refine⟨rfl,ms,ls,rfl,iu,Hu,hbm,An,λc' Ul a1' G z2 z3=>⟨c',_,rfl,Fy G z2 z3,?_⟩⟩;rfl';refine⟨rfl,_,rfl,GF,_,rfl,?_⟩;rw[if_neg ⋯];refine Sv.next ?_
  refine Sv.seq (Sv.kP (Tv.Gr 9 rfl DG ?_));rfl';refine Ev.iO Ki rfl ?_;rfl';refine⟨rfl,p,cs,wd,ms,ls,rfl,hN,hW,hw0,Z,iu,Hu,_,rfl,?_⟩;rw[if_neg ⋯];refine Sv.next ?_
  have k0:(g9 c B a1 ms ls).lookup c=some (.tup [.own B, .own a1]):=by unfold g9;simp
  have k1:(g9 c B a1 ms ls).lookup B=some (.lst ((ms.map cz).map .dat)):=by unfold g9;rw[bJ,beq_false_of_ne n0.symm];simp
  have k2:(g9 c B a1 ms ls).lookup a1=some (.lst ((ls.map a4).map .dat)):=by unfold g9;rw[bJ,beq_false_of_ne n1.symm];show ed a1 [_,_]=_;rw[bJ,beq_false_of_ne n2.symm];simp
  generalize g9 c B a1 ms ls=L at*;generalize z:(pD (vE (sV (dM wj _ _)) _ _) _:TS)=tl;refine Sv.seq (Sv.Ic (i:=9) rfl (iU.mh (i:=9) rfl (iU.root rfl (Ev.int ⟨0,_,_,rfl,k0,rfl,_,k1,by rw[ak,ak];omega,?_⟩))));rfl';subst z;have R:(j7 L B (.lst ((ms.map cz).map .dat++[.dat (.tuple [.int 0, .int 0, .int 0])]))).lookup c=some (.tup [.own B, .own a1]):=(uF n0).trans k0;have m1:(j7 L B (.lst ((ms.map cz).map .dat++[.dat (.tuple [.int 0, .int 0, .int 0])]))).lookup B=some (.lst ((ms.map cz).map .dat++[.dat (.tuple [.int 0, .int 0, .int 0])])):=Iz (vd k1);have m2:(j7 L B (.lst ((ms.map cz).map .dat++[.dat (.tuple [.int 0, .int 0, .int 0])]))).lookup a1=some (.lst ((ls.map a4).map .dat)):=(uF n2.symm).trans k2;have J8:((ls.map a4).map Oi.dat).length=ls.length:=by rw[ak,ak]
  refine Sv.seq (Sv.kP (Tv.test (Ev.ne ?_)));refine Ev.MV (i:=9) rfl (iU.mh (i:=9) rfl (iU.root rfl (Ev.int ⟨1,_,_,rfl,R,rfl,_, .inl m2,?_⟩)));rw[J8];generalize z:(kY (EI _ _):TS)=tl;rfl';rw[if_neg (by rw[ak];simp)];refine Sv.next ?_
  refine Sv.seq ?_;refine Sv.Ic (i:=9) rfl (iU.mh (i:=9) rfl (iU.root rfl (Ev.int ⟨1,_,_,rfl,R,rfl,_,m2,by rw[J8];omega,?_⟩)));rfl';subst z;refine Sv.ret (Ev.KQ (Ev.eq ?_));refine Ev.MV (i:=9) rfl (iU.mh (i:=9) rfl (iU.root rfl (Ev.int ⟨0,_,_,rfl,(uF n1).trans R,rfl,_, .inl ((uF n2).trans m1),?_⟩)));rw[cK,ak,ak];generalize z:(gm _ _ _ _:TE)=tl;rfl';subst z;rw[if_pos (decide_eq_true (by rw[ak];rfl))];refine Ev.cZ (p9 7) ?_;refine Av.cons (Ev.Iq Jg ?_);rfl';refine⟨rfl,p,wd.length,cs,wd,rfl,hN,hW,∅,λc' Ul a1' G z2 z3=>⟨c', .tuple [.list (ms.map cz), .list (ls.map .int)],rfl,by rw[t,Bl,n5];exact Fy G z2 z3,?_⟩⟩;rfl';exact⟨rfl,_,rfl,GF,q⟩
def B9(p:Int)(cs:List aA)(wd:Wo):Prop:=dZ p cs wd.length/\1<=wd.length/\wd.length<=400/\cs.length<=400/\∀x,some x∈wd->0<=x/\x<p
theorem nQ:bH ["script","bag","net","word","other","more","one","some"] ["script"] (aE l8):=⟨rfl,rfl,rfl,by decide+kernel,rfl,by decide+kernel,by decide+kernel⟩
theorem YM(F:bA K "law" "law" l8 f fd)(I:Callee P w K mg base "_law_bag" 1 ["script"] (Nc K))(HN:Callee P w K mg base "_law_case" 5 ["bag"] (fP 1 FH))(Rp:Callee P w K mg base "_law_paper_right" 10 ["bag","net","word"] (fP 3 D8))(gV:mg "int"=none):
  aW P w K mg base bu 11 f fd ["script"] (AF K):=by
 refine F.ok nQ (λvs H Q E h=>?_) (λcdv A outer s H vs Q E hr h=>?_)
 .obtain⟨a,ns,rfl,U,hl,q⟩:=h
  rfl
 obtain⟨a,ns,rfl,U,hl,q⟩:=h;refine⟨_,(@ao _ _ _ _ _ (@aJ _ _ (1) _ _ _ _ nQ.nd rfl (ay rfl) (@aD _ _ _ _ _ _ _ _ _ _ I (hr.mono ⋯) (@aa _ _ _ _ _ (pv 0) af rfl) (by rfl) ⋯ (by rfl) (by rfl)) (by rfl) (by first|exact .inl rfl|exact .inr rfl|assumption)) (@ao _ _ _ _ _ (@gD _ _ _ _ _ _ (@aD _ _ _ _ _ _ _ _ _ _ HN (hr.mono ⋯) (@aa _ _ _ _ _ (pv 1) af rfl) (by rfl) ⋯ (by rfl) (by rfl)) (@i9 _ (K) _ _ _ (2) _ rfl rfl (@cF _ _ _ _ _ (aO (i:=2) nQ.nd rfl (ay rfl)) (@cF _ _ _ _ _ (aO (i:=3) nQ.nd rfl (ay rfl)) iN (by rfl)) (by rfl)) (by rfl) (by rfl)) (by rfl) (by rfl) (by rfl)) (@ao _ _ _ _ _ (@gD _ _ _ _ _ _ (@o9 _ _ _ _ _ _ _ _ (@aS _ _ _ _ _ _ _ _ rm (@au _ _ _ _ _ _ (aT K) aV (pv 2) aj (λ_ _=>rfl)) aj (aQ _)) (@aD _ _ _ _ _ _ _ _ _ _ HN (hr.mono ⋯) (@aa _ _ _ _ _ (pv 1) af rfl) (by rfl) ⋯ (by rfl) (by rfl)) (@bQ _ _ _ _ _ (@aa _ _ _ _ _ (pv 2) (@aa _ _ _ _ _ (pv 3) af rfl) rfl))) (@i9 _ (K) _ _ _ (2) _ rfl rfl (@cF _ _ _ _ _ (aO (i:=4) nQ.nd rfl (ay rfl)) (@cF _ _ _ _ _ (aO (i:=5) nQ.nd rfl (ay rfl)) iN (by rfl)) (by rfl)) (by rfl) (by rfl)) (by rfl) (by rfl) (by rfl)) (@ao _ _ _ _ _ (@iT _ _ _ _ _ _ _ _ gW rfl (gx (K:=K) rfl (@lZ _ _ _ _ _ _ _ _ _ (kN K) nZ (@eV _ _ _ _ (@aa _ _ _ _ _ (@bQ _ _ _ _ _ (@aa _ _ _ _ _ (pv 2) (@aa _ _ _ _ _ (pv 3) af rfl) rfl)) (@aa _ _ _ _ _ (@bQ _ _ _ _ _ (@aa _ _ _ _ _ (pv 4) (@aa _ _ _ _ _ (pv 5) af rfl) rfl)) (@aa _ _ _ _ _ (@bQ _ _ _ _ _ (@aa _ _ _ _ _ (pv 2) (@aa _ _ _ _ _ (pv 3) af rfl) rfl)) af rfl) rfl) rfl)) mT (@mH _ _ _ (@au _ _ _ _ _ _ (bG K) aX (@eV _ _ _ _ (@aa _ _ _ _ _ aj (@aa _ _ _ _ _ aj af rfl) rfl)) (@iB _ _ _ _ _ _ _ _ _ HK rfl gV uH (@aa _ _ _ _ _ (@oM _ _ _ _ _ _ _ _ GC (@au _ _ _ _ _ _ (aT K) aV (pv 2) aj (λ_ _=>rfl)) aj (aQ _)) af rfl) ⋯ ⋯ (by rfl) (by rfl)) (λ_ _=>rfl))))) (@i9 _ (K) _ _ _ (2) _ rfl rfl (@cF _ _ _ _ _ (aO (i:=6) nQ.nd rfl (ay rfl)) (@cF _ _ _ _ _ (aO (i:=7) nQ.nd rfl (ay rfl)) iN (by rfl)) (by rfl)) (by rfl) (by rfl)) (@aC _ _ _ (@cy _ _ _ _ _ _ _ _ (@nu _ _ _ _ (@kD _ (K) _ _ rfl (@aD _ _ _ _ _ _ _ _ _ _ Rp (hr.mono ⋯) (@aa _ _ _ _ _ (pv 1) (@aa _ _ _ _ _ (pv 6) (@aa _ _ _ _ _ (pv 7) af rfl) rfl) rfl) (by rfl) ⋯ (by rfl) (by rfl)) (λ_=>rfl))) (@aC _ _ _ (@aM _ _ _ _ mO)) cJ)) (by intro _;rfl)) (@aC _ _ _ (@aM _ _ _ _ mO)))))),?_⟩;walk_at "st";refine⟨a,ns,rfl,U,hl,λb l H1 s1 Y B1=>?_⟩;have qT:=s1.seq U;have key:∀(t:TS) (D:Ends),(∀H,D.rt (.bl true) H)->Sv (FJ b l H1) [.raw (.ref a), .az, .no, .no, .no, .no, .no, .no] t {nx:=λ_=>False,rt:=λ_ d=>d= .bool true}->t D [some (.ref a),some (.ref b),none,none,none,none,none,none] H1:=λt D X h=>h _ _ _ D (Q8 (m:=6) B1) (IS X);refine R.Nu ?_;dsimp only;refine key _ _ (λH=>?_) ?_;·exact q _
 generalize z:(pD (gE (Hv _ _ _) _) _:TS)=tl;rfl';refine Ev.iO Jb rfl ?_;rfl';refine⟨rfl,λp cs wd f hN S L c1 zc=>?_⟩;rfl';subst z;refine Sv.seq ?_;refine Sv.sS (λC=>∃(p2:Int) (n:List aA) (j:Wo) (G T V J:Bool),B9 p2 n j/\C=[.raw (.ref a), .az, .d G (bE p wd.length cs), .d T (bI wd), .d V (bE p2 j.length n), .d J (bI j), .no, .no]) ?_ ?_
 .by_cases c:(wd.length:Int)<40
  .rfl';refine Ev.iO Jb rfl ?_;rfl';refine⟨rfl,λp2 n j G Ef M QJ O Wq=>?_⟩;rfl';exact⟨p2,n,j,_,_,_,_,⟨Ef,M,QJ,O,Wq⟩,rfl⟩
  .rfl';show mW _ _ _ _ [bE p wd.length cs,bI wd] _;rfl';exact⟨p,cs,wd,_,_,_,_,⟨hN,S,L,c1,zc⟩,rfl⟩
 rintro C ⟨p2,n,j,G,T,V,J,ho2,rfl⟩;have u:B9 p cs wd:=⟨hN,S,L,c1,zc⟩;refine Sv.seq ?_;refine Sv.forL (Ev.sl ?_);rfl';obtain⟨k,hk,Va⟩:∃k:Int,bC [a4 3, .int 1] (if decide (40<=(wd.length:Int))=true then 1 else 0)=some (.int k)/\(k=3\/k=1):=by
  split;·exact⟨1,rfl, .inr rfl⟩
  .exact⟨3,rfl, .inl rfl⟩
 have hsub:∀(A B:PyData) (i:Nat) d,(g7 [A,B,A] none (some k))[i]?=some d->d=A\/d=B:=λA B i d e=>by
  have hm:=fQ e;rcases Va with rfl|rfl
  .have hm:d∈[A,B,A]:=hm;simp only[aK,cC,or_false] at hm;rcases hm with h|h|h<;>simp[h]
  .have hm:d∈[A]:=hm;exact .inl (br.mp hm)
 refine⟨_,hk,k,rfl,_,rfl,λv=>⟨λi ρ=>∃y Z:Sl,ρ=[.raw (.ref a), .az, .d G (bE p wd.length cs), .d T (bI wd), .d V (bE p2 j.length n), .d J (bI j),y,Z],⟨_,_,rfl⟩,?_,?_⟩⟩
 .rintro i d ρ hd ⟨y,Z,rfl⟩;obtain⟨o,x,r,⟨g1,g2,N,g,W⟩,rfl⟩:∃(o:Int) (x:List aA) (r:Wo),B9 o x r/\d= .tuple [bE o r.length x,bI r]:=by
   rcases hsub _ _ i d hd with h|h
   .exact⟨p,cs,wd,u,h⟩
   .exact⟨p2,n,j,ho2,h⟩
  clear hsub hd;rfl';refine Ev.iO Hm rfl ?_;rfl';refine⟨rfl,o,x,r,rfl,g1,g2,N,g,W,?_⟩;rfl';exact⟨_,_,rfl⟩
 rintro ρ ⟨y,Z,rfl⟩;rfl';exact rfl
end
local macro_rules| `(tactic|walk_at "bn")=> `(tactic|(intro _ _ _ _ _ _ us hl;first|(obtain⟨_,h⟩:=Nk hl;subst h;rfl)|(obtain⟨_,_,h⟩:=ln2 hl;subst h;rfl)|(obtain⟨_,_,_,h⟩:=La hl;subst h;rfl)|(obtain⟨_,_,_,_,h⟩:=Ib hl;subst h;rfl)|(obtain⟨_,_,_,_,_,h⟩:=QE hl;subst h;rfl)|(obtain⟨_,_,_,_,_,_,h⟩:=ln6 hl;subst h;rfl)|(obtain⟨_,_,_,_,_,_,_,h⟩:=ln7 hl;subst h;rfl)))
theorem all_mk:WI:=by
 intro l w K h mg fa f0 f1 f2 f3 f4 f5 f6 f7 f8 f9 Of Jc Kh OP LW PR PZ Ij Ip IM Qf M5 Pu Na MY I0 Pq JJ Kz Nr OT Kl f32 Nd Nt KY Nf N9 OF M9 PJ NN Ak q8 rZ qB sA X G HU Mm CV NQ P9 GQ Ct GB vS DI PK MC Od Qo LJ K5 MH EU N6 HB Qn KO M1 PM MT Pb CO OY NC ON Pp IC Jd NG Mi CN HG Jf JP IW J7 Lk PD Le FE L1 bB w6 zq zU xZ wg yU z5 mF jy d0 d1 d2 d3 d4 d5 d6 d7 d8 d9 zL vF xO AN zC yF wz vH yy zD yJ wH Ac wV yN Aq AY xN vU xo xm AZ vJ xM AU vP AH A7 ya yt xS zP AK zZ yO wR yV xx zu Aw zy zO w5 vO yv tE zE xU ye vp uw zA vn xH zM t9 vX wM vR xQ Ae Ah yg xR zX xA wo yY zd zv Ax xW vq AR zj;have e:=HU.symm.trans (bD X G AK);cases e;obtain⟨B,_,p⟩:=d0;have b0:=p.binds (ps:=["p","a","b"]) (by walk_at "bn");obtain⟨a1,_,f⟩:=d1;have b1:=f.binds (ps:=["p","b"]) (by walk_at "bn");obtain⟨a2,_,O⟩:=d2;have b2:=O.binds (ps:=["p","pairs","word"]) (by walk_at "bn");obtain⟨g,_,S⟩:=d3;have b3:=S.binds (ps:=["word"]) (by walk_at "bn");obtain⟨m,_,M⟩:=d4;have b4:=M.binds (ps:=["net","word","c"]) (by walk_at "bn");obtain⟨c,_,i⟩:=d5;have b5:=i.binds (ps:=["p","pairs","rest","word"]) (by walk_at "bn");obtain⟨a6,_,F6⟩:=d6;have b6:=F6.binds (ps:=["net","word"]) (by walk_at "bn");obtain⟨a7,_,t⟩:=d7;have b7:=t.binds (ps:=["net"]) (by walk_at "bn");obtain⟨a8,_,U⟩:=d8;have b8:=U.binds (ps:=["net","word"]) (by walk_at "bn");obtain⟨a9,_,F9⟩:=d9;have b9:=F9.binds (ps:=["first","others"]) (by walk_at "bn");obtain⟨T,_,n⟩:=zL;have SK:=n.binds (ps:=["row","first"]) (by walk_at "bn");obtain⟨a11,_,Gb⟩:=vF;have SE:=Gb.binds (ps:=["row","first"]) (by walk_at "bn");obtain⟨ZC,_,H⟩:=xO;have Yh:=H.binds (ps:=["text"]) (by walk_at "bn");obtain⟨WU,_,B8⟩:=AN;have RX:=B8.binds (ps:=["text","most"]) (by walk_at "bn");obtain⟨XM,_,Gy⟩:=zC;have b14:=Gy.binds (ps:=["net","word"]) (by walk_at "bn");obtain⟨Xc,_,N⟩:=yF;have YO:=N.binds (ps:=["word","rounds"]) (by walk_at "bn");obtain⟨R,_,E⟩:=wz;have b16:=E.binds (ps:=["net","word","paper"]) (by walk_at "bn");obtain⟨YY,_,o⟩:=vH;have b17:=o.binds (ps:=["net","letters","mend"]) (by walk_at "bn");obtain⟨q,_,C6⟩:=yy;have b18:=C6.binds (ps:=["paper"]) (by walk_at "bn");obtain⟨WZ,_,I⟩:=zD;have b19:=I.binds (ps:=["first","numbers"]) (by walk_at "bn");obtain⟨Zn,_,A⟩:=yJ;have UM:=A.binds (ps:=["text"]) (by walk_at "bn");obtain⟨XS,_,u⟩:=wH;have b21:=u.binds (ps:=["row"]) (by walk_at "bn");obtain⟨Wr,_,En⟩:=Ac;have b22:=En.binds (ps:=["script"]) (by walk_at "bn");obtain⟨WC,_,r⟩:=wV;have RH:=r.binds (ps:=["bag","many"]) (by walk_at "bn");obtain⟨S8,_,Fi⟩:=yN;have Xi:=Fi.binds (ps:=["bag","many"]) (by walk_at "bn");obtain⟨b,_,a⟩:=Aq;have oB:=a.binds (ps:=["found","due"]) (by walk_at "bn");obtain⟨Xl,_,F⟩:=AY;have b26:=F.binds (ps:=["number"]) (by walk_at "bn");obtain⟨a27,_,DJ⟩:=xN;have b27:=DJ.binds (ps:=["bag"]) (by walk_at "bn");obtain⟨y,_,V⟩:=vU;have b28:=V.binds (ps:=["p","a","b"]) (by walk_at "bn");obtain⟨Q,_,L⟩:=xo;have V0:=L.binds (ps:=["p","pairs","word"]) (by walk_at "bn");obtain⟨Yp,_,GY⟩:=xm;have Yg:=GY.binds (ps:=["bag","p","n"]) (by walk_at "bn");obtain⟨Vi,_,x⟩:=AZ;have b31:=x.binds (ps:=["bag","p","word","wide"]) (by walk_at "bn");obtain⟨D,_,J⟩:=vJ;have b32:=J.binds (ps:=["bag","p","word","many","wide"]) (by walk_at "bn");obtain⟨WV,_,Y⟩:=xM;have Uj:=Y.binds (ps:=["bag","word"]) (by walk_at "bn");obtain⟨Th,_,Bs⟩:=AU;have Xq:=Bs.binds (ps:=["net"]) (by walk_at "bn");obtain⟨YR,_,BZ⟩:=vP;have UE:=BZ.binds (ps:=["net","word","c"]) (by walk_at "bn");obtain⟨XQ,_,BO⟩:=AH;have Vo:=BO.binds (ps:=["net","word"]) (by walk_at "bn");obtain⟨Sa,_,Fc⟩:=A7;have UZ:=Fc.binds (ps:=["bag","p","n"]) (by walk_at "bn");obtain⟨ZQ,_,Fw⟩:=ya;have Wv:=Fw.binds (ps:=["bag"]) (by walk_at "bn");obtain⟨Z,_,B0⟩:=yt;have Uo:=B0.binds (ps:=["net","word","mends","left"]) (by walk_at "bn");obtain⟨a40,_,z⟩:=xS;have Q4:=z.binds (ps:=["bag","net","word","due"]) (by walk_at "bn");obtain⟨VQ,_,C⟩:=zP;have ZL:=C.binds (ps:=["bag","net","word"]) (by walk_at "bn");have Xy:=qI (st:=l8) zZ yO wR;have Ld:=qI (st:=rR) zu Aw zy;have TV:=Ld.binds (ps:=["self","net","word"]) (by walk_at "bn");have Jy:=qI (st:=qX) vO yv tE;have Y0:=Jy.binds (ps:=["self"]) (by walk_at "bn");have Ls:=qI (st:=qz) ye vp uw;have SA:=Ls.binds (ps:=["self"]) (by walk_at "bn");have Nh:=qI (st:=qi) xH zM t9;have Zu:=Nh.binds (ps:=["self"]) (by walk_at "bn");have j:fR K bB:=⟨zq,zU,xZ,wg⟩;have G8:=ja X G vX;have jO:=ja X G wM;have kZ:=ja X G vR;have rK:=ja X G xQ;have gV:=ja X G Ae;have ig:=ja X G Ah;have bh:=ja X G yg;have bY:=ja X G xR;have EM:=ja X G zX;have bF:=ja X G xA;have EN:=ja X G wo;have mw:=ja X G yY;have jG:=ja X G zd;have E7:=ja X G zv;have lu:=ja X G Ax;have GX:=bD X G vq;have BU:=bD X G zj;refine⟨PySem.W.fnOf "law" "law" (kT l8) (jZ l8) (aE l8) .none GQ Ct GB CV vS DI,λs v=> .of_eq rfl,λbase _ _=>?_⟩;have Ux:=Callee.mk' f (ZY (P:=l.prog) (w:=w) (base:=base) f) b1 (bD X G a1);have X5:=Callee.mk' p (Kx (P:=l.prog) (w:=w) (base:=base) p Ux) b0 (bD X G B);have Ur:=Callee.mk' O (L5 (P:=l.prog) (w:=w) (base:=base) O) b2 (bD X G a2);have P1:=Callee.mk' S (E4 (P:=l.prog) (w:=w) (base:=base) S rK) b3 (bD X G g);have aaS:=Callee.mk' i (Ih (P:=l.prog) (w:=w) (base:=base) i X5 Ur bh) b5 (bD X G c);have B4:=Callee.mk' M (ZK (P:=l.prog) (w:=w) (base:=base) M aaS) b4 (bD X G m);have abf:=Callee.mk' F6 (Ze (P:=l.prog) (w:=w) (base:=base) F6 B4 bF bh mw) b6 (bD X G a6);have Y7:=Callee.mk' t (TZ (P:=l.prog) (w:=w) (base:=base) t bY) b7 (bD X G a7);have adn:n6 l.prog w K mg base bB "step" 6 ["self"] (iZ 1 (uz bB)):=⟨j,rZ,_,BM (P:=l.prog) (w:=w) (base:=base) Jy j mF jy abf,Y0,⟨zO,w5,tE⟩⟩;have Sw:n6 l.prog w K mg base bB "mend" 7 ["self"] (iZ 1 (sD bB)):=⟨j,qB,_,TF (P:=l.prog) (w:=w) (base:=base) Ls adn,SA,⟨zE,xU,uw⟩⟩;have d:n6 l.prog w K mg base bB "word" 1 ["self"] (iZ 1 (tS bB)):=⟨j,sA,_,F1 (P:=l.prog) (w:=w) (base:=base) Nh j jy bY,Zu,⟨zA,vn,t9⟩⟩;have Xn:Dl l.prog w K mg base bB "Mender" 2 ["self","net","word"] (iZ 3 (uA bB)):=⟨q8,_,Y5 (P:=l.prog) (w:=w) (base:=base) Ld j mF jy Y7 bY,TV,⟨yU,yV,xx,z5⟩,bD X G w6⟩;have ZU:=Callee.mk' U (RY (P:=l.prog) (w:=w) (base:=base) U Sw d Xn) b8 (bD X G a8);have Sg:=Callee.mk' F9 (SO (P:=l.prog) (w:=w) (base:=base) F9) b9 (bD X G a9);have Wb:=Callee.mk' B8 (BD (P:=l.prog) (w:=w) (base:=base) B8 gV bh jO BU) RX (bD X G WU);have Yl:=Callee.mk' H (KA (P:=l.prog) (w:=w) (base:=base) H Wb GX) Yh (bD X G ZC);have TY:=Callee.mk' Gb (F7 (P:=l.prog) (w:=w) (base:=base) Gb) SE (bD X G a11);have Ir:=Callee.mk' n (Za (P:=l.prog) (w:=w) (base:=base) n Yl TY) SK (bD X G T);have abO:=Callee.mk' N (RE (P:=l.prog) (w:=w) (base:=base) N P1) YO (bD X G Xc);have Z1:=Callee.mk' Gy (RB (P:=l.prog) (w:=w) (base:=base) Gy ZU abO) b14 (bD X G XM);have W6:=Callee.mk' o (QU (P:=l.prog) (w:=w) (base:=base) o B4 bh) b17 (bD X G YY);have JG:=Callee.mk' E (Vz (P:=l.prog) (w:=w) (base:=base) E W6 P1 B4 bY rK bF bh) b16 (bD X G R);have XR:=Callee.mk' I (DD (P:=l.prog) (w:=w) (base:=base) I Sg jG) b19 (bD X G WZ);have ads:=Callee.mk' C6 (Zb (P:=l.prog) (w:=w) (base:=base) C6 XR) b18 (bD X G q);have Zi:=Callee.mk' u (Ys (P:=l.prog) (w:=w) (base:=base) u Ir bh) b21 (bD X G XS);have Yx:=Callee.mk' A (Z0 (P:=l.prog) (w:=w) (base:=base) A Zi Ir) UM (bD X G Zn);have RZ:=Callee.mk' En (RN (P:=l.prog) (w:=w) (base:=base) En G8) b22 (bD X G Wr);have YZ:=Callee.mk' r (IB (P:=l.prog) (w:=w) (base:=base) r bF) RH (bD X G WC);have oR:=Callee.mk' Fi (CW (P:=l.prog) (w:=w) (base:=base) Fi YZ bh) Xi (bD X G S8);have aaI:=Callee.void (P:=l.prog) (w:=w) (base:=base) (k:=0) (sp:=aU 2 (qf 0)) a oB (bD X G b) Vw;have Uh:=Callee.mk' a (pB (P:=l.prog) (w:=w) (base:=base) 0 a aaI ig bY lu jO bh kZ gV jG bF) oB (bD X G b);have acL:=Callee.mk' a (pB (P:=l.prog) (w:=w) (base:=base) 1 a Uh ig bY lu jO bh kZ gV jG bF) oB (bD X G b);have Sy:=Callee.mk' a (pB (P:=l.prog) (w:=w) (base:=base) 2 a acL ig bY lu jO bh kZ gV jG bF) oB (bD X G b);have WX:=Callee.mk' a (pB (P:=l.prog) (w:=w) (base:=base) 3 a Sy ig bY lu jO bh kZ gV jG bF) oB (bD X G b);have S4:=Callee.mk' a (pB (P:=l.prog) (w:=w) (base:=base) 4 a WX ig bY lu jO bh kZ gV jG bF) oB (bD X G b);have SN:=Callee.mk' a (pB (P:=l.prog) (w:=w) (base:=base) 5 a S4 ig bY lu jO bh kZ gV jG bF) oB (bD X G b);have Wt:=Callee.mk' a (pB (P:=l.prog) (w:=w) (base:=base) 6 a SN ig bY lu jO bh kZ gV jG bF) oB (bD X G b);have J6:=Wt;have QW:=Callee.mk' F (FI (P:=l.prog) (w:=w) (base:=base) F bF) b26 (bD X G Xl);have Ut:=Callee.mk' DJ (US (P:=l.prog) (w:=w) (base:=base) DJ oR QW) b27 (bD X G a27);have Gd:=Callee.mk' V (Zs (P:=l.prog) (w:=w) (base:=base) V) b28 (bD X G y);have ND:=Callee.mk' L (Qz (P:=l.prog) (w:=w) (base:=base) L E7) V0 (bD X G Q);have VA:=Callee.mk' GY (Sj (P:=l.prog) (w:=w) (base:=base) GY oR bF gV EM) Yg (bD X G Yp);have Sk:=Callee.mk' x (FO (P:=l.prog) (w:=w) (base:=base) x ND oR Gd bh mw EN bF) b31 (bD X G Vi);have YQ:=Callee.mk' J (UD (P:=l.prog) (w:=w) (base:=base) J Sk bh bF) b32 (bD X G D);have Wx:=Callee.mk' Y (UX (P:=l.prog) (w:=w) (base:=base) Y oR) Uj (bD X G WV);have HS:=Callee.mk' Bs (Rr (P:=l.prog) (w:=w) (base:=base) Bs bY) Xq (bD X G Th);have IE:=Callee.mk' BZ (Y8 (P:=l.prog) (w:=w) (base:=base) BZ Gd ND bh) UE (bD X G YR);have UY:=Callee.mk' BO (Z4 (P:=l.prog) (w:=w) (base:=base) BO IE bY bF bh mw) Vo (bD X G XQ);have Vn:=Callee.mk' Fc (VO (P:=l.prog) (w:=w) (base:=base) Fc oR Gd bF) UZ (bD X G Sa);have XJ:=Callee.mk' Fw (Tf (P:=l.prog) (w:=w) (base:=base) Fw Ut VA YQ oR Vn Wx bF) Wv (bD X G ZQ);have YV:=Callee.mk' B0 (SS (P:=l.prog) (w:=w) (base:=base) B0 IE bY bF bh) Uo (bD X G Z);have R3:=Callee.mk' z (Hb (P:=l.prog) (w:=w) (base:=base) z oR YV J6 JG HS bY bh) Q4 (bD X G a40);have Sb:=Callee.mk' C (YS (P:=l.prog) (w:=w) (base:=base) C UY Z1 HS R3 J6 JG Yx ads bY bh bF) ZL (bD X G VQ);exact YM Xy RZ XJ Sb gV
end K97
end
section
open PySem PySem.W PyProof.Rows
theorem PySem.Challenge.cw_fewchecks_k97_whole_papers_of_rounds_holds : PySem.Challenge.rw_fewchecks_k97_whole_papers_of_rounds.Holds := by
 w_on
 o_law
 k_head
 (case hw=>w_witness2)
 k_fill
 refine K97.walk (l:=PySem.Challenge.rw_fewchecks_k97_whole_papers_of_rounds) rfl rfl (λw h Y=>PySem.W.kIn_of Y) ?F
 case F=>
  intro w mg fa h KX G hmg
  refine' K97.all_mk KX G hmg ..
  any_goals first|(refine' L2.aF.mk ..;any_goals k_is)|k_is
end
