import PyProof.Rows.All
import Wide.All
import OpenK.AllK
import Wide.FinOn
import Lean
import PyProof.EqAt
import PyProof.EqKinds
import PyProof.TupleCall
import PySem.Challenge.RW_fewchecks_k98_whole_answers
set_option Elab.async false
set_option linter.all false
set_option maxHeartbeats 0
set_option maxRecDepth 100000
set_option compiler.extract_closed false
section
local macro_rules | `(tactic| omega) => `(tactic| first | lia | omega (config := {}))
local macro_rules|`(∅)=>`(by omega)
local macro_rules|`(⋯)=>`(by decide)
local macro_rules | `(tactic| rfl') => `(tactic| walk_at "dt")
open And renaming intro->FD
open Array renaming length_toList->dS,toList_append->fS,size_extract->gK,getElem?_toList->jK,toList_push->l6,getElem?_eq_getElem->mj,size_append->nV,getElem?_eq_some_iff->qX,size_push->uC,mem_toList_iff->z9,size_reverse->yI,getD_eq_getD_getElem?->GV,getElem?_push->Kv,getElem?_eq_none->EH,toList_reverse->CT,mem_of_getElem?->EF,append_empty->C8,toList_modify->EO,getElem?_append->Nc,getElem?_extract_of_lt->Qz,toList_setIfInBounds->Tr,getElem?_extract->M3,append_assoc->nf,toList_map->qs,size_map->vi,toList->xf
open Bool renaming false_ne_true->cC,and_eq_true->fQ,eq_iff_iff->lq,false_eq_true->l8,not_eq_true'->rS,eq_false_iff->tE,or_false->tU,false_or->vX,not_true->uO,true_or->wu,true_and->EC,not_eq_true->rf,not_false->uj,bne_false->vq,bne_true->xc
open Char renaming toNat->gq
open Classical renaming byContradiction->jm,choose_spec->LK,choose->q5
open False renaming elim->eo
open ForInStep renaming yield->dE,done->kl
open Function renaming comp_def->oL
open Int renaming emod_nonneg->i7,emod_lt_of_pos->iY,mul_assoc->ki,mul_ediv_add_emod->mD,mul_comm->mJ,mul_sub->m8,zero_mul->se,mul_le_mul_of_nonneg_left->v5,mul_le_mul->t8,mul_one->Cp,ediv_nonneg->zF,sub_mul->zC,mul_add->Co,natAbs_dvd_natAbs->xZ,emod_eq_of_lt->xy,mul_zero->BV,natAbs_mul->JU,add_mul->DV,eq_ofNat_of_zero_le->HU,le_of_dvd->Ej,natCast_add->JC,sub_zero->Ir,ediv_le_self->Hw,mul_le_mul_of_nonneg_right->KW,emod_eq_zero_of_dvd->Ls,gcd_eq_zero_iff->Q6,gcd->lM,mul_emod_right->og,gcd_dvd_right->oY,lt_trichotomy->o3,toNat_natCast->ph,emod_add_emod->pq,gcd_dvd_left->q3,natCast_mul->sk,toNat->tz,mul_nonneg->tJ,le_of_lt->xn,add_zero->xI,le_trans->x9,one_mul->A9,mul_neg->Bh
open Lean renaming mkIdent->kf
open List renaming length_map->ak,mem_cons->aK,getElem?_eq_getElem->aS,mem_singleton->aY,map_cons->aZ,map_append->bh,mem_map->bH,getElem?_set_ne->bO,mem_of_getElem?->bP,getElem?_eq_some_iff->bV,lookup_cons->cA,mem_cons_of_mem->cF,length_append->cH,mem_cons_self->cP,getElem?_map->cS,not_mem_nil->cU,length_cons->cZ,getElem?_set_self->dB,take_length->dQ,size_toArray->eU,append_assoc->fj,mem_append->fO,append_nil->fW,getElem_mem->fU,length_singleton->gQ,getElem?_append_left->gW,getElem?_replicate->iF,nodup_cons->iT,getElem?_append_right->iK,getD_eq_getElem?_getD->i9,map_map->je,mem_filter->jw,length_set->jx,cons_append->jk,map_nil->jU,getElem?_of_mem->jS,mem_append_right->kc,take_append_drop->kK,mem_range->lY,all_eq_true->lU,length_take->mX,set_set->mS,getElem?_cons_succ->mV,flatten_cons->nh,perm_append_comm->ny,all_cons->oJ,ext_getElem?->pG,length_eq_zero_iff->pF,getElem?_eq_none->pS,find?_cons->o9,filterMap_cons->r6,mem_append_left->rO,length_drop->rF,any_cons->sD,any_eq_true->rL,take_of_length_le->sN,sum_cons->rV,filter_append->sA,filter_cons_of_pos->tK,filter_cons_of_neg->qY,flatMap_cons->rN,nodup_append->tX,length_range->uw,drop_eq_getElem_cons->uc,drop_zero->vK,length_filter_le->vS,range_succ->wJ,flatten_nil->uL,mem_flatMap->wV,pairwise_map->xW,length_pos_iff->BR,flatten_append->Ab,ne_nil_of_length_pos->yR,mem_filterMap->FL,of_mem_zip->Fb,take_add_one->Dt,sum_append->HG,pairwise_iff_getElem->JD,length_eraseIdx_of_lt->D0,length_nil->Jb,drop_of_length_le->Dj,reverse_perm->Ho,mem_of_mem_take->Jj,map_congr_left->Jg,getElem_map->JM,any_map->Dm,mem_or_eq_of_mem_set->G5,nil_append->Il,map_set->Jo,getElem?_take_of_lt->Tn,length_replicate->LD,filterMap_cons_some->Nq,getElem?_toArray->L6,range_succ_eq_map->Tw,set_append_right->RV,eraseIdx_append_of_length_le->L0,getElem?_append->Ox,length_pos_of_mem->SV,flatMap_append->OA,filter_eq_nil_iff->QF,pairwise_append->QC,replicate_succ'->Ti,mem_iff_getElem->RG,dropLast_sublist->Nm,dropLast_concat_getLast->MZ,getLast_eq_getElem->Ln,eq_nil_of_length_eq_zero->SA,exists_cons_of_ne_nil->S0,eq_of_mem_replicate->NC,Nodup->bT,map->cf,replicate->cq,range->cv,take->dA,lookup->et,length->gO,zipWith->ix,set_cons_zero->n4,pairwise_cons->oe,take_sublist->ot,reverse_cons->oT,foldl_append->pb,map_dropLast->px,ext_getElem->ql,countP_cons->q7,mem_flatten->rh,foldl_cons->tj,take_succ->vb,take_take->vc,filter->Cy,drop->Fn
open List.Nodup renaming length_le_of_subset->HX
open List.Pairwise renaming nil->Ep
open List.Perm renaming append_left->m9,refl->Kl,append_right->Gj,trans->ti,swap->FK,cons->FR
open List.cons renaming inj->t7
open Nat renaming le_refl->aH,le_trans->eu,ne_of_lt->eS,zero_le->eT,le_of_lt->eZ,lt_of_lt_of_le->fJ,le_of_eq->jf,lt_irrefl->kE,mul_mod->oh,lt_succ_of_lt->pQ,mul_le_mul_right->oA,lt_succ_self->pX,ne_of_gt->sr,le_succ->sf,mod_lt->rD,lt_of_le_of_ne->sQ,sub_one_lt_of_le->sG,lt_trans->uT,add_zero->vO,div_add_mod->uG,mul_assoc->vM,mul_comm->wA,lt_of_le_of_lt->yT,lt_trichotomy->Ag,sub_self->zu,lt_of_succ_lt->Ac,sub_pos_of_lt->zZ,pow_add->Ba,le_of_not_lt->Ez,log2_lt->IZ,lt_or_eq_of_le->En,pos_of_ne_zero->JV,lt_of_lt_of_eq->IW,min_eq_left->HW,succ_le_succ->EG,zero_add->IT,mul_one->Hj,zero_mul->Im,mod_mod->Jc,mod_mod_of_dvd->HA,one_mul->HY,le_of_dvd->G4,toDigits_of_lt_base->EA,le_of_ble_eq_true->DA,add_sub_cancel'->Tz,dvd_of_mod_eq_zero->M5,toDigits_append_toDigits->To,toDigits->de,Coprime->lL,le_add_right->qx,mod_eq_of_lt->qC,lt_of_not_le->qJ,strongRecOn->tq,mul_le_mul->vk,add_assoc->w7,lt_or_ge->xk,mul_zero->xp,pow_succ->xt,pow_zero->xv,pow_mul->Bz,pow_mod->BM,gcd->B2,add_mul->C0
open Nat.Coprime renaming pow_left->yY
open Nat.succ renaming inj->zd
open Ne renaming symm->cO
open Option renaming some_ne_none->gy,map_eq_some_iff->lH,isSome_iff_exists->D4,isSome_map->Dq,isNone_iff_eq_none->LX,none->jT,getD_none->qk,map_some->sh
open Option.some renaming inj->iI,injEq->EE
open Or renaming inl->cm,inr->fx
open PyProof.Rows renaming boot_str->j5,boot_list->uY,callWith_type1->BO,boot_all->FW,boot_sorted->Ik,boot_int->JS,boot_sum->Ld,Keyed->ba,wpS_pure->be,wpS_bind->bg,SortSt->bp,arrOf->cn,wpS_forRange->dg,oneType'->dO,IntsAre->eI,elem'->eL,wpS_mono->fv,wpS_modify->gd,firstMet->hH,failedOf->jh,wpS_get->j3,setPending->ky,pairsOf->lB,seqObj->l4,subscriptTail_builtinR->ma,AllBare->mf,wpS_lift->mv,pairsOf_toList->mB,subscriptTail->nr,firstMet_succ->nC,listUpdate_at->n7,envOfC->pN,callWith_builtin1->pY,mem_zip_self->p4,pairsOf_size->qa,boot_isinstance->rn,entry_list_sort->tf,seqEpoch_at->tm,slot_list_sort->uk,args_list_sort->uM,sortedHeap_old->va,sortedHeap_at->wL,gallopOf->wU,boot_abs->x6,boot_min->x7,boot_set->x8,boot_max->yn,minRun'->Bn,bubble->D2,numOf->Fu
open PyProof.Rows.F renaming plain_set_update_loop->CU,entry_set_update_loop->lx
open PyProof.Rows.SortSt renaming mk'->wa
open PySem renaming boot_len->iN,mem_of_lookup->p5,intText_digits->Sa,wpAny_bind->ae,Value->ar,Shared->au,wpAny_pure->aw,Addr->ax,model->bo,mainGlobals->cc,Program->cj,Around->c5,starEach->c6,rawInt->da,World->dc,compareOp->du,wpAny_call_entry->dy,wpAny_newObj_type->ec,wpAny_holding->ej,wpAny_setState_of->el,codeAny_builtin->en,unsupported->eC,wpAny_passesOwn->eD,pickOrder->eJ,Expr->eM,SetTable->eQ,wpAny_callSpecial?_slot->e0,Heap->e6,Stmt->fb,wpAny_askSetting->fg,wpAny_mono->fm,sysModules->fD,NameKind->fI,wpAny_rule->gb,wpAny_setField->gw,FuncData->gN,wpAny_Call_Name_kw->g4,scanBound->hF,plainId_quiet->hJ,wpAny_truthy_bool->hQ,assignEach->hU,foldedSetIterable->hV,sliceBounds->hX,fits_of_scanBound->hY,wpAny_pyIter_slot->hZ,bootBuiltins->ij,codeAny_mono->ik,builtinLookup_eq_fast->iq,binaryOp->iC,wpAny_attempt->i0,wpAny_execs_nil->jt,letOwnedTupleGo->jQ,Builtin->j1,isSubtype_type->kk,wpAny_pyIter_list->kn,Scope->kS,sizeLine_eq->lh,attributeBase->lj,backTo->lS,wpAny_isInstance->l3,typeLookup_type->mi,wpAny_ite_split->ml,typeIs_str->mr,call_meets->mu,pyNext->mx,wpAny_runValue->my,JoinOk->mE,wpAny_setEntries_of->mM,wpAny_standAt->ng,relayAll->nz,setField->nP,wpAny_newList->n3,wpAny_assign_Name->oo,slot_list_getitem->ou,callerA->ox,wpAny_storeSet_of->oC,setNext->oE,setsByText->oI,wpAny_pyIter_enum->pa,valueAt->pe,wpAny_dictEntries->pk,setNextDrawn->p3,wpAny_execs_cons->qc,GenState->rk,tupleKind->rz,swapsWith->rA,getMethod->rB,BindsTo->rT,keywordEach->r3,seqIndex_of->r4,subscripted->r7,codeAny_of_tree->so,drawOrder->sH,wpAny_specialOf->sT,wpAny_updateSeq->td,strValues->ts,recursionLimit->tI,entryFor_alias->t4,firstArgMember->t5,wpAny_seqItems->ui,builtinsNs->vw,wpAny_Name->vx,assign->vy,wpAny_load->vB,wpAny_call->vF,intKind_is->vL,intBits_le_64->wo,evalPart_none->wq,call_list_seq->wt,raiseNew->wx,cellsFrom->xi,argsOk->xl,bindL->y7,bindC->zi,getItem->zr,newList->A5,collect->Bi,pyIter->C2,backToKw->C6,compEnvC->DD,compPost->DJ,entryFor->D1,cLine->D3,atKey->Fy
open PySem.Around renaming under_plainId->qm,under->pz
open PySem.Builtin.Dict renaming showsAll->eh,dictSlotArgs->gL,samePairs->md,addrOf->mN
open PySem.Builtin.Frozenset renaming updateFrom->rl,newClass->tD,addrOf->vR,sizeOf->vT,slot0->wy
open PySem.Builtin.Int renaming intBits->jX
open PySem.Builtin.List renaming listExtendWith->fA,listTooLong->g0,listLengthHint->j2,listSameRef->v3
open PySem.Builtin.Range renaming rangeSize->wi
open PySem.Builtin.Str renaming occurrences->eP,partsBetween->wb,subAt->EX
open PySem.Calls renaming Name_function_global->Qy,call_function_entry->KC,callWith_builtin->mc
open PySem.Code renaming isFrame->pE,frames->y6
open PySem.Data renaming fields->y4,cell->E6
open PySem.DictEntry renaming refKey->E4
open PySem.F renaming plainAttrs_str->jR,called_set->o7,slot_str_join->oH,type_str_join->o8,plainAttrs_list->um,plain_list_iadd->yo,slot_list_append->xh,type_list_append->Aa,slot_str_split->zg,type_str_split->Bo,entry_str_split->Gp,args_str_split_2->Hz,entry_proto_collect->Sf,plain_proto_collect->NI,entry_list_iadd->O8,plain_extend_loop->NS,slot_dict_eq->Pg,slot_str_startswith->Si,type_str_startswith->Rr,plain_set_new->sv
open PySem.Heap renaming lt_size->cD,get?_push_of_some->cJ,get?_push_size->gf,size_push->mP,get?_update_other->nq,get?_update_self->zD,SameBut->fw,get?_push_ne->oP,size_update->qB
open PySem.Heap.DictOf renaming new->FC
open PySem.Heap.IsSliceOf renaming new->Dd
open PySem.Heap.SameBut renaming update->mI
open PySem.NameKind renaming free->dk,cell->nv
open PySem.NumText renaming AllDigits->lN
open PySem.Obj renaming mapSeq->eF,mapFields->lA,data_mapFields->nT,putSet->oy
open PySem.PassesOwn renaming never->iw
open PySem.PyData renaming int->bj,str->cx,canLayAll0->df,depthAll->ee,canLay0->ek,list->eA,eqv->fo,eqvAll->gg,depth->il,bool->lr,tuple->p0,none->tx
open PySem.SeqAt renaming canLay_of_shaped->yQ,shaped->ed,EqAt->Ed
open PySem.SeqAt.EqAt renaming int_str->m4,str_int->m6,none_bool->yB,bool_none->yE,bool_bool->yV,none_int->zt,none_str->zJ,bool_int->z3,bool_str->z7,int_none->Ah,int_bool->Ap,str_none->Az,str_bool->A3,int_int->Dh,str_str->Dx,same->Fk
open PySem.SetTable renaming grown->fq,insertAt->kr,Probe->t2
open PySem.SetTable.below renaming go->fM
open PySem.SetTable.probe renaming go->kv
open PySem.Str renaming ofString->ag,length->er,join->ke,empty->Fh
open PySem.StrLaws renaming joinFits->uv
open PySem.Txt renaming join->dq,split->hM,startswith->km,slice->x5
open PySem.Value renaming isInt_shape->w6,ref->dC,type->gT,none->js,int->me,str->m3,bool->oj,float->rr,isStrOf->wg,isInt->y0,bytes->y3
open PySem.W renaming mg_of->bD,mg_none_of->jP,kia_one->kW,plainGet_of->ER,methodCall_KW->CW,kitx_dict->Kc,callWith_K->GF,cellsFrom_some->Q0
open PySem.W.KIN renaming val_back->Nj
open PySem.W.WData renaming int->Fm
open PySem.W.WShape renaming has->Ee
open PySem.Walks renaming list->EB
open PySem.WalksT renaming enumerate->q4
open PySem.pickOrder renaming go->p1
open Sum renaming inl->ei,inr->oi
open Sum.inl renaming inj->FP
open True renaming intro->fH
open PySem PySem.Spec PyProof.Rows
variable{nb aP:ax->Prop}{p:Int}{n i j t' m mn sa ep:Nat}{pins:List (ax×Obj)}{Θ:Bool->List PyData->Prop}{α κ:Type}{a b C acc it dx a0:ax}{ds:List PyData}{Q E:ar->au->Prop}{x qual:Str}{mp:List (Option Nat)}{ns ls L ws:List Int}{us its:List ar}{s:au}{N ps NX ys:List Str}{B:(Str->Option ar)->e6->Prop}{w:dc}{r:Option (Array ba)}{A:c5}{u oc:ar}{pos:Pos}{mg mA:Str->Option ar}{pr:Int×Int}{bC:List (List PyData)}{osl:Array (Option ar)}{h base h':e6}{T:String}{f:ar->ar->Sem ar}{l:List (Nat×Nat×Nat)}{o:Obj}{scope:kS}{es:Array (Int×ar)}{tg e:eM}{left bt:Bool}{key:ba}{pl:Sem Bool}{M:Model}{QQ:Fin->au->Prop}{ch fp:List ax}{fd:gN}{I:Nat->List PyData->Prop}{use:Option (ar->Sem Unit)}{y:Array ba}{g':Array rk}{outer:List Env}{env:Env}{cells:List (Str×ax)}{d':Drawn}{ha:Nat->Int}{items:Array ar}{ks:List Nat}
namespace PySem.W.Fast
def tw3621322907434876517:=Nat
def tw18347800053953785441:=Nat
def tw6825411540790656565:=Nat
def tw6667030090031461986:=Nat
def tw8868593461383500255:=Nat
def tw7622522752715193884:=Nat
def tw1295750618426122818:=Nat
def tw16235384648822243296:=Nat
def tw8624328608957513369:=Nat
def tw12997122385448065700:=Nat
def tw13618005835791823136:=Nat
def tw7769936401462033823:=Nat
def tw8885916765988676342:=Nat
def tw17217899315128164131:=Nat
def tw18196604984712012539:=Nat
def tw17081065368478495490:=Nat
def tw7259829281336763258:=Nat
def tw13486206536399562722:=Nat
def tw17306531862823277266:=Nat
def tw6710743946382172406:=Nat
def tw13687447223370253162:=Nat
def tw13552312207117714108:=Nat
def tw12156146482520926261:=Nat
def tw204206327986801978:=Nat
def tw7494528808979362453:=Nat
def tw7374960673005007409:=Nat
def tw14243912232157910658:=Nat
def tw17488347191422860289:=Nat
def tw555987127324716864:=Nat
def tw14519133653276111258:=Nat
def tw2642483740131617754:=Nat
def tw9190280698626069803:=Nat
def tw10874661035157213037:=Nat
def tw18018847226805537804:=Nat
def tw7093473283685617468:=Nat
def tw5775608665978034628:=Nat
def tw5394208449494346774:=Nat
def tw17005709140499555558:=Nat
def tw16922519463383006709:=Nat
def tw2003343975874651883:=Nat
def tw17984247988338794629:=Nat
def tw12275084023807034574:=Nat
def tw5292855110174666373:=Nat
def tw10399540949815031915:=Nat
def tw10632441662543858602:=Nat
def tw791614589390185013:=Nat
def tw4538964636204698483:=Nat
def tw13403922225934994984:=Nat
def tw2514445323620347928:=Nat
def tw16422872848031313113:=Nat
def tw9129188622353279273:=Nat
def tw18134221548159545405:=Nat
def tw10304028112459870963:=Nat
def tw4970209455864282213:=Nat
def tw9793087423668567669:=Nat
def tw14361297642681522296:=Nat
def tw1142941612770180348:=Nat
def tw14784627801201181430:=Nat
def tw3771123520513354824:=Nat
def tw18280324657517436491:=Nat
def tw18177411358280102939:=Nat
def tw15635163697023793919:=Nat
def tw14866336208088149384:=Nat
def tw14269913145660832942:=Nat
def tw5692976098983945497:=Nat
def tw9194278285121701497:=Nat
def tw16332358806235220350:=Nat
def tw17555921903898633839:=Nat
def tw4174223766995701760:=Nat
def tw1513896694241968799:=Nat
def tw14286410662174282850:=Nat
def tw221572427544974102:=Nat
def tw12163316251643270353:=Nat
def tw11852665595136161329:=Nat
def tw1757834958436956219:=Nat
def tw12901530871311622791:=Nat
def tw17758614103758593236:=Nat
def tw602919633194894531:=Nat
def tw11997373879395691918:=Nat
def tw7669272016038138594:=Nat
def tw11072862561722043291:=Nat
def tw18306648238190120934:=Nat
def tw8995801642021429554:=Nat
def tw13312474549570284400:=Nat
def tw14520222153275210315:=Nat
def tw7603416950965613258:=Nat
def tw11107043747239087802:=Nat
def tw15383186162116761239:=Nat
def tw12247860793391006167:=Nat
def tw4852552996423263100:=Nat
def tw8750937829054217698:=Nat
def tw6087090733098693165:=Nat
def tw3525779292737900026:=Nat
def tw5080301525048286741:=Nat
def tw9535412356552649986:=Nat
def tw10783658744431725853:=Nat
def tw7170511565498233746:=Nat
def tw10681444597879134527:=Nat
def tw4586509668660362431:=Nat
def tw1812355839980695762:=Nat
def tw17668729901313688524:=Nat
def tw14087252412183082556:=Nat
def tw11438743967298353835:=Nat
def tw6859633323015562914:=Nat
def tw1303183702892550923:=Nat
def tw12464301623375625842:=Nat
def tw7979810160753968500:=Nat
def tw4293819276041191580:=Nat
def tw5912728993209763744:=Nat
def tw6802751397320757314:=Nat
def tw13523544309640461169:=Nat
def tw7410738812860858365:=Nat
def tw17423313546764541027:=Nat
def tw16375781365549033079:=Nat
def tw18149302197935671994:=Nat
def tw1465768625189608205:=Nat
def tw16858774126344336399:=Nat
def tw12445589383610485160:=Nat
def tw16102630290708282645:=Nat
def tw5987885563246940052:=Nat
def tw17014168140690108962:=Nat
def tw5843941796510453415:=Nat
def tw1823785853381393053:=Nat
def tw8480578912787064219:=Nat
def tw14042887699355911353:=Nat
def tw3601723708937262835:=Nat
def tw14473698146466214060:=Nat
def tw13100755409949598714:=Nat
def tw15426610519397970915:=Nat
def tw1440854559823365235:=Nat
def tw1905326345829770017:=Nat
def tw7392069290329460651:=Nat
def tw3322049303336695813:=Nat
def tw9248735821055135713:=Nat
def tw5215930176785681167:=Nat
def tw4938416880573344678:=Nat
def tw15042739860178107594:=Nat
def tw10163655220914307643:=Nat
def tw17377278036966595815:=Nat
def tw4030103893548240022:=Nat
def tw2419440969808876412:=Nat
def tw5915712769056061473:=Nat
def tw12242166405230891021:=Nat
def tw13994531050592018829:=Nat
def tw13707742937923839589:=Nat
def tw11572909475443631015:=Nat
def tw12224415468508845484:=Nat
def tw16664726903960815850:=Nat
def tw17920297750426029383:=Nat
def tw5608247292256808337:=Nat
def tw15606317790959485321:=Nat
def tw18262913097225075195:=Nat
def tw15755210041739445447:=Nat
def tw18009854845791089751:=Nat
def tw3279879106739330061:=Nat
def tw423564822770448874:=Nat
def tw3954232157668361225:=Nat
def tw11731973605901277580:=Nat
def tw17935912348226644960:=Nat
def tw13055663269506014866:=Nat
def tw11064362630904710426:=Nat
def tw3342785129409953650:=Nat
def tw16855448024386659779:=Nat
def tw10318968519001083897:=Nat
def tw1880813366076716304:=Nat
def tw9558000849710532931:=Nat
def tw4962415342698856174:=Nat
def tw17511567022961677216:=Nat
def tw14511892516841124470:=Nat
def tw18006688888567858440:=Nat
def tw15919405158932538921:=Nat
def tw11666735255101446977:=Nat
def tw3832790836156400690:=Nat
def tw477005500771800249:=Nat
def tw15416419183642432034:=Nat
def tw14613294764796325883:=Nat
def tw4039535827811105727:=Nat
def tw9365027389314733837:=Nat
def tw13765872232490213162:=Nat
def tw3694930093371086103:=Nat
def tw4373156884634389560:=Nat
def tw13964164152056630007:=Nat
def tw12443598356419283225:=Nat
def tw15080415964269884796:=Nat
def tw4910428071985945007:=Nat
def tw675508070268290102:=Nat
def tw15505191953929455999:=Nat
def tw5380185320468104571:=Nat
def tw15656902267985208206:=Nat
def tw10800437762957676871:=Nat
def tw11454306103756584641:=Nat
def tw2932120240565999052:=Nat
def tw8197037404733912285:=Nat
def tw9151978302002175589:=Nat
def tw16572255325048083492:=Nat
def tw398403415421379171:=Nat
def tw2356057562707136911:=Nat
def tw5522239538970380176:=Nat
def tw3631859355768346831:=Nat
def tw16250965629840668886:=Nat
def tw13866425094714476787:=Nat
def tw8587767172056128578:=Nat
def tw17209045504652209915:=Nat
def tw15399915453511483503:=Nat
def tw7396839486464686903:=Nat
def tw8809030185365162075:=Nat
def tw2831042764166062710:=Nat
def tw3879999997592102399:=Nat
def tw3100162338008645811:=Nat
def tw7945212490950690422:=Nat
def tw5698942593321812059:=Nat
def tw10271275233875414070:=Nat
def tw1396208866523176083:=Nat
def tw8128294524172313620:=Nat
def tw10486636058270505698:=Nat
def tw3176950513772774756:=Nat
def tw17104271957560442217:=Nat
def tw15868047312803695464:=Nat
def tw15087351219969988749:=Nat
def tw229678077753548044:=Nat
def tw12030910060810954889:=Nat
def tw11425452216608281771:=Nat
def tw5829012754857277111:=Nat
def tw171748734407631011:=Nat
def tw5314824930733748183:=Nat
def tw9498845844676188588:=Nat
def tw5815217714859195436:=Nat
def tw1642093010199716336:=Nat
def tw7098546652585195906:=Nat
def tw11543353222060160528:=Nat
def tw8503100323128766166:=Nat
def tw12249966185821788646:=Nat
def tw15239896896304370523:=Nat
def tw6328244806626934324:=Nat
def tw6902164417690091872:=Nat
def tw17674874761043530974:=Nat
def tw4641210426544127261:=Nat
def tw13853880527090921354:=Nat
def tw14575377336707121520:=Nat
def tw698454760322402914:=Nat
def tw11062309254249010428:=Nat
def tw17033913285626497739:=Nat
def tw18055931095566095100:=Nat
def tw7167332636920879490:=Nat
def tw7687687424184119723:=Nat
def tw11916776090586794109:=Nat
end PySem.W.Fast
namespace L2
noncomputable abbrev Key:=Sum Int Str
noncomputable def rY:Key->ar->Bool
 | .inl k,v=>y0 k v
 | .inr x,v=>wg x v
noncomputable def aaP(w:dc):Key->Int
 | .inl k=>hashInt k
 | .inr x=>hashStr w x
def nW:∀{k:Key} {v:ar},rY k v=true->(∃i t,k=ei i/\v=me i t)\/(∃x t,k=oi x/\v=m3 x t)
  | .inl i, v, h => by
    obtain⟨t,e⟩:=w6 (k:=i) (v:=v) h;exact .inl ⟨i,t,rfl,e⟩
  | .inr x, v, h => by
    obtain⟨t,e⟩:=Value.isStrOf_shape (x:=x) (v:=v) h;exact .inr ⟨x,t,rfl,e⟩
def aaU(i:Int)(t:Tok):rY (.inl i) (.int i t)=true:=by simp[rY,y0]
def XE(x:Str)(t:Tok):rY (.inr x) (.str x t)=true:=by simp[rY,wg]
def abt(a b:Int):decide ((ei a:Key)=ei b)=(a==b):=by
 by_cases e:a=b;·subst e;simp
 .have h:¬(ei a:Key)=ei b:=λq=>e (FP q);rw[decide_eq_false h];exact(beq_eq_false_iff_ne.mpr e).symm
def XX(a b:Str):decide ((oi a:Key)=oi b)=decide (a=b):=by
 by_cases e:a=b;·subst e;simp
 .have h:¬(oi a:Key)=oi b:=λq=>e (Sum.inr.inj q);rw[decide_eq_false h,decide_eq_false e]
def Xw(a:Int)(b:Str):decide ((ei a:Key)=oi b)=false:=decide_eq_false (λq=>nomatch q)
def UE(a:Str)(b:Int):decide ((oi a:Key)=ei b)=false:=decide_eq_false (λq=>nomatch q)
noncomputable def jr(prog:cj)(w:dc):PySem.KeyKind prog w Key where
 is:=rY
 hash:=aaP w
 inj:=λv a b ha hb=>by
  rcases nW ha with ⟨i,t,rfl,rfl⟩|⟨x,t,rfl,rfl⟩
  .rcases nW hb with ⟨j,u,rfl,e⟩|⟨y,u,rfl,e⟩
   .injection e with e1 _;rw[e1]
   .exact nomatch e
  .rcases nW hb with ⟨j,u,rfl,e⟩|⟨y,u,rfl,e⟩
   .exact nomatch e
   .injection e with e1 _;rw[e1]
 byValue:=λk v h=>by
  rcases nW h with ⟨i,t,rfl,rfl⟩|⟨x,t,rfl,rfl⟩<;>rfl
 pyHash:=λhv h=>by
  rcases nW hv with ⟨i,t,rfl,rfl⟩|⟨x,t,rfl,rfl⟩
  .exact wpAny_pyHash_int h
  .exact wpAny_pyHash_str h
 eqBool:=λhu hv h=>by
  rcases nW hu with ⟨i,t,rfl,rfl⟩|⟨x,t,rfl,rfl⟩
  .rcases nW hv with ⟨j,u,rfl,rfl⟩|⟨y,u,rfl,rfl⟩
   .rw[abt] at h;exact wpAny_eqBool_int h
   .rw[Xw] at h;exact m4 i t y u _ _ _ _ h
  .rcases nW hv with ⟨j,u,rfl,rfl⟩|⟨y,u,rfl,rfl⟩
   .rw[UE] at h;exact m6 x t j u _ _ _ _ h
   .rw[XX] at h;exact wpAny_eqBool_str h
 «strs» :=λk x t v h=>by
  rcases nW h with ⟨i,u,rfl,e⟩|⟨y,u,rfl,e⟩
  .exact nomatch e
  .injection e with e1 _
   subst e1
   cases v<;>rfl
def acF(prog:cj)(w:dc)(i:Int)(t:Tok):(jr prog w).is (.inl i) (.int i t)=true:=aaU i t
def PQ(prog:cj)(w:dc)(x:Str)(t:Tok):(jr prog w).is (.inr x) (.str x t)=true:=XE x t
inductive V where
 |aL|bl (b:Bool)|int (i:Int)|str (x:Str)|jF (b:Array UInt8)|m7 (b:UInt64)|ref (a:ax)|ty (n:String)
 deriving DecidableEq
def RelV:V->ar->Prop
 | .aL,u=>u=js
 | .bl b,u=>u=oj b
 | .int i,u=>∃t,u=me i t
 | .str x,u=>∃t,u=m3 x t
 | .jF b,u=>∃t,u=y3 b t
 | .m7 b,u=>∃t,u=rr b t
 | .ref a,u=>u=dC a
 | .ty n,u=>u=gT n
abbrev Vals:List V->List ar->Prop:=Paired RelV
theorem Vals.length{xs:List V}{us:List ar}(r:Vals xs us):xs.length=us.length:=Paired.length r
theorem Vals.get:∀{xs:List V} {us:List ar} {i:Nat} {x:V},Vals xs us->xs[i]?=some x->∃u,us[i]?=some u/\RelV x u
  |_,_,_,_, .nil,e=>by simp at e
  |_,_,0,_, .cons r _,e=>by simp at e;subst e;exact⟨_,rfl,r⟩
  | _, _, i + 1, x, .cons _ t, e => by
    obtain⟨u,h1,h2⟩:=Vals.get (i:=i) (x:=x) t (by simpa using e);exact⟨u,by simpa using h1,h2⟩
theorem Vals.set{x:V}{u:ar}(r:RelV x u):∀{xs:List V} {us:List ar} (i:Nat),Vals xs us->Vals (xs.set i x) (us.set i u)
 |_,_,_, .nil=> .nil
 |_,_,0, .cons _ t=> .cons r t
 |_,_,i+1, .cons q t=> .cons q (Vals.set r i t)
theorem Vals.append:∀{xs ys:List V} {us ws:List ar},Vals xs us->Vals ys ws->Vals (xs++ys) (us++ws)
 |_,_,_,_, .nil,s=>s
 |_,_,_,_, .cons r t,s=> .cons r (Vals.append t s)
theorem Vals.take:∀{xs:List V} {us:List ar} (n:Nat),Vals xs us->Vals (xs.take n) (us.take n)
 |_,_,0,_=> .nil
 |_,_,_+1, .nil=> .nil
 |_,_,n+1, .cons r t=> .cons r (Vals.take n t)
theorem Vals.drop:∀{xs:List V} {us:List ar} (n:Nat),Vals xs us->Vals (xs.drop n) (us.drop n)
 |_,_,0,r=>r
 |_,_,_+1, .nil=> .nil
 |_,_,n+1, .cons _ t=>Vals.drop n t
def jD:Option V->Option ar->Prop
 |some v,some u=>RelV v u
 |none,none=>True
 |_,_=>False
def KV:List (κ×V)->List (κ×ar)->Prop:=Paired λ(p:κ×V) (q:κ×ar)=>p.1=q.1/\RelV p.2 q.2
noncomputable def kV:Key->V
 | .inl i=> .int i
 | .inr x=> .str x
inductive HO where
  |lst (xs:List V)
  |tup (xs:List V)
  |dK (kvs:List (Key×V))|dT (kvs:List (List Key×V))
  |set (S:Int->Bool) (n:Nat)
  |ins (C dx:ax) (fs:List (Str×V))
  |own (x:ax)
  |xd (fs:List (Str×V))
  |met (f x:ax)
  |Bl (lo hi:Int)
  |iJ (o:Obj) (u:HO)
  |qj (ps:Array ar)
  |ext (φ:e6->Prop)
noncomputable abbrev Hp:=ax->Option HO
noncomputable def upd(H:Hp)(a:ax)(o:HO):Hp:=λb=>if b=a then some o else H b
def bB{H:Hp}{o:HO}:upd H a o a=some o:=by unfold upd;rw[if_pos rfl]
def br{H:Hp}{o:HO}(h:b≠a):upd H a o b=H b:=by unfold upd;rw[if_neg h]
def EI{H:Hp}{o u:HO}:upd (upd H a o) a u=upd H a u:=by
 funext b;unfold upd;split<;>rfl
def ja{H:Hp}{o:HO}(h:H a=some o)(h':H b=none):a≠b:=by
 intro e;subst e;rw[h] at h';cases h'
section
variable(P:cj)(w:dc)
def eE(H:Hp)(h:e6)(a:ax):HO->Prop
 | .lst xs=>xs.length<=sizeLine/\∃(its:List ar) (n:Nat),Vals xs its/\h.get? a=some {cls:= .type "list",data:= .seq its.toArray n}
 | .tup xs=>xs.length<=sizeLine/\∃its:List ar,Vals xs its/\IsTup h a its.toArray
 | .dK kvs=>kvs.length<=sizeLine/\(a==fD)=false/\∃vs,KV kvs vs/\h.DictOf (jr P w) a vs
 | .dT kvs => kvs.length <= sizeLine /\ (a == sysModules) = false /\ ∃ xs : List (List Key × Addr × Value),
   Paired (λ(p:List Key×V) (q:List Key×ax×ar)=>p.1=q.1/\H q.2.1=some (.tup (p.1.map kV))/\RelV p.2 q.2.2) kvs xs/\
   ∃o es ep,h.get? a=some o/\o.ExactDict/\o.data= .dict es ep/\es.toList=xs.map (entryOfKey (rz (jr P w)))/\(xs.map (·.1)).Nodup
 | .set S n=>h.SetOf (intKind P w) a S n
 | .ins C dx fs => H dx = some (.own a) /\ fs.length <= 1000 /\ dx ≠ a /\ h.get? a = some (PySem.W.instObj C dx) /\
   ∃mA,h.Ns1 dx mA/\(∀f,jD (fs.lookup f) (mA f))/\PySem.Within mA (fs.map (·.1))
 | .own _=>∃o,h.get? a=some o
 | .xd fs=>∃mA,h.Ns1 a mA/\∀f,jD (fs.lookup f) (mA f)
 | .Bl lo hi=>∃t u v,h.get? a=some {cls:= .type "range",data:= .fields #[.int lo t, .int hi u, .int 1 v]}
 | .iJ o u=>h.get? a=some o/\eE H h a u
 | .qj ps=>h.get? a=some {cls:= .none,data:= .fields ps}
 | .met f x=>h.get? a=some (PySem.W.methodObj (.ref f) (.ref x))
 | .ext φ=>φ h/\(∃o,h.get? a=some o)/\∀h1 h2:e6,φ h1->(∀o,h1.get? a=some o->h2.get? a=some o)->φ h2
def ez(H:Hp)(h:e6):Prop:=∀a o,H a=some o->eE P w H h a o
end
section
variable{P:cj}{w:dc}{H H':Hp}{h h':e6}{a:ax}{o:HO}
theorem eE.lt(x:eE P w H h a o):a<h.objs.size:=by
 cases o with
 |lst xs=>obtain⟨_,_,_,_,e⟩:=x;exact cD e
 |tup xs=>obtain⟨_,_,_,p⟩:=x;exact p.lt
 |dK kvs=>obtain⟨_,_,_,_,o,_,_,e,_⟩:=x;exact cD e
 |dT kvs=>obtain⟨_,_,_,_,o,_,_,e,_⟩:=x;exact cD e
 |set S n=>obtain⟨o,_,_,_,e,_⟩:=x;exact cD e
 |ins C dx fs=>obtain⟨_,_,_,e,_⟩:=x;exact cD e
 |own y=>obtain⟨_,e⟩:=x;exact cD e
 |xd fs=>obtain⟨_,⟨_,_,_,e,_⟩,_⟩:=x;exact cD e
 |Bl lo hi=>obtain⟨_,_,_,e⟩:=x;exact cD e
 |iJ ob u=>obtain⟨e,_⟩:=x;exact cD e
 |qj ps=>exact cD (show h.get? a=some _ from x)
 |met f y=>exact cD (show h.get? a=some _ from x)
 |ext φ=>obtain⟨_,⟨_,e⟩,_⟩:=x;exact cD e
theorem Paired.TQ{α c:Type}{F G:α->c->Prop}:∀{d:List α} {l₂:List c},Paired F d l₂->(∀a b,F a b->G a b)->Paired G d l₂
 |_,_, .nil,_=> .nil
 |_,_, .cons r t,f=> .cons (f _ _ r) (Paired.TQ t f)
def eE.stay(x:eE P w H h a o)(k:∀b u,(b=a\/H b=some (.own a))->h.get? b=some u->h'.get? b=some u)
    (ho:∀b,H b=some (.own a)->H' b=some (.own a)) (ht:∀b xs,H b=some (.tup xs)->H' b=some (.tup xs)):eE P w H' h' a o:=by
  induction o with
  |lst xs=>obtain⟨z,its,n,r,e⟩:=x;exact⟨z,its,n,r,k _ _ (.inl rfl) e⟩
  |tup xs=>obtain⟨z,its,r,ob,e,c⟩:=x;exact⟨z,its,r,ob,k _ _ (.inl rfl) e,c⟩
  |dK kvs=>obtain⟨z,y,vs,r,ob,es,ep,e,c⟩:=x;exact⟨z,y,vs,r,ob,es,ep,k _ _ (.inl rfl) e,c⟩
  | dT kvs =>
    obtain⟨z,y,xs,r,ob,es,ep,e,c⟩:=x;exact⟨z,y,xs,Paired.TQ r λp q z=>⟨z.1,ht _ _ z.2.1,z.2.2⟩,ob,es,ep,k _ _ (.inl rfl) e,c⟩
  |set S n=>obtain⟨ob,es,ep,t,e,c⟩:=x;exact⟨ob,es,ep,t,k _ _ (.inl rfl) e,c⟩
  | ins C dx fs =>
    obtain⟨d,z,ne,e,mA,⟨od,es,ep,e2,c⟩,r⟩:=x;exact⟨ho _ d,z,ne,k _ _ (.inl rfl) e,mA,⟨od,es,ep,k _ _ (.inr d) e2,c⟩,r⟩
  |own y=>obtain⟨ob,e⟩:=x;exact⟨ob,k _ _ (.inl rfl) e⟩
  |xd fs=>obtain⟨mA,⟨od,es,ep,e,c⟩,r⟩:=x;exact⟨mA,⟨od,es,ep,k _ _ (.inl rfl) e,c⟩,r⟩
  |Bl lo hi=>obtain⟨t,u,v,e⟩:=x;exact⟨t,u,v,k _ _ (.inl rfl) e⟩
  |iJ ob u ih=>obtain⟨e,q⟩:=x;exact⟨k _ _ (.inl rfl) e,ih q⟩
  | qj ps =>
    have e:h.get? a=some {cls:= .none,data:= .fields ps}:=x;show h'.get? a=some {cls:= .none,data:= .fields ps};exact k a _ (.inl rfl) e
  | met f y =>
    have e:h.get? a=some (PySem.W.methodObj (.ref f) (.ref y)):=x;show h'.get? a=some (PySem.W.methodObj (.ref f) (.ref y));exact k a _ (.inl rfl) e
  |ext φ=>obtain⟨p,⟨o,e⟩,st⟩:=x;exact⟨st _ _ p λo q=>k _ _ (.inl rfl) q,⟨o,k _ _ (.inl rfl) e⟩,st⟩
theorem ez.lt(x:ez P w H h)(e:H a=some o):a<h.objs.size:=(x a o e).lt
def ez.fresh(x:ez P w H h)(e:h.objs.size<=a):H a=none:=by
 cases q:H a with
 |none=>rfl
 |some u=>exact absurd (fJ (x.lt q) e) (kE _)
def ez.kept(x:ez P w H h)(k:∀b u,h.get? b=some u->h'.get? b=some u):ez P w H h':=λa o e=>
 (x a o e).stay (λb u _ q=>k b u q) (λ_ q=>q) λ_ _ q=>q
def ez.laid(x:ez P w H h)(k:∀b u,h.get? b=some u->h'.get? b=some u)(hp:h.objs.size<=a)(new:eE P w (upd H a o) h' a o):ez P w (upd H a o) h':=λb u e=>by
 have hn:=x.fresh hp;by_cases hb:b=a;·subst hb;rw[bB] at e;cases e;exact new
 .rw[br hb] at e;exact(x b u e).stay (λc v _ q=>k c v q) (λc q=>by rw[br (ja q hn)];exact q) λc xs q=>by rw[br (ja q hn)];exact q
end
def Rd(H:Hp)(a:ax)(u:HO):Prop:=H a=some u\/∃o,H a=some (.iJ o u)
def Rd.ok{P:cj}{H:Hp}{u:HO}(r:Rd H a u)(x:ez P w H h):eE P w H h a u:=by
 rcases r with r|⟨o,r⟩
 .exact x a u r
 .obtain⟨_,q⟩:=x a _ r;exact q
def tS:Option HO->Prop
 |some (.lst _)=>True
 |some (.dK _)=>True
 |some (.dT _)=>True
 |some (.set _ _)=>True
 |some (.ins _ _ _)=>True
 |some (.ext _)=>True
 |_=>False
section
variable{P:cj}{w:dc}{H:Hp}{h h':e6}{x e:ax}{o':HO}
def ez.write(ok:ez P w H h)(d:tS (H x))(he:e=x\/H e=some (.own x))(k:∀b u,b≠e->h.get? b=some u->h'.get? b=some u)(f:∃u,h'.get? e=some u)
  (new:eE P w (upd H x o') h' x o'):ez P w (upd H x o') h':=λb u q=>by
 have i:∀c y,H c=some (.own y)->c≠x:=λc y r z=>by subst z;rw[r] at d;exact d
 have g:∀c xs,H c=some (.tup xs)->c≠x:=λc xs r z=>by subst z;rw[r] at d;exact d
 by_cases hb:b=x;·subst hb;rw[bB] at q;cases q;exact new
 .rw[br hb] at q;by_cases a:b=e
  .have B:H b=some (.own x):=by
    rcases he with z|z
    .exact absurd (a.trans z) hb
    .rw[a];exact z
   rw[q] at B;cases B
   obtain⟨v,hv⟩:=f;exact⟨v,by rw[a];exact hv⟩
  .refine(ok b u q).stay (λc v hc r=>k c v ?_ r) (λc r=>by rw[br (i c b r)];exact r) λc xs r=>by rw[br (g c xs r)];exact r
   rcases hc with rfl|hc
   .exact a
   .rintro rfl;rcases he with z|z
    .exact i c b hc z
    .rw[hc] at z;cases z;exact hb rfl
end
structure Un(fs ex:List ax)(H H':Hp)(h h':e6):Prop where
 keep:∀b o,h.get? b=some o->H b=none->b∉fs->b∉ex->h'.get? b=some o
 slot:∀b o,h.get? b=some o->H b=none->b∈fs->b∉ex->∃sl,h'.get? b=some {o with slots:=sl}
 free:∀b o,h.get? b=some o->H b=none->b∉ex->H' b=none
 there:∀b o,h.get? b=some o->b∉ex->∃o',h'.get? b=some o'
 tups:∀b xs,H b=some (.tup xs)->H' b=some (.tup xs)
 om:∀b o u,H b=some (.iJ o u)->H' b=some (.iJ o u)
 oF:∀b ps,H b=some (.qj ps)->∃more,H' b=some (.qj (ps++more))
section
variable{fs fs' ex ex':List ax}{H H1 H2:Hp}{h h1 h2 h':e6}{a x e:ax}{o:HO}
def Un.any(u:Un fs ex H H1 h h1){b:ax}{ob:Obj}(q:h.get? b=some ob)(n:H b=none)(hx:b∉ex):∃sl,h1.get? b=some {ob with slots:=sl}:=by
 by_cases hb:b∈fs;·exact u.slot b ob q n hb hx
 .exact⟨ob.slots,u.keep b ob q n hb hx⟩
def Un.kept(k:∀b u,h.get? b=some u->h'.get? b=some u):Un fs ex H H h h':=
 ⟨λb ob q _ _ _=>k b ob q,λb ob q _ _ _=>⟨ob.slots,k b ob q⟩,λ_ _ _ n _=>n,λb ob q _=>⟨ob,k b ob q⟩,λ_ _ q=>q,λ_ _ _ q=>q,λ_ ps q=>⟨#[],by rw[q];simp⟩⟩
def Un.refl:Un fs ex H H h h:=Un.kept λ_ _ q=>q
def Un.laid(k:∀b u,h.get? b=some u->h'.get? b=some u)(hp:h.objs.size<=a)(hn:H a=none):Un fs ex H (upd H a o) h h' where
 keep:=λb u q _ _ _=>k b u q
 slot:=λb u q _ _ _=>⟨u.slots,k b u q⟩
 free:=λb u q n _=>by rw[br (eS (fJ (cD q) hp))];exact n
 there:=λb u q _=>⟨u,k b u q⟩
 tups:=λb xs q=>by rw[br (ja q hn)];exact q
 om:=λb u xs q=>by rw[br (ja q hn)];exact q
 oF:=λb ps q=>⟨#[],by rw[br (ja q hn),q];simp⟩
def Un.write(d:tS (H x))(he:e=x\/H e=some (.own x))(k:∀b u,b≠e->h.get? b=some u->h'.get? b=some u)(f:∃u,h'.get? e=some u):Un fs ex H (upd H x o) h h':=by
 have hx:∀b,H b=none->b≠x:=λb n z=>by subst z;rw[n] at d;exact d
 have hb:∀b,H b=none->b≠e:=λb n z=>by
  subst z;rcases he with r|r
  .exact hx b n r
  .rw[n] at r;cases r
 have hm:∀b u,H b=some u->¬tS (some u)->b≠x:=λb u q nm z=>by subst z;rw[q] at d;exact nm d
 refine⟨λb u q n _ _=>k b u (hb b n) q,λb u q n _ _=>⟨u.slots,k b u (hb b n) q⟩,λb u q n _=>by rw[br (hx b n)];exact n,λb u q _=>?_,
  λb xs q=>by rw[br (hm b _ q λz=>z)];exact q,λb u xs q=>by rw[br (hm b _ q λz=>z)];exact q,λb ps q=>⟨#[],by rw[br (hm b _ q λz=>z),q];simp⟩⟩
 by_cases a:b=e;·subst a;exact f
 .exact⟨u,k b u a q⟩
end
noncomputable def wY(h:e6)(H:Hp):List ax:=(cv h.objs.size).filter λa=>(H a).isSome
noncomputable def nR(h:e6)(H:Hp):e6:=PySem.W.hideAll h (wY h H)
def U9(h:e6)(H:Hp):(nR h H).objs.size=h.objs.size:=PySem.W.hideAll_size _ _
def agk{H:Hp}(e:h.get? b=some o)(n:H b=none):(nR h H).get? b=some o:=
 PySem.W.hideAll_get _ e λhm=>by
  have q:(H b).isSome=true:=(jw.mp hm).2;rw[n] at q;simp at q
def Lo{H:Hp}(e:(nR h H).get? b=some o):h.get? b=some o/\H b=none:=by
  have e':h.get? b=some o:=PySem.W.of_hideAll (wY h H) e;refine⟨e',?_⟩;cases q:H b with
  |none=>rfl
  | some x =>
    have hm:b∈wY h H:=jw.mpr ⟨lY.mpr (cD e'),by simp[q]⟩;have z:(nR h H).get? b=none:=PySem.W.hideAll_none (wY h H) hm;rw[z] at e;cases e
noncomputable def Xg(g h:e6)(L:ax):List (ax×Obj):=(cv h.objs.size).filterMap λa=>if a=L\/(g.get? a).isSome=true then none else(h.get? a).map λo=>(a,o)
noncomputable def rest(g h:e6)(L d:ax):List (ax×Obj):=(Xg g h L).filter λp=>decide (p.1≠d)
structure Mod(K:PySem.W.Frag)(mg:Str->Option ar)(base:e6):Prop where
 vP:K.In base
 glob:base.Ns cc mg
 blt:∃mb,base.Ns vw mb/\∀x:Str,x≠"__name__" ->mb x=ij x
 nolimit:base.NoLimit
structure Cx where
 prog:cj
 w:dc
 K:PySem.W.Frag
 mg:Str->Option ar
 base:e6
 A:c5
 N:List Str
 s₀:au
 H₀:Hp
 env:Env
 outer:List Env
 stack:List Env
 ex:List ax
 fn:Str->Bool
 calm:Bool
 pn:List (ax×Obj)
 xe:ar->au->Prop
noncomputable def frs(l:List Env):List ax:=l.filterMap (·.frame)
noncomputable abbrev Cx.fs(X:Cx):List ax:=frs X.outer
def Kd(sc:kS)(x:Str):Prop:=sc.names.lookup x=some .local\/sc.names.lookup x=some .cell\/sc.names.lookup x=some .free
def Loc(sc:kS)(x:Str):Prop:=sc.names.lookup x=some .local\/sc.names.lookup x=some .cell
def Look(env:Env)(h:e6)(m:Str->Option ar)(x:Str)(u:ar):Prop:=
 (env.kindOf x=some .local/\m x=some u)\/((env.kindOf x=some .cell\/env.kindOf x=some .free)/\∃c,env.cells.lookup x=some c/\h.IsCell c (some u))
structure Cx.Ok(X:Cx):Prop where
 mod:Mod X.K X.mg X.base
 kind:X.env.scope.kind= .function
 glob:X.env.globals=cc
 blt:X.env.builtins=vw
 above:X.s₀.heap.objs.size<=X.env.locals
 inj:∀x y c,X.env.cells.lookup x=some c->X.env.cells.lookup y=some c->x=y
 has:∀x,(X.env.kindOf x=some .cell\/X.env.kindOf x=some .free)->∃c,X.env.cells.lookup x=some c
 uu:∀x c,X.fn x=true->X.env.cells.lookup x=some c->X.s₀.heap.objs.size<=c
 hd:X.calm=true->X.A.handled=none
 frames:X.A.frames=some X.stack
 stk:X.stack=X.outer\/(X.stack=X.env::X.outer/\X.env.frame=some X.env.locals)
 Bt:∀b∈X.ex,b≠X.env.locals/\∀x c,X.env.cells.lookup x=some c->c≠b
 bs:∀b o,X.base.get? b=some o->X.s₀.heap.get? b=some o/\X.H₀ b=none
 pH:X.base.objs.size<=X.s₀.heap.objs.size
 vj:∀b o,X.base.get? b=some o->b∉X.ex
 tZ:∀b∈X.ex,b∉X.fs
 kO:X.s₀.heap.FunFrames X.base X.outer
 qi:∀b∈X.fs,X.H₀ b=none
structure Inv(X:Cx)(pins:List (ax×Obj))(σ:List (Option V))(H:Hp)(s:au):Prop where
 ok:X.Ok
 os:s.os=X.s₀.os
 bare:mf s.gens
 base:Un X.fs X.ex X.H₀ H X.s₀.heap s.heap
 loc:∃m,s.heap.Ns X.env.locals m/\∀(i:Nat) (x:Str) (v:V),X.N[i]?=some x->σ[i]?=some (some v)->Kd X.env.scope x->∃u,RelV v u/\Look X.env s.heap m x u
 cell:∀x c,X.env.cells.lookup x=some c->∃v,s.heap.IsCell c v
 free:H X.env.locals=none
 lQ:∀x c,X.env.cells.lookup x=some c->H c=none
 pin:∀p∈X.pn++pins,s.heap.get? p.1=some p.2/\H p.1=none/\p.1≠X.env.locals/\p.1∉X.fs/\∀v,p.2.data≠ .cell v
 hok:ez X.prog X.w H s.heap
 len:σ.length=X.N.length
section
variable{X:Cx}{pins:List (ax×Obj)}{σ:List (Option V)}{H H':Hp}{s:au}{h':e6}
def Cx.Ok.Us(ok:X.Ok){b:ax}{o:Obj}(e:X.base.get? b=some o):b∉X.fs:=λhb=>by
 have:=(ok.kO.mem hb).1;rw[e] at this;cases this
theorem Inv.bs(I:Inv X pins σ H s):∀b o,X.base.get? b=some o->s.heap.get? b=some o/\H b=none:=λb o e=>
 ⟨I.base.keep b o (I.ok.bs b o e).1 (I.ok.bs b o e).2 (I.ok.Us e) (I.ok.vj b o e),I.base.free b o (I.ok.bs b o e).1 (I.ok.bs b o e).2 (I.ok.vj b o e)⟩
def Inv.bk(I:Inv X pins σ H s):∀b o,X.base.get? b=some o->s.heap.get? b=some o:=λb o e=>(I.bs b o e).1
theorem Inv.mod(I:Inv X pins σ H s):Mod X.K X.mg X.base:=I.ok.mod
def Inv.fK(I:Inv X pins σ H s):X.K.In s.heap:=I.ok.mod.vP.keeps I.bk
theorem Inv.lt(I:Inv X pins σ H s):X.env.locals<s.heap.objs.size:=let ⟨_,hn,_⟩:=I.loc;hn.lt
def Inv.sz(I:Inv X pins σ H s):X.s₀.heap.objs.size<=s.heap.objs.size:=eu I.ok.above (eZ I.lt)
def Inv.YB(I:Inv X pins σ H s){a:ax}(h:s.heap.objs.size<=a):a∉X.fs:=λhb=>by
 obtain⟨_,o,ho,_⟩:=I.ok.kO.mem hb;exact absurd (fJ (cD ho) (eu I.sz h)) (kE _)
def Inv.qP(I:Inv X pins σ H s):∀x c,X.env.cells.lookup x=some c->c≠X.env.locals:=λx c e z=>by
 obtain⟨v,o,ho,hd⟩:=I.cell x c e;obtain⟨m,⟨o',es,ep,d,j,_⟩,_⟩:=I.loc;rw[z,d] at ho;cases ho;rw[j] at hd;cases hd
theorem Inv.kO(I:Inv X pins σ H s):s.heap.FunFrames X.base X.outer:=by
  have all:∀(l:List Env),(∀b∈frs l,b∈X.fs)->X.s₀.heap.FunFrames X.base l->s.heap.FunFrames X.base l:=by
    intro l;induction l with
    |nil=>intro _ _;trivial
    | cons env r ih =>
      intro hs hl;obtain⟨hk,⟨L,o,hf,hn,ho,hd⟩,hr⟩:=hl;have J:L∈X.fs:=hs L (by unfold frs;rw[r6,hf];exact cP);obtain⟨sl,e⟩:=I.base.slot L o ho (I.ok.qi L J) J λz=>I.ok.tZ L z J;exact⟨hk,⟨L,_,hf,hn,e,hd⟩,ih (λb hb=>hs b (by unfold frs;rw[r6,hf];exact cF _ hb)) hr⟩
  exact all X.outer (λ_ hb=>hb) I.ok.kO
theorem Inv.stack(I:Inv X pins σ H s):s.heap.FunFrames X.base X.stack:=by
 rcases I.ok.stk with e|⟨e,hf⟩
 .rw[e];exact I.kO
 .rw[e];obtain⟨m,hn,_⟩:=I.loc;refine .cons (by rw[I.ok.kind];decide) hf hn ?_ I.kO;exact Heap.get?_none_of_le (eu I.ok.pH I.ok.above)
def Inv.Hf(I:Inv X pins σ H s):∀b∈frs X.stack,b∈X.env.locals::X.fs:=λb hb=>by
 rcases I.ok.stk with e|⟨e,hf⟩
 .rw[e] at hb;exact cF _ hb
 .rw[e] at hb;unfold frs at hb;rw[r6,hf] at hb;exact hb
def Inv.MM(I:Inv X pins σ H s):∀b∈frs X.stack,H b=none:=λb hb=>by
 rcases aK.mp (I.Hf b hb) with e|hb
 .rw[e];exact I.free
 .obtain⟨_,o,ho,_⟩:=I.ok.kO.mem hb;exact I.base.free b o ho (I.ok.qi b hb) λz=>I.ok.tZ b z hb
def Inv.step(I:Inv X pins σ H s)
  (a:∀b∈ch,(b∈X.ex\/X.s₀.heap.objs.size<=b)/\b≠X.env.locals/\(∀x c,X.env.cells.lookup x=some c->c≠b)/\∀p∈X.pn++pins,p.1≠b)
  (keep:∀b o,b≠X.env.locals->b∉X.fs->b∉ch->s.heap.get? b=some o->H b=none->h'.get? b=some o)
  (slot:∀b o,b≠X.env.locals->b∈X.fs->b∉ch->s.heap.get? b=some o->H b=none->∃sl,h'.get? b=some {o with slots:=sl}) (free:∀b o,b∉ch->s.heap.get? b=some o->H b=none->H' b=none)
  (there:∀b o,b∉ch->s.heap.get? b=some o->∃o',h'.get? b=some o')
  (tups:∀b xs,H b=some (.tup xs)->H' b=some (.tup xs)) (om:∀b o u,H b=some (.iJ o u)->H' b=some (.iJ o u)) (oF:∀b ps,H b=some (.qj ps)->∃more,H' b=some (.qj (ps++more)))
  (ns:∀m,s.heap.Ns X.env.locals m->h'.Ns X.env.locals m) (hok:ez X.prog X.w H' h') (hg:mf g'):
  Inv X pins σ H' {s with heap:=h',gens:=g',drawn:=d',toks:=t'}:=by
 have j:∀b o,X.s₀.heap.get? b=some o->b≠X.env.locals:=λb o e=>eS (fJ (cD e) I.ok.above);have h:∀b o,X.s₀.heap.get? b=some o->b∉X.ex->b∉ch:=λb o e hx hb=>by
  rcases(a b hb).1 with z|z
  .exact hx z
  .exact absurd (fJ (cD e) z) (kE _)
 have f:∀x c,X.env.cells.lookup x=some c->∀v,s.heap.IsCell c v->h'.IsCell c v:=λx c e v ⟨o,ho,hd⟩=>by
  have g:c∉ch:=λz=>(a c z).2.2.1 x c e rfl;by_cases hc:c∈X.fs
  .obtain⟨sl,q⟩:=slot c o (I.qP x c e) hc g ho (I.lQ x c e);exact⟨_,q,hd⟩
  .exact⟨o,keep c o (I.qP x c e) hc g ho (I.lQ x c e),hd⟩
 refine⟨I.ok,I.os,hg,⟨λb o e n hb hx=>?_,λb o e n hb hx=>?_,λb o e n hx=>?_,λb o e hx=>?_,λb xs e=>tups b xs (I.base.tups b xs e),λb o xs e=>om b o xs (I.base.om b o xs e),λb ps e=>?_⟩,?_,λx c e=>?_,?_,λx c e=>?_,λp hp=>?_,hok,I.len⟩;·exact keep b o (j b o e) hb (h b o e hx) (I.base.keep b o e n hb hx) (I.base.free b o e n hx)
 .obtain⟨sl,e1⟩:=I.base.slot b o e n hb hx;obtain⟨t,e2⟩:=slot b _ (j b o e) hb (h b o e hx) e1 (I.base.free b o e n hx);exact⟨t,e2⟩
 .obtain⟨o',e1⟩:=I.base.there b o e hx;exact free b o' (h b o e hx) e1 (I.base.free b o e n hx)
 .obtain⟨o',e1⟩:=I.base.there b o e hx;exact there b o' (h b o e hx) e1
 .obtain⟨m1,e1⟩:=I.base.oF b ps e;obtain⟨m2,e2⟩:=oF b _ e1;exact⟨m1++m2,by rw[e2,nf]⟩
 .obtain⟨m,hn,hl⟩:=I.loc;refine⟨m,ns m hn,λi x v e1 e2 e3=>?_⟩;obtain⟨u,r,l⟩:=hl i x v e1 e2 e3;refine⟨u,r,?_⟩;rcases l with l|⟨k,c,e,z⟩
  .exact .inl l
  .exact .inr ⟨k,c,e,f x c e _ z⟩
 .obtain⟨v,z⟩:=I.cell x c e;exact⟨v,f x c e v z⟩
 .obtain⟨m,⟨o,_,_,ho,_⟩,_⟩:=I.loc;exact free _ o (λz=>(a _ z).2.1 rfl) ho I.free
 .obtain⟨v,o,ho,hd⟩:=I.cell x c e;exact free c o (λz=>(a c z).2.2.1 x c e rfl) ho (I.lQ x c e)
 .obtain⟨e,n,ne,D,d⟩:=I.pin p hp;have g:p.1∉ch:=λz=>(a p.1 z).2.2.2 p hp rfl;exact⟨keep p.1 p.2 ne D g e n,free p.1 p.2 g e n,ne,D,d⟩
def Inv.un(I:Inv X pins σ H s)(u:Un X.fs [] H H' s.heap h')(hok:ez X.prog X.w H' h'):Inv X pins σ H' {s with heap:=h',toks:=t'}:=by
 obtain⟨m,⟨o,es,ep,ho,r⟩,_⟩:=id I.loc;obtain⟨sl,J⟩:=u.any ho I.free (by simp)
 exact I.step (g':=s.gens) (d':=s.drawn) (ch:=[]) (λ_ z=>nomatch z) (λb o _ hb _ e n=>u.keep b o e n hb (by simp)) (λb o _ hb _ e n=>u.slot b o e n hb (by simp)) (λb o _ e n=>u.free b o e n (by simp)) (λb o _ e=>u.there b o e (by simp)) u.tups u.om u.oF (λm' hm=>by
  obtain⟨o',es',f,d,r'⟩:=hm;rw[ho] at d;cases d
  exact⟨_,es',f,J,r'⟩) hok I.bare
def Inv.call(I:Inv X pins σ H s)(u:Un (frs X.stack) ch H H' s.heap h')(hok:ez X.prog X.w H' h')(hg:mf g')
  (a:∀b∈ch,(b∈X.ex\/X.s₀.heap.objs.size<=b)/\b≠X.env.locals/\(∀x c,X.env.cells.lookup x=some c->c≠b)/\∀p∈X.pn++pins,p.1≠b):
  Inv X pins σ H' {s with heap:=h',gens:=g',drawn:=d',toks:=t'}:=by
 obtain⟨m,⟨o,es,ep,ho,r⟩,_⟩:=id I.loc;obtain⟨sl,J⟩:=u.any ho I.free λz=>(a _ z).2.1 rfl
 exact I.step (ch:=ch) a (λb o J hb hc e n=>u.keep b o e n (λz=>(aK.mp (I.Hf b z)).elim J hb) hc) (λb o _ _ hc e n=>u.any e n hc) (λb o hc e n=>u.free b o e n hc) (λb o hc e=>u.there b o e hc) u.tups u.om u.oF (λm' hm=>by
  obtain⟨o',es',f,d,r'⟩:=hm;rw[ho] at d;cases d
  exact⟨_,es',f,J,r'⟩) hok hg
def Inv.turned(I:Inv X pins σ H s)(k:∀b o,b≠it->s.heap.get? b=some o->h'.get? b=some o)(hn:H it=none)(J:it≠X.env.locals)
  (h1:it∈X.ex\/X.s₀.heap.objs.size<=it) (h2:∀x c,X.env.cells.lookup x=some c->c≠it) (h3:∀p∈X.pn++pins,p.1≠it):Inv X pins σ H {s with heap:=h',toks:=t'}:=by
 have a:∀b u,H b=some u->b≠it:=λb u e z=>by rw[z,hn] at e;cases e
 refine I.step (g':=s.gens) (d':=s.drawn) (ch:=[it]) (λb hb=>?_) (λb o _ _ hc e _=>k b o (λz=>hc (by simp[z])) e) (λb o _ _ hc e _=>⟨o.slots,k b o (λz=>hc (by simp[z])) e⟩) (λ_ _ _ _ n=>n)
  (λb o hc e=>⟨o,k b o (λz=>hc (by simp[z])) e⟩) (λ_ _ e=>e) (λ_ _ _ e=>e) (λb ps e=>⟨#[],by rw[e];simp⟩) (λm hm=>?_) (λb u e=>?_) I.bare
 .have e:b=it:=by simpa using hb
  subst e;exact⟨h1,J,h2,h3⟩
 .obtain⟨o,es,ep,ho,r⟩:=hm;exact⟨o,es,ep,k _ o (cO J) ho,r⟩
 .refine(I.hok b u e).stay (λc v hc q=>k c v ?_ q) (λ_ q=>q) λ_ _ q=>q;rcases hc with z|z
  .rw[z];exact a b u e
  .exact a c _ z
def Inv.tok(I:Inv X pins σ H s)(t:Nat):Inv X pins σ H {s with toks:=t}:=I.un (h':=s.heap) (t':=t) Un.refl I.hok
theorem Inv.kept{t':Nat}(I:Inv X pins σ H s)(k:∀b u,s.heap.get? b=some u->h'.get? b=some u):Inv X pins σ H {s with heap:=h',toks:=t'}:=I.un (Un.kept k) (I.hok.kept k)
theorem Inv.laid{a:ax}{o:HO}{t':Nat}(I:Inv X pins σ H s)(k:∀b u,s.heap.get? b=some u->h'.get? b=some u)(hp:s.heap.objs.size<=a)(new:eE X.prog X.w (upd H a o) h' a o):
  Inv X pins σ (upd H a o) {s with heap:=h',toks:=t'}:=I.un (Un.laid k hp (I.hok.fresh hp)) (I.hok.laid k hp new)
theorem Inv.write{x e:ax}{o:HO}{t':Nat}(I:Inv X pins σ H s)(d:tS (H x))(he:e=x\/H e=some (.own x))(k:∀b u,b≠e->s.heap.get? b=some u->h'.get? b=some u)(f:∃u,h'.get? e=some u)
  (new:eE X.prog X.w (upd H x o) h' x o):Inv X pins σ (upd H x o) {s with heap:=h',toks:=t'}:=I.un (Un.write d he k f) (I.hok.write d he k f new)
def Inv.LO{a:List (ax×Obj)}(I:Inv X pins σ H s)(h:∀p∈a,s.heap.get? p.1=some p.2/\H p.1=none/\p.1≠X.env.locals/\p.1∉X.fs/\∀v,p.2.data≠ .cell v):Inv X a σ H s:=
 ⟨I.ok,I.os,I.bare,I.base,I.loc,I.cell,I.free,I.lQ,λp hp=>(fO.mp hp).elim (λz=>I.pin p (rO _ z)) (h p),I.hok,I.len⟩
def Rm(hN:N.Nodup){i j:Nat}{x:Str}(a:N[i]?=some x)(b:N[j]?=some x):i=j:=by
 obtain⟨h1,e1⟩:=bV.mp a;obtain⟨h2,e2⟩:=bV.mp b;exact(List.getElem_inj hN).mp (e1.trans e2.symm)
def RN{v:V}{Q:Unit->au->Prop}(I:Inv X pins σ H s)(hN:X.N.Nodup)(hi:X.N[i]?=some x)(hx:Loc X.env.scope x)(r:RelV v u)
  (h:∀s',Inv X pins (σ.set i (some v)) H s'->(∃a,fw a s.heap s'.heap/\(a=X.env.locals\/X.env.cells.lookup x=some a))->Q () s') (hf:X.fn x=true\/X.env.scope.names.lookup x=some .local:=by first|exact .inl rfl|exact .inr rfl|assumption):wpAny M A (storeName X.env x u) Q E s:=by
 obtain⟨m,hn,hl⟩:=id I.loc;have G:(X.env.scope.kind== .class||(X.env.scope.kind== .module && X.env.locals !=X.env.globals))=false:=by rw[I.ok.kind];rfl
 have R:i<σ.length:=by rw[I.len];exact(bV.mp hi).1
 have qP:=I.qP;have g:∀{a:ax} {h':e6},(∃o,s.heap.get? a=some o/\H a=none)->fw a s.heap h'->ez X.prog X.w H h':=λ{a h'} ha hs b ob e=>by
  obtain⟨_,_,f⟩:=ha;refine(I.hok b ob e).stay (λc w' hc q=>(hs.2 c ?_).trans q) (λ_ q=>q) λ_ _ q=>q;rintro rfl;rcases hc with rfl|hc
  .rw[f] at e;cases e
  .rw[f] at hc;cases hc
 rcases hx with hk|hk
 .refine wpAny_storeName_local hk hn (λh' P hs=>?_) G;obtain⟨S,_,_,T,_⟩:=id hn;refine h _ ⟨I.ok,I.os,I.bare,⟨λb o e n hb hx=>?_,λb o e n hb hx=>?_,I.base.free,λb o e hx=>?_,I.base.tups,I.base.om,I.base.oF⟩,⟨_,P,λj y K e1 e2 e3=>?_⟩,λy c e=>?_,I.free,I.lQ,λp hp=>?_,g ⟨S,T,I.free⟩ hs,by simpa using I.len⟩ ⟨_,hs, .inl rfl⟩;·exact(hs.2 b (eS (fJ (cD e) I.ok.above))).trans (I.base.keep b o e n hb hx)
  .obtain⟨sl,e1⟩:=I.base.slot b o e n hb hx;exact⟨sl,(hs.2 b (eS (fJ (cD e) I.ok.above))).trans e1⟩
  .obtain⟨o',e1⟩:=I.base.there b o e hx;exact⟨o',(hs.2 b (eS (fJ (cD e) I.ok.above))).trans e1⟩
  .by_cases hj:j=i
   .subst hj;rw[hi] at e1;cases e1
    rw[dB R] at e2;cases e2;exact⟨u,r, .inl ⟨hk,by simp⟩⟩
   .rw[bO (cO hj)] at e2;obtain⟨F,r',q⟩:=hl j y K e1 e2 e3;refine⟨F,r',?_⟩;rcases q with ⟨k,e⟩|⟨k,c,e,z⟩
    .refine .inl ⟨k,?_⟩;have:y≠x:=λe=>hj (Rm hN e1 (e▸hi));simp[this,e]
    .exact .inr ⟨k,c,e,z.sameBut hs (qP y c e)⟩
  .obtain⟨w',z⟩:=I.cell y c e;exact⟨w',z.sameBut hs (qP y c e)⟩
  .obtain⟨e,n,ne,D,d⟩:=I.pin p hp;exact⟨(hs.2 p.1 ne).trans e,n,ne,D,d⟩
 .have C:X.fn x=true:=by
   rcases hf with z|z
   .exact z
   .rw[z] at hk;cases hk
  obtain⟨c,hc⟩:=I.ok.has x (.inl hk);obtain⟨w',z⟩:=I.cell x c hc;refine wpAny_storeName_cell I.ok.kind hk hc z (λh' l hs=>?_);obtain⟨oc,t,O⟩:=id z;refine h {s with heap:=h'} ⟨I.ok,I.os,I.bare,⟨λb o e n hb hx=>?_,λb o e n hb hx=>?_,I.base.free,λb o e hx=>?_,I.base.tups,I.base.om,I.base.oF⟩,⟨m,hn.sameBut hs (cO (qP x c hc)),λj y K e1 e2 e3=>?_⟩,λy c' e=>?_,I.free,I.lQ,λp hp=>?_,g ⟨oc,t,I.lQ x c hc⟩ hs,by simpa using I.len⟩ ⟨c,hs, .inr hc⟩;·exact(hs.2 b (eS (fJ (cD e) (I.ok.uu x c C hc)))).trans (I.base.keep b o e n hb hx)
  .obtain⟨sl,e1⟩:=I.base.slot b o e n hb hx;exact⟨sl,(hs.2 b (eS (fJ (cD e) (I.ok.uu x c C hc)))).trans e1⟩
  .obtain⟨o',e1⟩:=I.base.there b o e hx;exact⟨o',(hs.2 b (eS (fJ (cD e) (I.ok.uu x c C hc)))).trans e1⟩
  .by_cases hj:j=i
   .subst hj;rw[hi] at e1;cases e1
    rw[dB R] at e2;cases e2;exact⟨u,r, .inr ⟨.inl hk,c,hc,l⟩⟩
   .rw[bO (cO hj)] at e2;obtain⟨F,r',q⟩:=hl j y K e1 e2 e3;refine⟨F,r',?_⟩;rcases q with q|⟨k,c',e,z'⟩
    .exact .inl q
    .refine .inr ⟨k,c',e,z'.sameBut hs ?_⟩;rintro rfl;exact hj (Rm hN e1 (I.ok.inj _ _ _ e hc▸hi))
  .by_cases J:c'=c;·subst J;exact⟨_,l⟩
   .obtain⟨L,z2⟩:=I.cell y c' e;exact⟨L,z2.sameBut hs J⟩
  .obtain⟨e,n,ne,D,d⟩:=I.pin p hp;refine⟨(hs.2 p.1 ?_).trans e,n,ne,D,d⟩;intro q;rw[q,t] at e;have B:oc=p.2:=iI e;exact d w' (by rw[<-B];exact O)
def Sk{v:V}{Q:Unit->au->Prop}(I:Inv X pins σ H s)(hN:X.N.Nodup)(hi:X.N[i]?=some x)(hx:Loc X.env.scope x)(r:RelV v u)
  (h:∀s',Inv X pins (σ.set i (some v)) H s'->Q () s') (hf:X.fn x=true\/X.env.scope.names.lookup x=some .local:=by first|exact .inl rfl|exact .inr rfl|assumption):wpAny M A (storeName X.env x u) Q E s:=
 RN I hN hi hx r (λs' b _=>h s' b) hf
def Inv.TB{s':au}(I:Inv X pins σ H s)(ho:s'.os=s.os)(u:Un (frs X.stack) ch H H' s.heap s'.heap)(hok:ez X.prog X.w H' s'.heap)(hg:mf s'.gens)
  (a:∀b∈ch,(b∈X.ex\/X.s₀.heap.objs.size<=b)/\b≠X.env.locals/\(∀x c,X.env.cells.lookup x=some c->c≠b)/\∀p∈X.pn++pins,p.1≠b):Inv X pins σ H' s':=by
 obtain⟨h',g',d',t',o'⟩:=s';have e:o'=s.os:=ho;subst e;exact I.call (g':=g') (t':=t') (d':=d') u hok hg a
end
abbrev XK:=ar->Option ax->Hp->Prop
noncomputable abbrev qr:=List (Option V)
abbrev VK:=V->Hp->Prop
abbrev TE:=qr->Hp->VK->Prop
abbrev TT:=qr->Hp->(Bool->Hp->Prop)->Prop
abbrev TA:=qr->Hp->(List V->Hp->Prop)->Prop
structure Ends where
 nx:qr->Hp->Prop
 rt:VK
 bk:qr->Hp->Prop:=λ_ _=>False
 ct:qr->Hp->Prop:=λ_ _=>False
abbrev TS:=Ends->qr->Hp->Prop
def EP(X:Cx)(pins:List (ax×Obj))(σ:qr)(Q:VK)(u:ar)(s':au):Prop:=∃v H',Inv X pins σ H' s'/\RelV v u/\Q v H'
def TP(X:Cx)(pins:List (ax×Obj))(σ:qr)(Q:Bool->Hp->Prop)(b:Bool)(s':au):Prop:=∃H',Inv X pins σ H' s'/\Q b H'
def AP(X:Cx)(pins:List (ax×Obj))(σ:qr)(Q:List V->Hp->Prop)(us:List ar)(s':au):Prop:=∃vs H',Inv X pins σ H' s'/\Vals vs us/\Q vs H'
def SP(X:Cx)(pins:List (ax×Obj))(D:Ends)(f:Flow)(s':au):Prop:=
 match f with
 | .next=>∃L H',Inv X pins L H' s'/\D.nx L H'
 | .brk=>∃L H',Inv X pins L H' s'/\D.bk L H'
 | .cont=>∃L H',Inv X pins L H' s'/\D.ct L H'
 | .ret u=>∃v L H',Inv X pins L H' s'/\RelV v u/\D.rt v H'
def PE(X:Cx)(e:eM)(t:TE):Prop:=
 ∀(pins:List (ax×Obj)) (s:au) (σ:qr) (H:Hp) (Q:VK),Inv X pins σ H s->t σ H Q->wpAny (bo X.prog X.w) X.A (eval e X.env) (EP X pins σ Q) X.xe s
def PT(X:Cx)(e:eM)(t:TT):Prop:=
 ∀(pins:List (ax×Obj)) (s:au) (σ:qr) (H:Hp) (Q:Bool->Hp->Prop),Inv X pins σ H s->t σ H Q->wpAny (bo X.prog X.w) X.A (isTrue e X.env (eval e X.env)) (TP X pins σ Q) X.xe s
def PW(X:Cx)(e:eM)(t:TT):Prop:=
 ∀(whole:Sem ar) (pins:List (ax×Obj)) (s:au) (σ:qr) (H:Hp) (Q:Bool->Hp->Prop),Inv X pins σ H s->t σ H Q->wpAny (bo X.prog X.w) X.A (isTrue e X.env whole) (TP X pins σ Q) X.xe s
def PW.pt{X:Cx}{t:TT}(h:PW X e t):PT X e t:=h _
def PA(X:Cx)(es:List eM)(t:TA):Prop:=
 ∀(pos:Pos) (pins:List (ax×Obj)) (s:au) (σ:qr) (H:Hp) (Q:List V->Hp->Prop),Inv X pins σ H s->t σ H Q->wpAny (bo X.prog X.w) X.A (spliced (lS pos (c6 es X.env))) (AP X pins σ Q) X.xe s
def PS(X:Cx)(st:fb)(t:TS):Prop:=
 ∀(pins:List (ax×Obj)) (s:au) (σ:qr) (H:Hp) (D:Ends),Inv X pins σ H s->t D σ H->wpAny (bo X.prog X.w) X.A (exec st X.env) (SP X pins D) X.xe s
def kC(X:Cx)(st:List fb)(t:TS):Prop:=
 ∀(pins:List (ax×Obj)) (s:au) (σ:qr) (H:Hp) (D:Ends),Inv X pins σ H s->t D σ H->wpAny (bo X.prog X.w) X.A (execs st X.env) (SP X pins D) X.xe s
def aQ{α:Type}{t:Sem α}{Q d:α->au->Prop}(h:wpAny M A t Q E s)(G:∀a s,Q a s->d a s):wpAny M A t d E s:=fm h G λ_ _ x=>x
section
variable{X:Cx}
def dD(i:Nat):TE:=λσ H Q=>∃v,σ[i]?=some (some v)/\Q v H
def tC(v:V):TE:=λ_ H Q=>Q v H
def afR(hN:X.N[i]?=some x)(hv:Kd X.env.scope x)(hd:(x==("__debug__":Str))=false:=by decide)(j:(x==("__classdict__":Str))=false:=by decide):PE X (.Name x pos) (dD i):=by
 intro pins s σ H Q I h;obtain⟨v,e,h⟩:=h;obtain⟨m,hn,hl⟩:=I.loc;obtain⟨u,r,l⟩:=hl i x v hN e hv;have fin:EP X pins σ Q u s:=⟨v,H,I,r,h⟩;rcases l with ⟨hk,hm⟩|⟨hk,c,hc,hcell⟩
 .exact vx (wpAny_loadName_local I.ok.kind hk hn hm fin) hd
 .rcases hk with hk|hk
  .exact vx (wpAny_loadName_cell I.ok.kind hk hc hcell fin) hd
  .exact vx (wpAny_loadName_free I.ok.kind hk hc hcell fin j) hd
def aj{i j pos}:PE X (.Constant (.int i) j pos) (tC (.int i)):=λ_ _ _ H _ I h=>wpAny_Constant_int ⟨.int i,H,I.tok _,⟨_,rfl⟩,h⟩
def pW{b j pos}:PE X (.Constant (.bool b) j pos) (tC (.bl b)):=λ_ _ _ H _ I h=>Constant_bool ⟨.bl b,H,I,rfl,h⟩
def gc{j pos}:PE X (.Constant .none j pos) (tC .aL):=λ_ _ _ H _ I h=>Constant_none ⟨.aL,H,I,rfl,h⟩
def bY{x j pos}:PE X (.Constant (.str x) j pos) (tC (.str x)):=λ_ _ _ H _ I h=>Calls.Constant_str ⟨.str x,H,I.tok _,⟨_,rfl⟩,h⟩
def Gl(X:Cx)(x:Str):Prop:=X.env.kindOf x=some .globalImplicit
def GN{σ:qr}{H:Hp}(I:Inv X pins σ H s)(hg:Gl X x)(hm:X.mg x=some u)(h:Q u s)
  (hd:(x==("__debug__":Str))=false:=by decide):wpAny (bo X.prog X.w) X.A (eval (.Name x pos) X.env) Q E s:=
 Qy I.ok.kind hg (Calls.loadGlobal_global (by rw[I.ok.glob];exact I.mod.glob.keeps I.bk) hm h) hd
def rC{σ:qr}{H:Hp}(I:Inv X pins σ H s)(hg:Gl X x)(hm:X.mg x=none)(hv:ij x=some u)(h:Q u s)
  (hn:x≠"__name__":=by decide) (hd:(x==("__debug__":Str))=false:=by decide):wpAny (bo X.prog X.w) X.A (eval (.Name x pos) X.env) Q E s:=by
 obtain⟨mb,h1,h2⟩:=I.mod.blt;exact Qy I.ok.kind hg (Calls.loadGlobal_builtin (by rw[I.ok.glob];exact I.mod.glob.keeps I.bk) hm (by rw[I.ok.blt];exact h1.keeps I.bk) ((h2 x hn).trans hv) h) hd
def uy{v:V}(hg:Gl X x)(hm:X.mg x=some u)(r:RelV v u)(hd:(x==("__debug__":Str))=false:=by decide):PE X (.Name x pos) (tC v):=
 λ_ _ _ H _ I h=>GN I hg hm ⟨v,H,I,r,h⟩ hd
def XW{v:V}(hg:Gl X x)(hm:X.mg x=none)(hv:ij x=some u)(r:RelV v u)(hn:x≠"__name__":=by decide)(hd:(x==("__debug__":Str))=false:=by decide):PE X (.Name x pos) (tC v):=
 λ_ _ _ H _ I h=>rC I hg hm hv ⟨v,H,I,r,h⟩ hn hd
variable{a b:eM}{ta tb:TE}{pos:Pos}
def PC(X:Cx)(op:CmpOp)(a b:eM)(t:TE):Prop:=
 ∀(pins:List (ax×Obj)) (s:au) (σ:qr) (H:Hp) (Q:VK),Inv X pins σ H s->t σ H Q->
  wpAny (bo X.prog X.w) X.A (eval a X.env) (λv s₁=>wpAny (bo X.prog X.w) X.A (eval b X.env) (λu d=>wpAny (bo X.prog X.w) X.A (du op v u) (EP X pins σ Q) X.xe d) X.xe s₁) X.xe s
variable{tA yr:TT}{rest:List eM}
def Gz(t u:TT):TT:=λσ H Q=>t σ H λc H1=>if c=true then u σ H1 Q else Q false H1
def K8(t u:TT):TT:=λσ H Q=>t σ H λc H1=>if c=true then Q true H1 else u σ H1 Q
def QT(t:TT):TT:=λσ H Q=>t σ H λc H1=>Q (!c) H1
def mh(ha:PT X a tA):PW X (.BoolOp .And [a] pos) tA:=by
 intro wh pins s σ H Q I h;refine isTrue_and (aQ (ha pins s σ H Q I h) λc s1 e=>?_);cases c with
 |true=>exact isTrue_and_nil e
 |false=>exact e
def uB(ha:PT X a tA):PW X (.BoolOp .Or [a] pos) tA:=by
 intro wh pins s σ H Q I h;refine isTrue_or (aQ (ha pins s σ H Q I h) λc s1 e=>?_);cases c with
 |false=>exact isTrue_or_nil e
 |true=>exact e
def mQ(ha:PT X a tA)(hb:PW X (.BoolOp .And (b::rest) pos) yr):PW X (.BoolOp .And (a::b::rest) pos) (Gz tA yr):=by
 intro wh pins s σ H Q I h;refine isTrue_and (aQ (ha pins s σ H _ I h) λc s1 ⟨H1,I1,J⟩=>?_);cases c with
 |true=>exact hb wh pins s1 σ H1 Q I1 J
 |false=>exact⟨H1,I1,J⟩
def mL(ha:PT X a tA)(hb:PW X (.BoolOp .Or (b::rest) pos) yr):PW X (.BoolOp .Or (a::b::rest) pos) (K8 tA yr):=by
 intro wh pins s σ H Q I h;refine isTrue_or (aQ (ha pins s σ H _ I h) λc s1 ⟨H1,I1,J⟩=>?_);cases c with
 |true=>exact⟨H1,I1,J⟩
 |false=>exact hb wh pins s1 σ H1 Q I1 J
def zL(ha:PT X a tA):PT X (.UnaryOp .Not a pos) (QT tA):=by
 intro pins s σ H Q I h;exact isTrue_not (ha pins s σ H (λc H1=>Q (!c) H1) I h)
def RQ(ta tb:TE):TE:=λσ H Q=>ta σ H λx H1=>∃c,x= .bl c/\if c=true then tb σ H1 Q else Q (.bl false) H1
def PB{op}{t:TE}(h:PE X a t):PE X (.BoolOp op [a] pos) t:=λpins s σ H Q I hw=>BoolOp_one (h pins s σ H Q I hw)
def RP(ha:PE X a ta)(hb:PE X (.BoolOp .And (b::rest) pos) tb):PE X (.BoolOp .And (a::b::rest) pos) (RQ ta tb):=by
 intro pins s σ H Q I h;refine BoolOp_and (aQ (ha pins s σ H _ I h) λv s1 ⟨x,H1,I1,C,J⟩=>?_);obtain⟨c,rfl,J⟩:=J;cases C;refine hQ ?_;cases c with
 |true=>exact hb pins s1 σ H1 Q I1 J
 |false=>exact⟨.bl false,H1,I1,rfl,J⟩
def zw(t:TT)(ta tb:TE):TE:=λσ H Q=>t σ H λc H1=>if c=true then ta σ H1 Q else tb σ H1 Q
def lC{c:eM}(hc:PT X c tA)(ha:PE X a ta)(hb:PE X b tb):PE X (.IfExp c a b pos) (zw tA ta tb):=by
 intro pins s σ H Q I h;refine wpAny_IfExp (aQ (hc pins s σ H _ I h) λd s1 ⟨H1,I1,J⟩=>?_);cases d with
 |true=>exact ha pins s1 σ H1 Q I1 J
 |false=>exact hb pins s1 σ H1 Q I1 J
end
def bw(K:PySem.W.Frag)(H:Hp)(a:ax)(xs:List V):Prop:=
 Rd H a (.lst xs)\/
  ∃(o:Obj) (its:Array ar) (n:Nat),K.lookup a=some o/\o.cls= .type "list" /\o.dict=none/\o.data= .seq its n/\its.size<=sizeLine/\Vals xs its.toList
def fE(K:PySem.W.Frag)(H:Hp)(a:ax)(xs:List V):Prop:=
 Rd H a (.tup xs)\/
  ∃(o:Obj) (its:Array ar) (n:Nat),K.lookup a=some o/\o.cls= .type "tuple" /\o.data= .seq its n/\its.size<=sizeLine/\Vals xs its.toList
noncomputable def Wg:ar->Option V
 | .none=>some .aL
 | .bool b=>some (.bl b)
 | .int i _=>some (.int i)
 | .str x _=>some (.str x)
 | .bytes b _=>some (.jF b)
 | .float b _=>some (.m7 b)
 | .ref a=>some (.ref a)
 | .type n=>some (.ty n)
 |_=>none
def RelV.abs{x:V}(r:RelV x u):Wg u=some x:=by
 cases x with
 |aL=>cases r;rfl
 |bl _=>cases r;rfl
 |int _=>obtain⟨t,rfl⟩:=r;rfl
 |str _=>obtain⟨t,rfl⟩:=r;rfl
 |jF _=>obtain⟨t,rfl⟩:=r;rfl
 |m7 _=>obtain⟨t,rfl⟩:=r;rfl
 |ref _=>cases r;rfl
 |ty _=>cases r;rfl
def RelV.inj{x y:V}(r:RelV x u)(q:RelV y u):x=y:=iI (r.abs.symm.trans q.abs)
theorem Vals.inj{xs ys:List V}{us:List ar}(h:Vals xs us)(k:Vals ys us):xs=ys:=by
 induction h generalizing ys with
 |nil=>cases k;rfl
 |cons r t ih=>cases k with|cons r' t'=>rw[r.inj r',ih t']
section
variable{X:Cx}{pins:List (ax×Obj)}{σ:qr}{H:Hp}{s:au}{a:ax}{xs ys:List V}
def bw.of{K:PySem.W.Frag}(h:H a=some (.lst xs)):bw K H a xs:= .inl (.inl h)
def fE.of{K:PySem.W.Frag}(h:H a=some (.tup xs)):fE K H a xs:= .inl (.inl h)
theorem Inv.list(I:Inv X pins σ H s)(h:bw X.K H a xs):∃its:List ar,Vals xs its/\PlainL s.heap a its.toArray/\xs.length<=sizeLine:=by
 rcases h with h|⟨o,its,n,hk,hc,hd,hs,hz,r⟩
 .obtain⟨z,its,n,r,e⟩:=h.ok I.hok;exact⟨its,r,⟨_,n,e,rfl,rfl,rfl⟩,z⟩
 .refine⟨its.toList,r,⟨o,n,I.fK a o hk,hc,hd,by simpa using hs⟩,?_⟩;have e:=r.length;simp only[dS] at e;omega
theorem Inv.tuple(I:Inv X pins σ H s)(h:fE X.K H a xs):∃its:List ar,Vals xs its/\IsTup s.heap a its.toArray/\xs.length<=sizeLine:=by
 rcases h with h|⟨o,its,n,hk,hc,hs,hz,r⟩
 .obtain⟨z,its,r,p⟩:=h.ok I.hok;exact⟨its,r,p,z⟩
 .refine⟨its.toList,r,⟨o,I.fK a o hk,hc,n,by simpa using hs⟩,?_⟩;have e:=r.length;simp only[dS] at e;omega
def Inv.Mt(I:Inv X pins σ H s)(h:bw X.K H a xs)(h':bw X.K H a ys):xs=ys:=by
 obtain⟨its,r,⟨o,n,e,_,_,d⟩,_⟩:=I.list h;obtain⟨its',r',⟨o',c,e',_,_,d'⟩,_⟩:=I.list h';rw[e] at e';cases e'
 rw[d] at d';injection d' with d1 _
 have:its=its':=by simpa using congrArg xf d1
 subst this;exact r.inj r'
def Inv.HS(I:Inv X pins σ H s)(h:fE X.K H a xs)(h':fE X.K H a ys):xs=ys:=by
 obtain⟨its,r,⟨o,e,_,n,d⟩,_⟩:=I.tuple h;obtain⟨its',r',⟨o',e',_,c,d'⟩,_⟩:=I.tuple h';rw[e] at e';cases e'
 rw[d] at d';injection d' with d1 _
 have:its=its':=by simpa using congrArg xf d1
 subst this;exact r.inj r'
end
noncomputable abbrev Cx.mW(X:Cx)(E:ar->au->Prop):Cx:={X with xe:=E}
noncomputable abbrev Cx.Cw(X:Cx):Cx:=X.mW λ_ _=>False
theorem Cx.Ok.mW{X:Cx}(ok:X.Ok)(E:ar->au->Prop):(X.mW E).Ok:=
 ⟨ok.mod,ok.kind,ok.glob,ok.blt,ok.above,ok.inj,ok.has,ok.uu,ok.hd,ok.frames,ok.stk,ok.Bt,ok.bs,ok.pH,ok.vj,ok.tZ,ok.kO,ok.qi⟩
def Cx.Ok.o5{X:Cx}(ok:(X.mW E).Ok):X.Ok:=
 ⟨ok.mod,ok.kind,ok.glob,ok.blt,ok.above,ok.inj,ok.has,ok.uu,ok.hd,ok.frames,ok.stk,ok.Bt,ok.bs,ok.pH,ok.vj,ok.tZ,ok.kO,ok.qi⟩
section
variable{X:Cx}{pins:List (ax×Obj)}{σ:qr}{H:Hp}{s:au}{E:ar->au->Prop}
theorem Inv.mW(I:Inv X pins σ H s)(E:ar->au->Prop):Inv (X.mW E) pins σ H s:=⟨I.ok.mW E,I.os,I.bare,I.base,I.loc,I.cell,I.free,I.lQ,I.pin,I.hok,I.len⟩
theorem Inv.o5(I:Inv (X.mW E) pins σ H s):Inv X pins σ H s:=⟨I.ok.o5,I.os,I.bare,I.base,I.loc,I.cell,I.free,I.lQ,I.pin,I.hok,I.len⟩
theorem SP.o5{D:Ends}{f:Flow}{s':au}(h:SP (X.mW E) pins D f s'):SP X pins D f s':=by
 cases f with
 |next=>obtain⟨L,H',I,q⟩:=h;exact⟨L,H',I.o5,q⟩
 |brk=>obtain⟨L,H',I,q⟩:=h;exact⟨L,H',I.o5,q⟩
 |cont=>obtain⟨L,H',I,q⟩:=h;exact⟨L,H',I.o5,q⟩
 |ret u=>obtain⟨v,L,H',I,r,q⟩:=h;exact⟨v,L,H',I.o5,r,q⟩
theorem kC.Cw{st:List fb}{t:TS}(h:kC X.Cw st t):kC X st t:=λpins s σ H D I hw=>
 fm (h pins s σ H D (I.mW _) hw) (λ_ _ q=>q.o5) λ_ _ z=>eo z
end
section
variable{X:Cx}{st:fb}{rest:List fb}{t u:TS}{e:eM}{te:TE}{pos:Pos}
def G6:TS:=λD σ H=>D.nx σ H
def qW(t u:TS):TS:=λD σ H=>t {D with nx:=u D} σ H
def eH:kC X [] G6:=λ_ _ σ H _ I h=>jt ⟨σ,H,I,h⟩
def ay(h1:PS X st t)(h2:kC X rest u):kC X (st::rest) (qW t u):=by
  intro pins s σ H D I h;refine qc (aQ (h1 pins s σ H {D with nx:=u D} I h) λf s1 q=>?_);cases f with
  | next =>
    obtain⟨L,H',b,q⟩:=q;exact h2 pins s1 L H' D b q
  |ret v=>exact q
  |brk=>exact q
  |cont=>exact q
def aF(h1:PS X st t):kC X [st] t:=by
 intro pins s σ H D I h;refine qc (aQ (h1 pins s σ H D I h) λf s1 q=>?_);cases f with
 |next=>exact jt q
 |ret v=>exact q
 |brk=>exact q
 |cont=>exact q
def afZ:TS:=λD σ H=>D.bk σ H
def WW:TS:=λD σ H=>D.ct σ H
def Inv.quiet{σ:qr}{H:Hp}(I:Inv X pins σ H s):interactive X.env=false:=by simp[interactive,I.ok.kind]
def vI(te:TE):TS:=λD σ H=>te σ H λ_ H1=>D.nx σ H1
def uN(he:PE X e te)(hs:rA e none pos.line X.env=pure false:=by rfl):PS X (.Expr e pos) (vI te):=by
 intro pins s σ H D I h;exact wpAny_Expr_any (aQ (he pins s σ H _ I h) λv s1 ⟨x,H1,I1,C,J⟩=>⟨σ,H1,I1,J⟩) I.quiet hs
def nZ(te:TE):TS:=λD σ H=>te σ H D.rt
def aR(he:PE X e te):PS X (.Return (some e) pos) (nZ te):=by
 intro pins s σ H D I h;exact wpAny_Return_some (aQ (he pins s σ H _ I h) λv s1 ⟨x,H1,I1,C,J⟩=>⟨x,σ,H1,I1,C,J⟩)
def JE(c:TT)(t u:TS):TS:=λD σ H=>c σ H λb H1=>if b=true then t D σ H1 else u D σ H1
def eG{c:eM}{a b:List fb}{tc:TT}(hc:PT X c tc)(ha:kC X a t)(hb:kC X b u):PS X (.If c a b pos) (JE tc t u):=by
 intro pins s σ H D I h;refine wpAny_If (aQ (hc pins s σ H _ I h) λd s1 ⟨H1,I1,J⟩=>?_);cases d with
 |true=>exact ha pins s1 σ H1 D I1 J
 |false=>exact hb pins s1 σ H1 D I1 J
end
abbrev TG:=V->qr->Hp->(qr->Hp->Prop)->Prop
abbrev jC:=List V->qr->Hp->(qr->Hp->Prop)->Prop
def PG(X:Cx)(a:eM)(t:TG):Prop:=
 ∀(pins:List (ax×Obj)) (s:au) (σ:qr) (H:Hp) (v:V) (u:ar) (Q:qr->Hp->Prop),Inv X pins σ H s->RelV v u->t v σ H Q->
  wpAny (bo X.prog X.w) X.A (vy a X.env u) (λ_ s'=>∃L H',Inv X pins L H' s'/\Q L H') X.xe s
def ug(X:Cx)(b:List eM)(t:jC):Prop:=
 ∀(pins:List (ax×Obj)) (s:au) (σ:qr) (H:Hp) (vs:List V) (us:List ar) (Q:qr->Hp->Prop),Inv X pins σ H s->Vals vs us->t vs σ H Q->
  wpAny (bo X.prog X.w) X.A (assignInOrder ((hU b X.env).map (·.2)) us) (λ_ s'=>∃L H',Inv X pins L H' s'/\Q L H') X.xe s
abbrev Bp:=V->V->V->Hp->(Hp->Prop)->Prop
def Fx(X:Cx)(t:Bp):Prop:=
 ∀(pins:List (ax×Obj)) (s:au) (σ:qr) (H:Hp) (o i v:V) (b a u:ar) (Q:Hp->Prop),Inv X pins σ H s->RelV o b->RelV i a->RelV v u->t o i v H Q->
  wpAny (bo X.prog X.w) X.A (setItem b a u) (λ_ s'=>∃H',Inv X pins σ H' s'/\Q H') X.xe s
section
variable{X:Cx}{pos:Pos}
def gZ(i:Nat):TG:=λv σ H Q=>Q (σ.set i (some v)) H
def aJ(hN:X.N.Nodup)(hi:X.N[i]?=some x)(hx:Loc X.env.scope x)(hf:X.fn x=true\/X.env.scope.names.lookup x=some .local:=by first|exact .inl rfl|exact .inr rfl|assumption):PG X (.Name x pos) (gZ i):=by
 intro pins s σ H v u Q I r h;exact oo (Sk I hN hi hx r (λs' b=>⟨_,H,b,h⟩) hf)
def Hr:jC:=λvs σ H Q=>vs=[]/\Q σ H
def Er(t:TG)(u:jC):jC:=λvs σ H Q=>∃v r,vs=v::r/\t v σ H λL H'=>u r L H' Q
def iz:ug X [] Hr:=by
 intro pins s σ H vs us Q I r h;obtain⟨e,h⟩:=h;subst e;cases r;exact assignInOrder_nil ⟨σ,H,I,h⟩
def bS{e:eM}{es:List eM}{t:TG}{u:jC}(h1:PG X e t)(h2:ug X es u)
    (hs:(hU (e::es) X.env).map (·.2)=vy e X.env::(hU es X.env).map (·.2):=by rfl):ug X (e::es) (Er t u):=by
  intro pins s σ H vs us Q I r h;obtain⟨v,vr,e1,h⟩:=h;subst e1;cases r with
  | cons r d =>
    rw[hs];refine assignInOrder_cons (aQ (h1 pins s σ H _ _ _ I r h) λ_ s1 ⟨a,H1,I1,J⟩=>?_);exact h2 pins s1 a H1 _ _ Q I1 d J
def Ak(K:PySem.W.Frag)(n:Nat)(t:jC):TG:=λv σ H Q=>∃a xs,v= .ref a/\fE K H a xs/\xs.length=n/\t xs σ H Q
def NV{es:List eM}{k:Nat}{t:jC}(hc:X.calm=true)(h:ug X es t)
  (hn:(hU es X.env).length=n:=by rfl) (d:(hU es X.env).findIdx? (·.1)=none:=by rfl):PG X (.Tuple es k pos) (Ak X.K n t):=by
 intro pins s σ H v u Q I r hw;obtain⟨a,xs,e1,hq,hl,hw⟩:=hw;subst e1;cases r;obtain⟨its,rv,ht,hz⟩:=I.tuple hq;refine assign_Tuple_tuple (I.ok.hd hc) ht (by simp[hn,<-hl,rv.length]) d λh' hx=>?_;have I1:Inv X pins σ H {s with heap:=h'}:=I.kept (t':=s.toks) λb o e=>hx b o (eS (cD e)) e;exact h pins _ σ H xs _ Q I1 (by simpa using rv) hw
def qq(to c:TE)(t:Bp):TG:=λv σ H Q=>to σ H λo H1=>c σ H1 λi H2=>t o i v H2 λH3=>Q σ H3
def mH{o i:eM}{to c:TE}{t:Bp}(ho:PE X o to)(hi:PE X i c)(hs:Fx X t)
  (ha : ∀ v, assign (.Subscript o i pos) X.env v = (do
   let b<-holding [v] (eval o X.env)
   let a<-holding [v,b] (eval i X.env)
   standAt pos
   holding [v,b,a] (setItem b a v)
   release [v,b,a] []):=by intro _;rfl):PG X (.Subscript o i pos) (qq to c t):=by
 intro pins s σ H v u Q I r h;rw[ha];refine ae (ej (aQ (ho pins s σ H _ I h) λb s1 ⟨x,H1,I1,C,J⟩=>?_));refine ae (ej (aQ (hi pins s1 σ H1 _ I1 J) λa s2 ⟨y,H2,I2,Y,q2⟩=>?_));refine ae (ng (ae (ej (aQ (hs pins s2 σ H2 x y v b a u _ I2 C Y r q2) λ_ s3 ⟨H3,I3,U⟩=>?_))));exact wpAny_release ⟨σ,H3,I3,U⟩
def gD(te:TE)(g:TG):TS:=λD σ H=>te σ H λx H1=>g x σ H1 D.nx
def iW{te:TE}{g:TG}(he:PE X e te)(hg:PG X tg g)(hs:swapsWithSole [tg] e pos.line X.env=pure false:=by rfl)(hw:swappedStores [tg] e X.env=pure none:=by rfl)
  (h1:(hU [tg] X.env).map (·.2)=[vy tg X.env]:=by rfl):PS X (.Assign [tg] e pos) (gD te g):=by
 intro pins s σ H D I h;refine wpAny_Assign_stores (aQ (he pins s σ H _ I h) λv s1 ⟨x,H1,I1,C,J⟩=>?_) hs hw;rw[h1];exact aQ (hg pins s1 σ H1 x v _ I1 C J) λ_ s2 q=>q
def aO{i:Nat}{x:Str}{e:eM}{te:TE}{pos':Pos}(hN:X.N.Nodup)(hi:X.N[i]?=some x)(hx:Loc X.env.scope x)(he:PE X e te)(hs:rA e (some (.Name x pos')) pos.line X.env=pure false:=by rfl)(hf:X.fn x=true\/X.env.scope.names.lookup x=some .local:=by first|exact .inl rfl|exact .inr rfl|assumption):
  PS X (.Assign [.Name x pos'] e pos) (gD te (gZ i)):=by
 intro pins s σ H D I h;refine wpAny_Assign_Name (aQ (he pins s σ H _ I h) λv s1 ⟨y,H1,I1,C,J⟩=>?_) hs;exact Sk I1 hN hi hx C (λs2 I2=>⟨_,H1,I2,J⟩) hf
end
section
variable{X:Cx}{pos:Pos}
def GS(c:TT)(tb:TS):TS:=λD σ H=>∃W:Nat->qr->Hp->Prop,(∃m,W m σ H)/\∀m σ H,W m σ H->
 c σ H λb H1=>if b=true then∃N:qr->Hp->Prop,(∀L H',N L H'->∃m',m'<m/\W m' L H')/\tb {D with nx:=N,ct:=N,bk:=D.nx} σ H1 else D.nx σ H1
def Ji{c:eM}{a:List fb}{tc:TT}{tb:TS}(hp:PassesOwn (bo X.prog X.w) X.A X.env X.xe)(hc:PT X c tc)(hb:kC X a tb):PS X (.While c a [] pos) (GS tc tb):=by
  intro pins s σ H D I h;obtain⟨W,⟨Z,w0⟩,L⟩:=h;refine wpAny_While (codeAny_whileLoop (λn s'=>∃σ' H',Inv X pins σ' H' s'/\W n σ' H') ?_ Z ⟨σ,H,I,w0⟩);rintro n s1 ⟨σ1,H1,I1,w1⟩;refine eD hp (aQ (hc pins s1 σ1 H1 _ I1 (L n σ1 H1 w1)) λb s2 ⟨H2,I2,q2⟩=>?_);cases b with
  | true =>
    obtain⟨N,hN,q2⟩:=q2;rw[if_pos rfl];refine eD hp (aQ (hb pins s2 σ1 H2 _ I2 q2) λf s3 U=>?_);cases f with
    | next =>
      obtain⟨d,H3,I3,j⟩:=U;obtain⟨m',hm,e⟩:=hN d H3 j;exact⟨m',hm,d,H3,I3,e⟩
    | cont =>
      obtain⟨d,H3,I3,j⟩:=U;obtain⟨m',hm,e⟩:=hN d H3 j;exact⟨m',hm,d,H3,I3,e⟩
    |brk=>exact U
    |ret v=>exact U
  | false =>
    rw[if_neg cC];exact jt ⟨σ1,H2,I2,q2⟩
end
structure It where
 go:Nat->Hp->Prop
 qM:Nat->Hp->V->Hp->Prop
 stop:Nat->Hp->Prop
def jG(X:Cx)(pins:List (ax×Obj))(H:Hp)(b:ax):Prop:=
 H b=none/\b≠X.env.locals/\b∉X.fs/\(b∈X.ex\/X.s₀.heap.objs.size<=b)/\(∀x c,X.env.cells.lookup x=some c->c≠b)/\∀p∈X.pn++pins,p.1≠b
def Inv.pR{X:Cx}{σ:qr}{H H':Hp}(I:Inv X pins σ H s)(hb:s.heap.objs.size<=b)(hn:H' b=none):jG X pins H' b:=by
 refine⟨hn,sr (fJ I.lt hb),I.YB hb, .inr (eu I.sz hb),λx c e z=>?_,λp hp z=>?_⟩
 .obtain⟨v,q⟩:=I.cell x c e;exact absurd (fJ q.lt (by rw[z];exact hb)) (kE _)
 .exact absurd (fJ (cD (I.pin p hp).1) (by rw[z];exact hb)) (kE _)
structure Turn(P:cj)(w:dc)(K:PySem.W.Frag)(tg:eM)(J:It)(fp:List ax)(it:ax)(tn:Nat->e6->Prop):Prop where
 mem:it∈fp
 obj:∀i h,tn i h->∀b∈fp,∃o,h.get? b=some o/\∀v,o.data≠ .cell v
 keep:∀i h h',tn i h->(∀b∈fp,∀o,h.get? b=some o->h'.get? b=some o)->tn i h'
 item:∀(X:Cx),X.prog=P->X.w=w->X.K=K->X.calm=true->∀(i:Nat) (pins:List (ax×Obj)) (s:au) (σ:qr) (H:Hp) (E:ar->au->Prop),Inv X pins σ H s->(∀b∈fp,jG X pins H b)->tn i s.heap->J.go i H->
  wpAny (bo P w) X.A (mx (.ref it)) (λr s1=>∃u,r=some u/\
   wpAny (bo P w) X.A (jQ tg (.ref it) u) (λ_ s2=>∃x H',Inv X pins σ H' s2/\RelV x u/\J.qM i H x H'/\tn (i+1) s2.heap/\∀b∈fp,H' b=none) E s1) E s
 done:∀(X:Cx),X.prog=P->X.w=w->X.K=K->X.calm=true->∀(i:Nat) (pins:List (ax×Obj)) (s:au) (σ:qr) (H:Hp) (E:ar->au->Prop),Inv X pins σ H s->(∀b∈fp,jG X pins H b)->tn i s.heap->J.stop i H->
  wpAny (bo P w) X.A (mx (.ref it)) (λr s1=>r=none/\Inv X pins σ H s1) E s
 self:∀(A:c5) (i:Nat) (s:au) (Q:ar->au->Prop) (E:ar->au->Prop),tn i s.heap->Q (.ref it) s->wpAny (bo P w) A (C2 (.ref it)) Q E s
abbrev TI:=qr->Hp->(It->Hp->Prop)->Prop
def OI(X:Cx)(pins:List (ax×Obj))(σ:qr)(tg:eM)(R:It->Hp->Prop)(itv:ar)(s2:au):Prop:=
 ∃(it:ax) (fp:List ax) (tn:Nat->e6->Prop) (J:It) (H':Hp),itv= .ref it/\Inv X pins σ H' s2/\Turn X.prog X.w X.K tg J fp it tn/\tn 0 s2.heap/\(∀b∈fp,jG X pins H' b)/\R J H'
def PI(X:Cx)(tg l:eM)(F:TI):Prop:=
 ∀(pins:List (ax×Obj)) (s:au) (σ:qr) (H:Hp) (R:It->Hp->Prop),Inv X pins σ H s->F σ H R->
  wpAny (bo X.prog X.w) X.A (eval l X.env) (λv s1=>wpAny (bo X.prog X.w) X.A (C2 v) (OI X pins σ tg R) X.xe s1) X.xe s
def ux{n:String}{vs:Array ar}{Q:Unit->au->Prop}(ho:s.heap.get? it=some o)(hc:o.cls= .type n)(hd:o.data= .fields vs)
    (hn:["enumerate","zip","dict_itemiterator","dict_reverseitemiterator","odict_iterator","itertools.zip_longest","itertools.pairwise"].contains n=false) (G:Q () s):wpAny M A (jQ tg (.ref it) u) Q E s:=by
  unfold jQ
  cases tg<;>first
    |exact aw G
    |(cases u<;>first
        |exact aw G
        | (refine wpAny_bind (wpAny_load ho ?_)
           rw[hc,hd];show wpAny M A (if(["enumerate","zip","dict_itemiterator","dict_reverseitemiterator","odict_iterator","itertools.zip_longest","itertools.pairwise"].contains n && vs[0]?==some (da _))=true then _ else _) Q E s;rw[if_neg (by intro h;rw[hn,Bool.false_and] at h;cases h)];exact aw G))
noncomputable def qD(K:PySem.W.Frag)(a:ax):It:=
 ⟨λi H=>∃xs x,bw K H a xs/\xs[i]?=some x,λi H x H'=>H'=H/\∀xs,bw K H a xs->xs[i]?=some x,λi H=>∃xs,bw K H a xs/\xs.length<=i⟩
noncomputable def EZ(K:PySem.W.Frag)(a:ax):It:=
 ⟨λi H=>∃xs x,fE K H a xs/\xs[i]?=some x,λi H x H'=>H'=H/\∀xs,fE K H a xs->xs[i]?=some x,λi H=>∃xs,fE K H a xs/\xs.length<=i⟩
noncomputable def jI(lo:Int)(n:Nat):It:=⟨λi _=>i<n,λi H x H'=>H'=H/\x= .int (lo+i),λi _=>n<=i⟩
theorem X8{P:cj}{K:PySem.W.Frag}(a it:ax):Turn P w K tg (qD K a) [it] it (λi h=>h.IsListIter it a i) where
 mem:=by simp
 obj:=λi h st b hb=>by
  have e:b=it:=by simpa using hb
  subst e;obtain⟨o,e,c,d⟩:=st;exact⟨o,e,λv z=>by rw[d] at z;cases z⟩
 keep:=λi h h' st k=>st.at λo e=>k it (by simp) o e
 item:=by
  intro X hP hw hK hc i pins s σ H E I hf st hg;subst hP hw hK;obtain⟨xs,x,hq,hx⟩:=hg;obtain⟨its,rv,p,hz⟩:=I.list hq;obtain⟨u,hu,ru⟩:=rv.get hx;obtain⟨M,Y,U,J,L,y⟩:=hf it (by simp);refine wpAny_pyNext_list_item st p.isList (x:=u) (by simpa using hu) λh' st' sb=>?_;have I1:Inv X pins σ H {s with heap:=h'}:=I.turned (t':=s.toks) (λb o hb e=>(sb.2 b hb).trans e) M Y J L y;obtain⟨o,e,c,d⟩:=id st';exact⟨u,rfl,ux (s:={s with heap:=h'}) e c d ⋯ ⟨x,H,I1,ru,⟨rfl,λys hy=>by rw[I.Mt hy hq];exact hx⟩,st',λb hb=>(hf b hb).1⟩⟩
 done:=by
  intro X hP hw hK hc i pins s σ H E I hf st hg;subst hP hw hK;obtain⟨xs,hq,hx⟩:=hg;obtain⟨its,rv,p,hz⟩:=I.list hq;obtain⟨M,Y,U,J,L,y⟩:=hf it (by simp);have hl:=rv.length;exact wpAny_pyNext_list_end (I.ok.hd hc) st p.isList (by simp;omega) λh' eb=>⟨rfl,I.turned (t':=s.toks) (λb o hb e=>eb b o hb e) M Y J L y⟩
 self:=λ_ _ _ _ _ st h=>wpAny_pyIter_listiter st h
theorem PR{P:cj}{K:PySem.W.Frag}(a it:ax):Turn P w K tg (EZ K a) [it] it (λi h=>h.IsTupleIter it a i) where
 mem:=by simp
 obj:=λi h st b hb=>by
  have e:b=it:=by simpa using hb
  subst e;obtain⟨o,e,c,d⟩:=st;exact⟨o,e,λv z=>by rw[d] at z;cases z⟩
 keep:=λi h h' st k=>st.at λo e=>k it (by simp) o e
 item:=by
  intro X hP hw hK hc i pins s σ H E I hf st hg;subst hP hw hK;obtain⟨xs,x,hq,hx⟩:=hg;obtain⟨its,rv,p,hz⟩:=I.tuple hq;obtain⟨u,hu,ru⟩:=rv.get hx;obtain⟨M,Y,U,J,L,y⟩:=hf it (by simp);refine wpAny_pyNext_tuple_item st (show s.heap.IsTuple a its.toArray from p) (x:=u) (by simpa using hu) λh' st' sb=>?_;have I1:Inv X pins σ H {s with heap:=h'}:=I.turned (t':=s.toks) (λb o hb e=>(sb.2 b hb).trans e) M Y J L y;obtain⟨o,e,c,d⟩:=id st';exact⟨u,rfl,ux (s:={s with heap:=h'}) e c d ⋯ ⟨x,H,I1,ru,⟨rfl,λys hy=>by rw[I.HS hy hq];exact hx⟩,st',λb hb=>(hf b hb).1⟩⟩
 done:=by
  intro X hP hw hK hc i pins s σ H E I hf st hg;subst hP hw hK;obtain⟨xs,hq,hx⟩:=hg;obtain⟨its,rv,p,hz⟩:=I.tuple hq;obtain⟨M,Y,U,J,L,y⟩:=hf it (by simp);have hl:=rv.length;exact wpAny_pyNext_tuple_end (I.ok.hd hc) st (show s.heap.IsTuple a its.toArray from p) (by simp;omega) λh' eb=>⟨rfl,I.turned (t':=s.toks) (λb o hb e=>eb b o hb e) M Y J L y⟩
 self:=λ_ _ _ _ _ st h=>wpAny_pyIter_tupleiter st h
theorem aeG{P:cj}{K:PySem.W.Frag}(it:ax)(lo:Int)(n:Nat):Turn P w K tg (jI lo n) [it] it (λi h=>IsRangeIter h it (lo+(i:Nat)*1) ((n:Int)-(i:Nat)) 1) where
 mem:=by simp
 obj:=λi h st b hb=>by
  have e:b=it:=by simpa using hb
  subst e
  exact⟨_,st,λv z=>by
   have z':y4 _=E6 v:=z;cases z'⟩
 keep:=λi h h' st k=>k it (by simp) _ st
 item:=by
  intro X hP hw hK hc i pins s σ H E I hf st hg;subst hP hw hK;obtain⟨M,Y,U,J,L,y⟩:=hf it (by simp);have W:=Walks.range (prog:=X.prog) (w:=X.w) (I.ok.hd hc) it lo 1 n;refine W.item i s _ _ hg st λv h' tk hv st' a=>?_;obtain⟨t,rfl⟩:=hv;have I1:Inv X pins σ H {s with heap:=h',toks:=tk}:=I.turned (λb o hb e=>a b o (by simpa using hb) e) M Y J L y;refine⟨_,rfl,ux (s:={s with heap:=h',toks:=tk}) (n:="range_iterator") st' rfl rfl ⋯ ⟨.int (lo+i),H,I1,⟨t,?_⟩,⟨rfl,rfl⟩,st',λb hb=>(hf b hb).1⟩⟩;rw[Cp]
 done:=by
  intro X hP hw hK hc i pins s σ H E I hf st hg;subst hP hw hK;obtain⟨M,Y,U,J,L,y⟩:=hf it (by simp);exact wpAny_pyNext_range_end (I.ok.hd hc) st (by have:n<=i:=hg;omega) λh' eb=>⟨rfl,I.turned (t':=s.toks) (λb o hb e=>eb b o hb e) M Y J L y⟩
 self:=λ_ _ _ _ _ st h=>wpAny_pyIter_rangeiter st h
section
variable{X:Cx}{tg:eM}
def oU(K:PySem.W.Frag)(tl:TE):TI:=λσ H R=>tl σ H λx H1=>∃a,x= .ref a/\(∃xs,bw K H1 a xs)/\R (qD K a) H1
def za(K:PySem.W.Frag)(tl:TE):TI:=λσ H R=>tl σ H λx H1=>∃a,x= .ref a/\(∃xs,fE K H1 a xs)/\R (EZ K a) H1
def KY{l:eM}{tl:TE}(hl:PE X l tl):PI X tg l (oU X.K tl):=by
 intro pins s σ H R I h;refine aQ (hl pins s σ H _ I h) λv s1 ⟨x,H1,I1,C,J⟩=>?_;obtain⟨a,e,⟨xs,hq⟩,q⟩:=J;subst e;cases C;obtain⟨its,rv,p,hz⟩:=I1.list hq;refine kn p.isList ?_;refine⟨s1.heap.objs.size,[s1.heap.objs.size],_,_,H1,rfl,I1.kept (t':=s1.toks) λb o e=>cJ _ e,X8 a _,⟨_,gf _ rfl,rfl,rfl⟩,λb hb=>?_,q⟩;have e:b=s1.heap.objs.size:=by simpa using hb
 subst e;exact I1.pR (aH _) (I1.hok.fresh (aH _))
def VL{l:eM}{tl:TE}(hl:PE X l tl):PI X tg l (za X.K tl):=by
 intro pins s σ H R I h;refine aQ (hl pins s σ H _ I h) λv s1 ⟨x,H1,I1,C,J⟩=>?_;obtain⟨a,e,⟨xs,hq⟩,q⟩:=J;subst e;cases C;obtain⟨its,rv,p,hz⟩:=I1.tuple hq;refine wpAny_pyIter_tuple (show s1.heap.IsTuple a its.toArray from p) ?_;refine⟨s1.heap.objs.size,[s1.heap.objs.size],_,_,H1,rfl,I1.kept (t':=s1.toks) λb o e=>cJ _ e,PR a _,⟨_,gf _ rfl,rfl,rfl⟩,λb hb=>?_,q⟩;have e:b=s1.heap.objs.size:=by simpa using hb
 subst e;exact I1.pR (aH _) (I1.hok.fresh (aH _))
theorem R7{σ:qr}{H:Hp}{R:It->Hp->Prop}{lo hi:Int}{t u v:Tok}{tk:Nat}(I:Inv X pins σ H s)(h1: -(2^62)<=lo)(h2:lo<2^62)(h3: -(2^62)<=hi)(h4:hi<2^62)
  (q:R (jI lo (hi-lo).toNat) H):wpAny (bo X.prog X.w) X.A (C2 (.ref s.heap.objs.size)) (OI X pins σ tg R) E {s with heap:=s.heap.push {cls:= .type "range",data:= .fields #[.int lo t, .int hi u, .int 1 v]},toks:=tk}:=by
 refine wpAny_pyIter_range (IsRange.new ..) (small_one h1 h2 h3 h4) ?_;have I1:Inv X pins σ H {s with heap:=s.heap.push {cls:= .type "range",data:= .fields #[.int lo t, .int hi u, .int 1 v]},toks:=tk}:=I.kept λb o e=>cJ _ e
 refine⟨(s.heap.push {cls:= .type "range",data:= .fields #[.int lo t, .int hi u, .int 1 v]}).objs.size,[(s.heap.push {cls:= .type "range",data:= .fields #[.int lo t, .int hi u, .int 1 v]}).objs.size],_,_,H,rfl,
  I1.kept (t':=tk) λb o e=>cJ _ e,aeG _ lo (hi-lo).toNat,?_,λb hb=>?_,q⟩
 .have e1:lo+((0:Nat):Int)*1=lo:=by simp
  have e2:(((hi-lo).toNat:Nat):Int)-((0:Nat):Int)=wi lo hi 1:=by rw[rangeSize_one];split<;>omega
  show IsRangeIter _ _ (lo+((0:Nat):Int)*1) ((((hi-lo).toNat:Nat):Int)-((0:Nat):Int)) 1;rw[e1,e2];exact gf _ rfl
 .have e:b=(s.heap.push {cls:= .type "range",data:= .fields #[.int lo t, .int hi u, .int 1 v]}).objs.size:=by simpa using hb
  subst e;exact I1.pR (aH _) (I1.hok.fresh (aH _))
def CB(ta:TA):TI:=λσ H R=>ta σ H λvs H1=>∃j:Int,vs=[.int j]/\ -(2^62)<=j/\j<2^62/\R (jI 0 j.toNat) H1
def Nr(ta:TA):TI:=λσ H R=>ta σ H λvs H1=>∃i j:Int,vs=[.int i, .int j]/\(-(2^62)<=i/\i<2^62/\ -(2^62)<=j/\j<2^62)/\R (jI i (j-i).toNat) H1
theorem kX{a:eM}{ta:TA}{p:Pos}(hg:Gl X "range")(hm:X.mg "range"=none)(ha:PA X [a] ta)(hs:c6 [a] X.env=[(false,eval a X.env)]:=by rfl):PI X tg (.Call (.Name "range" p) [a] [] pos) (CB ta):=by
  intro pins s σ H R I h;refine Call_ (rC I hg hm boot_range (BO (aQ (ha pos pins s σ H _ I h) λus s1 ⟨vs,H1,I1,C,J⟩=>?_) hs rfl));obtain⟨j,e,J,q2,q⟩:=J;subst e;cases C with
  | cons r d =>
    cases d;obtain⟨t,rfl⟩:=r;exact call_range_1 (R7 I1 ∅ ∅ J q2 (by simpa using q))
def Th{a b:eM}{ta:TA}{p:Pos}(hg:Gl X "range")(hm:X.mg "range"=none)(ha:PA X [a,b] ta)(hs:c6 [a,b] X.env=[(false,eval a X.env),(false,eval b X.env)]:=by rfl)(hs2:c6 [b] X.env=[(false,eval b X.env)]:=by rfl):
    PI X tg (.Call (.Name "range" p) [a,b] [] pos) (Nr ta):=by
  intro pins s σ H R I h;refine Call_ (rC I hg hm boot_range (BO (aQ (ha pos pins s σ H _ I h) λus s1 ⟨vs,H1,I1,C,J⟩=>?_) (by rw[hs,hs2]) (by rw[hs2];rfl)));obtain⟨i,j,e,⟨J,q2,U,D⟩,q⟩:=J;subst e;cases C with
  | cons r d =>
    cases d with
    | cons r' d =>
      cases d;obtain⟨t,rfl⟩:=r;obtain⟨t',rfl⟩:=r';exact call_range_2 (R7 I1 J q2 U D q)
def wX(F:TI)(g:TG)(tb:TS):TS:=λD σ H=>F σ H λJ H1=>∃W:Nat->Nat->qr->Hp->Prop,(∃m,W 0 m σ H1)/\∀i m σ H,W i m σ H->
 (J.stop i H/\D.nx σ H)\/(J.go i H/\∃N:qr->Hp->Prop,(∀L H',N L H'->∃m',m'<m/\W (i+1) m' L H')/\∀x H',J.qM i H x H'->g x σ H' λk H2=>tb {D with nx:=N,ct:=N,bk:=D.nx} k H2)
noncomputable def u9(fp:List ax)(h:e6):List (ax×Obj):=fp.filterMap λb=>(h.get? b).map λo=>(b,o)
def Bd(hb:b∈fp)(e:h.get? b=some o):(b,o)∈u9 fp h:=FL.mpr ⟨b,hb,by rw[e];rfl⟩
def OY{p:ax×Obj}(hp:p∈u9 fp h):p.1∈fp/\h.get? p.1=some p.2:=by
  obtain⟨b,hb,e⟩:=FL.mp hp;cases q:h.get? b with
  |none=>rw[q] at e;cases e
  | some o =>
    rw[q] at e;have e':(b,o)=p:=iI e;subst e';exact⟨hb,q⟩
def Inv.pinned{σ:qr}{H:Hp}(I:Inv X pins σ H s)(hf:∀b∈fp,jG X pins H b)(ho:∀b∈fp,∃o,s.heap.get? b=some o/\∀v,o.data≠ .cell v):Inv X (pins++u9 fp s.heap) σ H s:=
 I.LO λp hp=>(fO.mp hp).elim (λz=>I.pin p (kc _ z)) λz=>by
  obtain⟨hb,e⟩:=OY z;obtain⟨M,Y,U,_⟩:=hf p.1 hb;obtain⟨o,e',d⟩:=ho p.1 hb;rw[e] at e';cases e'
  exact⟨e,M,Y,U,d⟩
def Inv.zy{pl:List (ax×Obj)}{σ:qr}{H:Hp}(I:Inv X (pins++pl) σ H s):Inv X pins σ H s:=I.LO λp hp=>I.pin p (kc _ (rO _ hp))
def iZ{l:eM}{a:List fb}{F:TI}{g:TG}{tb:TS}(hp:PassesOwn (bo X.prog X.w) X.A X.env X.xe)(hc:X.calm=true)(hi:PI X tg l F)(hg:PG X tg g)(hb:kC X a tb)
  (hs:∀x,hV l X.env x=pure x:=by intro _;rfl):PS X (.For tg l a [] pos) (wX F g tb):=by
 intro pins s σ H D I h;refine wpAny_For (aQ (hi pins s σ H _ I h) λv s1 h1=>aQ h1 λitv s2 h2=>?_) hs;obtain⟨it,fp,tn,J,H2,e,I2,T,st2,U,W,⟨Z,w0⟩,L⟩:=h2;subst e;have pA:∀{H':Hp},(∀b∈fp,H' b=none)->∀b∈fp,jG X pins H' b:=λhn b hb=>⟨hn b hb,(U b hb).2⟩;refine codeAny_forLoop_any (λn s'=>∃i σ' H',Inv X pins σ' H' s'/\tn i s'.heap/\(∀b∈fp,H' b=none)/\W i n σ' H') ?_ Z ⟨0,σ,H2,I2,st2,λb hb=>(U b hb).1,w0⟩;rintro n s3 ⟨i,σ3,H3,I3,st3,fr3,w3⟩;rcases L i n σ3 H3 w3 with ⟨stop,qn⟩|⟨go,N,hN,step⟩
 .refine eD hp (aQ (T.done X rfl rfl rfl hc i pins s3 σ3 H3 X.xe I3 (pA fr3) st3 stop) λr s4 ⟨hr,I4⟩=>?_);subst hr;exact jt ⟨σ3,H3,I4,qn⟩
 .refine eD hp (aQ (T.item X rfl rfl rfl hc i pins s3 σ3 H3 X.xe I3 (pA fr3) st3 go) λr s4 ⟨u,hr,h4⟩=>?_);subst hr;refine eD hp (aQ h4 λ_ s5 ⟨x,H5,V,r5,y5,qE,GO⟩=>?_);have DG:=V.pinned (pA GO) (T.obj _ _ qE);refine eD hp (aQ (hg _ s5 σ3 H5 x u _ DG r5 (step x H5 y5)) λ_ s6 ⟨vt,H6,I6,q6⟩=>?_);refine eD hp (aQ (hb _ s6 vt H6 _ I6 q6) λf s7 R=>?_);have again:∀{c:qr} {H7:Hp},Inv X (pins++u9 fp s5.heap) c H7 s7->N c H7->∃m,m<n/\∃i σ' H',Inv X pins σ' H' s7/\tn i s7.heap/\(∀b∈fp,H' b=none)/\W i m σ' H':=λ{c H7} P j=>by
   obtain⟨m',hm,k⟩:=hN c H7 j;refine⟨m',hm,i+1,c,H7,P.zy,T.keep _ _ _ qE λb hb o e=>(P.pin (b,o) (kc _ (kc _ (Bd hb e)))).1,λb hb=>?_,k⟩;obtain⟨o,e,d⟩:=T.obj _ _ qE b hb;exact(P.pin (b,o) (kc _ (kc _ (Bd hb e)))).2.1
  cases f with
  |next=>obtain⟨c,H7,P,j⟩:=R;exact again P j
  |cont=>obtain⟨c,H7,P,j⟩:=R;exact again P j
  |brk=>obtain⟨c,H7,P,R⟩:=R;exact⟨c,H7,P.zy,R⟩
  |ret v=>obtain⟨B,c,H7,P,p,R⟩:=R;exact⟨B,c,H7,P.zy,p,R⟩
end
theorem Pq{K:PySem.W.Frag}{xs:List V}{g:TG}{tb:TS}{D:Ends}{σ:qr}{H:Hp}(Pv:Nat->qr->Hp->Prop)(h0:Pv 0 σ H)(hl:∀i σ H,i<=xs.length->Pv i σ H->bw K H a xs)
  (hs:∀i x σ H,xs[i]?=some x->Pv i σ H->g x σ H λk H2=>tb {D with nx:=Pv (i+1),ct:=Pv (i+1),bk:=D.nx} k H2) (hd:∀σ H,Pv xs.length σ H->D.nx σ H):
  ∃W:Nat->Nat->qr->Hp->Prop,(∃m,W 0 m σ H)/\∀i m σ H,W i m σ H->
   ((qD K a).stop i H/\D.nx σ H)\/((qD K a).go i H/\∃N:qr->Hp->Prop,(∀L H',N L H'->∃m',m'<m/\W (i+1) m' L H')/\∀x H',(qD K a).qM i H x H'->g x σ H' λk H2=>tb {D with nx:=N,ct:=N,bk:=D.nx} k H2):=by
 refine⟨λi m σ H=>m=xs.length-i/\i<=xs.length/\Pv i σ H,⟨xs.length,by simp,eT _,h0⟩,?_⟩;rintro i m σ H ⟨rfl,hi,p⟩;have q:=hl i σ H hi p;by_cases hlt:i<xs.length
 .refine .inr ⟨⟨xs,xs[i],q,by simp[hlt]⟩,Pv (i+1),λL H' j=>⟨xs.length-(i+1),∅,rfl,hlt,j⟩,λx H' y=>?_⟩;obtain⟨e,y⟩:=y;subst e;exact hs i x σ _ (y xs q) p
 .have e:i=xs.length:=∅
  subst e;exact .inl ⟨⟨xs,q,aH _⟩,hd σ H p⟩
theorem DO{lo:Int}{g:TG}{tb:TS}{D:Ends}{σ:qr}{H:Hp}(Pv:Nat->qr->Hp->Prop)(h0:Pv 0 σ H)
  (hs:∀i σ H,i<n->Pv i σ H->g (.int (lo+i)) σ H λk H2=>tb {D with nx:=Pv (i+1),ct:=Pv (i+1),bk:=D.nx} k H2) (hd:∀σ H,Pv n σ H->D.nx σ H):
  ∃W:Nat->Nat->qr->Hp->Prop,(∃m,W 0 m σ H)/\∀i m σ H,W i m σ H->
   ((jI lo n).stop i H/\D.nx σ H)\/((jI lo n).go i H/\∃N:qr->Hp->Prop,(∀L H',N L H'->∃m',m'<m/\W (i+1) m' L H')/\∀x H',(jI lo n).qM i H x H'->g x σ H' λk H2=>tb {D with nx:=N,ct:=N,bk:=D.nx} k H2):=by
 refine⟨λi m σ H=>m=n-i/\i<=n/\Pv i σ H,⟨n,by simp,eT _,h0⟩,?_⟩;rintro i m σ H ⟨rfl,hi,p⟩;by_cases hlt:i<n
 .refine .inr ⟨hlt,Pv (i+1),λL H' j=>⟨n-(i+1),∅,rfl,hlt,j⟩,λx H' y=>?_⟩;obtain⟨e,y⟩:=y;subst e y;exact hs i σ _ hlt p
 .have e:i=n:=∅
  subst e;exact .inl ⟨aH _,hd σ H p⟩
def Xt{c:TT}{tb:TS}{D:Ends}{σ:qr}{H:Hp}(Pv:qr->Hp->Prop)(a:qr->Hp->Nat)(h0:Pv σ H)
  (hs:∀σ H,Pv σ H->c σ H λb H1=>if b=true then tb {D with nx:=λL H'=>Pv L H'/\a L H'<a σ H,ct:=λL H'=>Pv L H'/\a L H'<a σ H,bk:=D.nx} σ H1 else D.nx σ H1)
  (mono:∀σ H Q d,(∀b H1,Q b H1->d b H1)->c σ H Q->c σ H d):GS c tb D σ H:=by
 refine⟨λm σ H=>m=a σ H/\Pv σ H,⟨_,rfl,h0⟩,?_⟩;rintro m σ H ⟨rfl,p⟩;refine mono σ H _ _ (λb H1 q=>?_) (hs σ H p);cases b with
 |true=>exact⟨_,λL H' ⟨j,l⟩=>⟨_,l,rfl,j⟩,q⟩
 |false=>exact q
abbrev R2:=V->V->Hp->VK->Prop
def c9(X:Cx)(f:ar->ar->Sem ar)(r:R2):Prop:=
 ∀(pins:List (ax×Obj)) (s:au) (σ:qr) (H:Hp) (x y:V) (v u:ar) (Q:VK),Inv X pins σ H s->RelV x v->RelV y u->r x y H Q->
  wpAny (bo X.prog X.w) X.A (f v u) (EP X pins σ Q) X.xe s
def Jy(X:Cx)(f:ar->Sem ar)(r:V->Hp->VK->Prop):Prop:=
 ∀(pins:List (ax×Obj)) (s:au) (σ:qr) (H:Hp) (x:V) (v:ar) (Q:VK),Inv X pins σ H s->RelV x v->r x H Q->
  wpAny (bo X.prog X.w) X.A (f v) (EP X pins σ Q) X.xe s
def fT(X:Cx)(f:ar)(r:List V->Hp->VK->Prop):Prop:=
 ∀(pins:List (ax×Obj)) (s:au) (σ:qr) (H:Hp) (xs:List V) (us:List ar) (Q:VK),Inv X pins σ H s->Vals xs us->r xs H Q->
  wpAny (bo X.prog X.w) X.A (call f us) (EP X pins σ Q) X.xe s
def Ze(X:Cx)(r:V->Hp->(Bool->Hp->Prop)->Prop):Prop:=
 ∀(pins:List (ax×Obj)) (s:au) (σ:qr) (H:Hp) (x:V) (v:ar) (Q:Bool->Hp->Prop),Inv X pins σ H s->RelV x v->r x H Q->
  wpAny (bo X.prog X.w) X.A (truthy v) (TP X pins σ Q) X.xe s
def dP(r:R2)(ta tb:TE):TE:=λσ H Q=>ta σ H λx H1=>tb σ H1 λy H2=>r x y H2 Q
def Je(r:V->Hp->VK->Prop)(ta:TE):TE:=λσ H Q=>ta σ H λx H1=>r x H1 Q
def rI(C:Int->Int->Prop)(g:Int->Int->V):R2:=λx y H Q=>∃i j,x= .int i/\y= .int j/\C i j/\Q (g i j) H
def jz(g:Int->Int->V):R2:=λx y H Q=>∃i j,x= .int i/\y= .int j/\Q (g i j) H
def rU(g:Int->V):V->Hp->VK->Prop:=λx H Q=>∃i,x= .int i/\Q (g i) H
section
variable{X:Cx}{a b c:eM}{ta tb tc:TE}{pos:Pos}
def IM(ha:PE X a ta)(hb:PE X b tb){pins:List (ax×Obj)}{s:au}{σ:qr}{H:Hp}{R:V->V->Hp->Prop}(I:Inv X pins σ H s)
  (h:ta σ H λx H1=>tb σ H1 λy H2=>R x y H2) {Q:ar->au->Prop} {f:ar->ar->Sem ar}
  (hf:∀v u s2 x y H2,Inv X pins σ H2 s2->RelV x v->RelV y u->R x y H2->wpAny (bo X.prog X.w) X.A (f v u) Q X.xe s2):
  wpAny (bo X.prog X.w) X.A (eval a X.env) (λv s₁=>wpAny (bo X.prog X.w) X.A (eval b X.env) (λu d=>wpAny (bo X.prog X.w) X.A (f v u) Q X.xe d) X.xe s₁) X.xe s:=by
 refine aQ (ha pins s σ H _ I h) λv s1 ⟨x,H1,I1,C,J⟩=>?_;refine aQ (hb pins s1 σ H1 _ I1 J) λu s2 ⟨y,H2,I2,Y,q2⟩=>?_;exact hf v u s2 x y H2 I2 C Y q2
def aC{op:Operator}{r:R2}(ho:c9 X (iC op) r)(ha:PE X a ta)(hb:PE X b tb):PE X (.BinOp a op b pos) (dP r ta tb):=by
 intro pins s σ H Q I h;exact wpAny_BinOp (IM ha hb I h λv u s2 x y H2 I2 d m q=>ho pins s2 σ H2 x y v u Q I2 d m q)
def qd{op:UnaryOp}{r:V->Hp->VK->Prop}(ho:Jy X (unaryOp op) r)(ha:PE X a ta):PE X (.UnaryOp op a pos) (Je r ta):=by
 intro pins s σ H Q I h;exact UnaryOp_ (aQ (ha pins s σ H _ I h) λv s1 ⟨x,H1,I1,C,J⟩=>ho pins s1 σ H1 x v Q I1 C J)
def AV{C:Int->Int->Prop}{g:Int->Int->Int}
  (rule:∀(i j:Int) (t u:Tok) (s:au) (Q:ar->au->Prop) (E:ar->au->Prop),C i j->Q (.int (g i j) s.toks) {s with toks:=s.toks+1}->wpAny (bo X.prog X.w) X.A (f (.int i t) (.int j u)) Q E s):
  c9 X f (rI C λi j=> .int (g i j)):=by
 intro pins s σ H x y v u Q I rx ry h;obtain⟨i,j,rfl,rfl,hc,q⟩:=h;obtain⟨t,rfl⟩:=rx;obtain⟨t',rfl⟩:=ry;exact rule i j t t' s _ _ hc ⟨.int (g i j),H,I.tok _,⟨_,rfl⟩,q⟩
def Qc{g:Int->Int->Int}
  (rule:∀(i j:Int) (t u:Tok) (s:au) (Q:ar->au->Prop) (E:ar->au->Prop),Q (.int (g i j) s.toks) {s with toks:=s.toks+1}->wpAny (bo X.prog X.w) X.A (f (.int i t) (.int j u)) Q E s):
  c9 X f (jz λi j=> .int (g i j)):=by
 intro pins s σ H x y v u Q I rx ry h;obtain⟨i,j,rfl,rfl,q⟩:=h;obtain⟨t,rfl⟩:=rx;obtain⟨t',rfl⟩:=ry;exact rule i j t t' s _ _ ⟨.int (g i j),H,I.tok _,⟨_,rfl⟩,q⟩
def CD{g:Int->Int->Bool}
  (rule:∀(i j:Int) (t u:Tok) (s:au) (Q:ar->au->Prop) (E:ar->au->Prop),Q (.bool (g i j)) s->wpAny (bo X.prog X.w) X.A (f (.int i t) (.int j u)) Q E s):
  c9 X f (jz λi j=> .bl (g i j)):=by
 intro pins s σ H x y v u Q I rx ry h;obtain⟨i,j,rfl,rfl,q⟩:=h;obtain⟨t,rfl⟩:=rx;obtain⟨t',rfl⟩:=ry;exact rule i j t t' s _ _ ⟨.bl (g i j),H,I,rfl,q⟩
def Hy(i j:Int):Prop:=0<=j/\j<=1000000/\i.natAbs<2^64
def zv(i j:Int):Prop:=(-(2^64)<i/\i<2^64)\/(-(2^64)<j/\j<2^64)
def zv.ok{i j:Int}(h:zv i j):IntMulOk i j:=by
 rcases h with ⟨h1,h2⟩|⟨h1,h2⟩
 .exact .of_left (wo h1 h2)
 .exact .of_right (wo h1 h2)
def ff:c9 X (iC .Add) (jz λi j=> .int (i+j)):=Qc λ_ _ _ _ _ _ _ q=>add_int q
def jl:c9 X (iC .Sub) (jz λi j=> .int (i-j)):=Qc λ_ _ _ _ _ _ _ q=>sub_int q
theorem jq:c9 X (iC .Mod) (rI (λ_ j=>0<j) λi j=> .int (i%j)):=AV λi j _ _ _ _ _ hc q=>by
 have h1:(0:Int)<j:=hc;exact mod_int' ∅ (by rw[Int.fmod_eq_emod_of_nonneg i ∅];exact q)
def xj:c9 X (iC .Pow) (rI Hy λi j=> .int (i^j.toNat)):=AV λ_ _ _ _ _ _ _ hc q=>pow_int_small hc.1 hc.2.1 hc.2.2 q
def OK{f:ar->Sem ar}{g:Int->Int}
  (rule:∀(i:Int) (t:Tok) (s:au) (Q:ar->au->Prop) (E:ar->au->Prop),Q (.int (g i) s.toks) {s with toks:=s.toks+1}->wpAny (bo X.prog X.w) X.A (f (.int i t)) Q E s):
  Jy X f (rU λi=> .int (g i)):=by
 intro pins s σ H x v Q I rx h;obtain⟨i,rfl,q⟩:=h;obtain⟨t,rfl⟩:=rx;exact rule i t s _ _ ⟨.int (g i),H,I.tok _,⟨_,rfl⟩,q⟩
def pZ:Jy X (unaryOp .USub) (rU λi=> .int (-i)):=OK λ_ _ _ _ _ q=>neg_int q
end
noncomputable def JA:V->V->Bool
 | .aL, .aL=>true| .aL, .int _=>true| .int _, .aL=>true| .aL, .bl _=>true| .bl _, .aL=>true| .aL, .str _=>true| .str _, .aL=>true
 | .int _, .int _=>true| .bl _, .bl _=>true| .str _, .str _=>true| .jF _, .jF _=>true
 | .int _, .str _=>true| .str _, .int _=>true| .bl _, .str _=>true| .str _, .bl _=>true
 |_,_=>false
def IF:R2:=λx y H Q=>JA x y=true/\Q (.bl (decide (x=y))) H
def Hu:R2:=λx y H Q=>JA x y=true/\Q (.bl (!decide (x=y))) H
def Sn{i j:Int}:decide (V.int i=V.int j)=(i==j):=by
 rw[lq];simp
def Rf{i j:Bool}:decide (V.bl i=V.bl j)=(i==j):=by
 rw[lq];simp
def MA{i j:Str}:decide (V.str i=V.str j)=(i==j):=by
 rw[lq];simp
def N8{i j:Array UInt8}:decide (V.jF i=V.jF j)=(i.toList==j.toList):=by
 rw[lq];cases i;cases j;simp
section
variable{X:Cx}{a b c:eM}{ta tb tc:TE}{pos:Pos}
def dJ{σ:qr}{H:Hp}{Q:VK}{k k':Bool}(I:Inv X pins σ H s)(q:Q (.bl k) H)(e:k=k'):EP X pins σ Q (.bool k') s:=by
 subst e;exact⟨.bl k,H,I,rfl,q⟩
def jb:c9 X (du .Eq) IF:=by
  intro pins s σ H x y v u Q I rx m h;obtain⟨hs,q⟩:=h;cases x with
  | aL =>
    cases rx;cases y with
    |aL=>cases m;exact PySem.EqNone.eq_none_none (dJ I q (by simp))
    |bl j=>cases m;exact PySem.EqNone.eq_none_bool (dJ I q (by simp))
    |int j=>obtain⟨t',rfl⟩:=m;exact PySem.EqNone.eq_none_int (dJ I q (by simp))
    |str j=>obtain⟨t',rfl⟩:=m;exact PySem.EqNone.eq_none_str (dJ I q (by simp))
    |_=>exact absurd (show false=true from hs) cC
  | bl i =>
    cases rx;cases y with
    |aL=>cases m;exact PySem.EqNone.eq_bool_none (dJ I q (by simp))
    |bl j=>cases m;exact eq_bool (dJ I q Rf)
    |str j=>obtain⟨t',rfl⟩:=m;exact PySem.EqMixed.eq_bool_str (dJ I q (by simp))
    |_=>exact absurd (show false=true from hs) cC
  | int i =>
    obtain⟨t,rfl⟩:=rx;cases y with
    |aL=>cases m;exact PySem.EqNone.eq_int_none (dJ I q (by simp))
    |int j=>obtain⟨t',rfl⟩:=m;exact eq_int (dJ I q Sn)
    |str j=>obtain⟨t',rfl⟩:=m;exact PySem.EqMixed.eq_int_str (dJ I q (by simp))
    |_=>exact absurd (show false=true from hs) cC
  | str i =>
    obtain⟨t,rfl⟩:=rx;cases y with
    |aL=>cases m;exact PySem.EqNone.eq_str_none (dJ I q (by simp))
    |bl j=>cases m;exact PySem.EqMixed.eq_str_bool (dJ I q (by simp))
    |int j=>obtain⟨t',rfl⟩:=m;exact PySem.EqMixed.eq_str_int (dJ I q (by simp))
    |str j=>obtain⟨t',rfl⟩:=m;exact eq_str (dJ I q MA)
    |_=>exact absurd (show false=true from hs) cC
  | jF i =>
    obtain⟨t,rfl⟩:=rx;cases y with
    |jF j=>obtain⟨t',rfl⟩:=m;exact PySem.W.eq_bytes (dJ I q N8)
    |_=>exact absurd (show false=true from hs) cC
  |_=>cases y<;>exact absurd (show false=true from hs) cC
def j9:c9 X (du .NotEq) Hu:=by
  intro pins s σ H x y v u Q I rx m h;obtain⟨hs,q⟩:=h;cases x with
  | aL =>
    cases rx;cases y with
    |aL=>cases m;exact PySem.EqNone.ne_none_none (dJ I q (by simp))
    |bl j=>cases m;exact PySem.EqNone.ne_none_bool (dJ I q (by simp))
    |int j=>obtain⟨t',rfl⟩:=m;exact PySem.EqNone.ne_none_int (dJ I q (by simp))
    |str j=>obtain⟨t',rfl⟩:=m;exact PySem.EqNone.ne_none_str (dJ I q (by simp))
    |_=>exact absurd (show false=true from hs) cC
  | bl i =>
    cases rx;cases y with
    |aL=>cases m;exact PySem.EqNone.ne_bool_none (dJ I q (by simp))
    |bl j=>cases m;exact ne_bool (dJ I q (congrArg not Rf))
    |str j=>obtain⟨t',rfl⟩:=m;exact PySem.EqMixed.ne_bool_str (dJ I q (by simp))
    |_=>exact absurd (show false=true from hs) cC
  | int i =>
    obtain⟨t,rfl⟩:=rx;cases y with
    |aL=>cases m;exact PySem.EqNone.ne_int_none (dJ I q (by simp))
    |int j=>obtain⟨t',rfl⟩:=m;exact ne_int (dJ I q (congrArg not Sn))
    |str j=>obtain⟨t',rfl⟩:=m;exact PySem.EqMixed.ne_int_str (dJ I q (by simp))
    |_=>exact absurd (show false=true from hs) cC
  | str i =>
    obtain⟨t,rfl⟩:=rx;cases y with
    |aL=>cases m;exact PySem.EqNone.ne_str_none (dJ I q (by simp))
    |bl j=>cases m;exact PySem.EqMixed.ne_str_bool (dJ I q (by simp))
    |int j=>obtain⟨t',rfl⟩:=m;exact PySem.EqMixed.ne_str_int (dJ I q (by simp))
    |str j=>obtain⟨t',rfl⟩:=m;exact ne_str (dJ I q (congrArg not MA))
    |_=>exact absurd (show false=true from hs) cC
  | jF i =>
    obtain⟨t,rfl⟩:=rx;cases y with
    |jF j=>obtain⟨t',rfl⟩:=m;exact PySem.W.ne_bytes (dJ I q (congrArg not N8))
    |_=>exact absurd (show false=true from hs) cC
  |_=>cases y<;>exact absurd (show false=true from hs) cC
def nI:c9 X (du .Lt) (jz λi j=> .bl (decide (i<j))):=CD λ_ _ _ _ _ _ _ q=>lt_int q
def Fc:c9 X (du .LtE) (jz λi j=> .bl (decide (i<=j))):=CD λ_ _ _ _ _ _ _ q=>le_int q
def rq:c9 X (du .Gt) (jz λi j=> .bl (decide (j<i))):=CD λ_ _ _ _ _ _ _ q=>gt_int q
def Ek:c9 X (du .GtE) (jz λi j=> .bl (decide (j<=i))):=CD λ_ _ _ _ _ _ _ q=>ge_int q
def agG:c9 X (du .In) (λx y H Q=>∃i j,x= .str i/\y= .str j/\Q (.bl (!(eP j i 0 j.length 1).isEmpty)) H):=by
 intro pins s σ H x y v u Q I rx ry h;obtain⟨i,j,rfl,rfl,q⟩:=h;obtain⟨t,rfl⟩:=rx;obtain⟨t',rfl⟩:=ry;exact in_str (dJ I q rfl)
def aga:c9 X (du .Is) (λx y H Q=>y= .aL/\Q (.bl (decide (x= .aL))) H):=by
 intro pins s σ H x y v u Q I d ry h;obtain⟨rfl,q⟩:=h;cases ry;refine is_none_gen (dJ I q ?_)
 cases x<;>first
  |(cases d;rfl)
  |(obtain⟨t,rfl⟩:=d;rfl)
def Xc:c9 X (du .IsNot) (λx y H Q=>y= .aL/\Q (.bl (!decide (x= .aL))) H):=by
 intro pins s σ H x y v u Q I d ry h;obtain⟨rfl,q⟩:=h;cases ry;refine isnot_none_gen (dJ I q ?_)
 cases x<;>first
  |(cases d;rfl)
  |(obtain⟨t,rfl⟩:=d;rfl)
def aV(b:eM){op:CmpOp}(h:op≠ .In:=by decide)(h2:op≠ .NotIn:=by decide):behindInMarks op b=false:=by
 have e1:(op==CmpOp.In)=false:=by cases op<;>first|rfl|exact absurd rfl h
 have e2:(op==CmpOp.NotIn)=false:=by cases op<;>first|rfl|exact absurd rfl h2
 cases b<;>simp[behindInMarks,e1,e2]
def oZ{op:CmpOp}{r:R2}(ho:c9 X (du op) r)(ha:PE X a ta)(hb:PE X b tb)(hm:behindInMarks op b=false):PE X (.Compare a [op] [b] pos) (dP r ta tb):=by
 intro pins s σ H Q I h;exact wpAny_Compare1 (IM ha hb I h λv u s2 x y H2 I2 d m q=>ho pins s2 σ H2 x y v u Q I2 d m q) hm
def A6(t:TE):TT:=λσ H Q=>t σ H λx H'=>∃k,x= .bl k/\Q k H'
def aX{op:CmpOp}{r:R2}(ho:c9 X (du op) r)(ha:PE X a ta)(hb:PE X b tb)(hm:behindInMarks op b=false):PT X (.Compare a [op] [b] pos) (A6 (dP r ta tb)):=by
 intro pins s σ H Q I h
 refine wpAny_isTrue_Compare1 (aQ (ha pins s σ H _ I h) λv s1 ⟨x,H1,I1,C,J⟩=>aQ (hb pins s1 σ H1 _ I1 J) λu s2 ⟨y,H2,I2,Y,q2⟩=>
  aQ (ho pins s2 σ H2 x y v u _ I2 C Y q2) λc s3 ⟨z,H3,I3,g,k,e,U⟩=>?_) hm
 subst e;cases g;exact hQ ⟨H3,I3,U⟩
def DW(K:PySem.W.Frag)(x:V)(H:Hp)(k:Bool):Prop:=
 match x with
 | .aL=>k=false
 | .bl b=>k=b
 | .int i=>k=(i !=0)
 | .str y=>y.length<=sizeLine/\k=((y.length:Int) !=0)
 | .jF y=>y.size<=sizeLine/\k=((y.size:Int) !=0)
 | .ref p=>(∃xs,bw K H p xs/\k=!xs.isEmpty)\/(∃xs,fE K H p xs/\k=!xs.isEmpty)\/∃kvs,H p=some (.dK kvs)/\k=!kvs.isEmpty
 |_=>False
def Wa{κ:Type}{kvs:List (κ×V)}{vs:List (κ×ar)}(r:KV kvs vs):(!vs.isEmpty)=!kvs.isEmpty:=by
 cases r<;>rfl
def P5{xs:List V}(r:Vals xs its):(!its.toArray.isEmpty)=!xs.isEmpty:=by
 cases r<;>simp
def sF:(sizeLine:Nat)<2^63:=by rw[lh];decide
theorem agS:Ze X (λx H Q=>∃k,DW X.K x H k/\Q k H):=by
  intro pins s σ H x v Q I rx h;obtain⟨k,e,q⟩:=h;have hl:=sF;have hs:sizeLine=16777216:=lh;cases x with
  | aL =>
    cases rx;have e':k=false:=e;subst e';exact truthy_none ⟨H,I,q⟩
  | bl b =>
    cases rx;have e':k=b:=e;subst e';exact hQ ⟨H,I,q⟩
  | int i =>
    obtain⟨t,rfl⟩:=rx;have e':k=(i !=0):=e;subst e';exact PySem.P.truthy_int ⟨H,I,q⟩
  | str y =>
    obtain⟨t,rfl⟩:=rx;obtain⟨hy,e'⟩:y.length<=sizeLine/\k=((y.length:Int) !=0):=e;subst e';exact PySem.P.truthy_str ∅ ⟨H,I.tok _,q⟩
  | jF y =>
    obtain⟨t,rfl⟩:=rx;obtain⟨hy,e'⟩:y.size<=sizeLine/\k=((y.size:Int) !=0):=e;subst e';exact PySem.W.truthy_bytes ∅ ⟨H,I.tok _,q⟩
  | ref p =>
    cases rx;have e':(∃xs,bw X.K H p xs/\k=!xs.isEmpty)\/(∃xs,fE X.K H p xs/\k=!xs.isEmpty)\/∃kvs,H p=some (.dK kvs)/\k=!kvs.isEmpty:=e;rcases e' with ⟨xs,hx,e'⟩|⟨xs,hx,e'⟩|⟨kvs,hx,e'⟩
    · subst e'
      obtain⟨its,r,pl,hz⟩:=I.list hx;have hlen:=r.length;exact wpAny_truthy_list pl.isList (by simp only[eU];omega) ⟨H,I.tok _,by rw[P5 r];exact q⟩
    · subst e'
      obtain⟨its,r,pl,hz⟩:=I.tuple hx;have hlen:=r.length;exact truthy_tuple pl (by simp only[eU];omega) ⟨H,I.tok _,by rw[P5 r];exact q⟩
    · subst e'
      obtain⟨hz,M,vs,r,m⟩:kvs.length<=sizeLine/\(p==fD)=false/\∃vs,KV kvs vs/\s.heap.DictOf (jr X.prog X.w) p vs:=I.hok p _ hx;have hlen:kvs.length=vs.length:=Paired.length r;exact wpAny_truthy_dict M m ∅ ⟨H,I.tok _,by rw[Wa r];exact q⟩
  |_=>exact(show False from e).elim
def RH(ha:PE X a ta)(he:∀whole,isTrue a X.env whole=(do let v<-whole;standAt a.pos;holding [v] (truthy v))):
  PT X a (λσ H Q=>ta σ H λx H'=>∃k,DW X.K x H' k/\Q k H'):=by
 intro pins s σ H Q I h;exact isTrue_plain (aQ (ha pins s σ H _ I h) λv s1 ⟨x,H1,I1,C,J⟩=>agS pins s1 σ H1 x v Q I1 C J) (he _)
def afC:c9 X (iC .Add) (λx y H Q=>∃i j,x= .str i/\y= .str j/\i.length+j.length<=sizeLine/\Q (.str (i++j)) H):=by
 intro pins s σ H x y v u Q I rx ry h;obtain⟨i,j,rfl,rfl,hz,q⟩:=h;obtain⟨t,rfl⟩:=rx;obtain⟨t',rfl⟩:=ry;exact add_str (λt' tk=>⟨.str (i++j),H,I.tok _,⟨_,rfl⟩,q⟩) hz
def vals1{x:V}(r:Vals [x] us):∃u,us=[u]/\RelV x u:=by
 cases r with
 |cons C Y=>cases Y;exact⟨_,rfl,C⟩
def vals2{x y:V}(r:Vals [x,y] us):∃u w',us=[u,w']/\RelV x u/\RelV y w':=by
  cases r with
  | cons C Y =>
    cases Y with
    |cons g a=>cases a;exact⟨_,_,rfl,C,g⟩
def Wh:fT X (.builtin "abs") (λxs H Q=>∃i,xs=[.int i]/\Q (.int (if i<0 then-i else i)) H):=by
 intro pins s σ H xs us Q I r h;obtain⟨i,rfl,q⟩:=h;obtain⟨u,rfl,t,rfl⟩:=vals1 r;exact call_abs_int λu tk=>⟨.int (if i<0 then-i else i),H,I.tok _,⟨_,rfl⟩,q⟩
def Xb(hc:X.calm=true):fT X (.builtin "max") (λxs H Q=>∃i j,xs=[.int i, .int j]/\Q (.int (if j>i then j else i)) H):=by
 intro pins s σ H xs us Q I r h;obtain⟨i,j,rfl,q⟩:=h;obtain⟨u,w',rfl,⟨t,rfl⟩,⟨t',rfl⟩⟩:=vals2 r;refine max_two_ints (I.ok.hd hc) λh' tk k=>⟨_,H,I.kept k,?_,q⟩;by_cases hj:j>i;·rw[if_pos hj,if_pos hj];exact⟨_,rfl⟩
 .rw[if_neg hj,if_neg hj];exact⟨_,rfl⟩
def abP(hc:X.calm=true):fT X (.builtin "min") (λxs H Q=>∃i j,xs=[.int i, .int j]/\Q (.int (if j<i then j else i)) H):=by
 intro pins s σ H xs us Q I r h;obtain⟨i,j,rfl,q⟩:=h;obtain⟨u,w',rfl,⟨t,rfl⟩,⟨t',rfl⟩⟩:=vals2 r;refine min_two_ints (I.ok.hd hc) λh' tk k=>⟨_,H,I.kept k,?_,q⟩;by_cases hj:j<i;·rw[if_pos hj,if_pos hj];exact⟨_,rfl⟩
 .rw[if_neg hj,if_neg hj];exact⟨_,rfl⟩
def abX:fT X (.type "int") (λxs H Q=>(∃i,xs=[.int i]/\Q (.int i) H)\/∃k,xs=[.bl k]/\Q (.int (if k then 1 else 0)) H):=by
 intro pins s σ H xs us Q I r h;rcases h with ⟨i,rfl,q⟩|⟨k,rfl,q⟩
 .obtain⟨u,rfl,t,rfl⟩:=vals1 r;exact call_int_int ⟨.int i,H,I,⟨_,rfl⟩,q⟩
 .obtain⟨u,rfl,C⟩:=vals1 r;cases C;exact call_int_bool ⟨.int (if k then 1 else 0),H,I.tok _,⟨_,rfl⟩,q⟩
def Xh:fT X (.type "str") (λxs H Q=>∃i,xs=[.int i]/\i.natAbs.log2<1920/\Q (.str (toString i)) H):=by
 intro pins s σ H xs us Q I r h;obtain⟨i,rfl,hz,q⟩:=h;obtain⟨u,rfl,t,rfl⟩:=vals1 r;exact PySem.P.str_of_int hz ⟨.str _,H,I.tok _,⟨_,rfl⟩,q⟩
end
structure qz(h:e6)(x dx C:ax)(mA:Str->Option ar):Prop where
 obj:h.get? x=some (PySem.W.instObj C dx)
 ns:h.Ns1 dx mA
 ne:dx≠x
def KO(n:h.Ns1 dx mA):∃od,h.get? dx=some od/\∀name,PySem.W.lookIn name od=some (mA name):=by
 obtain⟨o,es,ep,ho,hd,hk,_,hm⟩:=n;refine⟨o,ho,λname=>?_⟩;have e:=hm name;unfold nsFind findBy at e;rw[<-Array.find?_toList] at e;unfold PySem.W.lookIn;rw[hd];dsimp only;split
 .rename_i y q
  rw[q] at e;exact congrArg some e
 .rename_i q
  rw[q] at e;have a:es.toList.any (·.refKey)=false:=by
   rw[List.any_eq_false];intro y hy;obtain⟨z,t,b⟩:=hk y (z9.mp hy);simp[E4,b]
  have w:¬es.toList.any (·.refKey)=true:=by rw[a];exact cC
  rw[if_neg w];exact congrArg some e
def qz.look{x:ax}(I:qz h x dx C mA):∃od,PySem.W.InstAt h x (PySem.W.instObj C dx) C (some od)/\∀name,PySem.W.lookIn name od=some (mA name):=
 let ⟨od,ho,hl⟩:=KO I.ns
 ⟨od,⟨I.obj,rfl,rfl,ho⟩,hl⟩
section
variable{prog:cj}{w:dc}{A:c5}{E:ar->au->Prop}{s:au}{K:PySem.W.Frag}{x dx C f:ax}{mA:Str->Option ar}{name:Str}{v:ar}
def get_map{a:Bool}(X:K.In s.heap)(I:qz s.heap x dx C mA)(hg:PySem.W.plainGet K C name=true)(L:PySem.W.hasDictIn K C=true)
  (ha:PySem.W.findIn K (.ref C) name=some none) (hv:mA name=some v) (b:PySem.W.handedIn v=true) (h:Q v {s with toks:=s.toks+1}):
  wpAny (bo prog w) A (getAttr (.ref x) name a) Q E s:=by
 obtain⟨od,J,hl⟩:=I.look;exact PySem.W.get_value X J (ER hg).1 (PySem.W.findObj_own L ha rfl (by rw[hl,hv])) b h
def X1{Q:ar×List ar->au->Prop}(X:K.In s.heap)(I:qz s.heap x dx C mA)(hg:PySem.W.plainGet K C name=true)
  (hf:PySem.W.findIn K (.ref C) name=some (some (.ref f))) (ht:PySem.W.isFn K (.ref f)=true) (hv:mA name=none) (h:Q (.ref f,[.ref x]) s):
  wpAny (bo prog w) A (rB (.ref x) name pl) Q E s:=by
 obtain⟨od,J,hl⟩:=I.look;exact PySem.W.method_fn X J (ER hg).1 (ER hg).2 hf (beq_iff_eq.mp ht) (by show(PySem.W.lookIn name od).map (·.isSome)=some false;rw[hl,hv];rfl) h
theorem P2{ns:List Str}{Q:Unit->au->Prop}(X:K.In s.heap)(I:qz s.heap x dx C mA)
  (hs:PySem.W.findIn K (.ref C) "__setattr__"=some (some (.builtin "object.__setattr__"))) (hp:PySem.W.plainOver K C=true) (ht:PySem.W.takerIn K C name=some none) (L:PySem.W.hasDictIn K C=true)
  (hw:PySem.Within mA ns) (hsz:ns.length<=sizeLine)
  (h:∀h',qz h' x dx C (λy=>if y=name then some v else mA y)->fw dx s.heap h'->Q () {s with heap:=h',toks:=s.toks+2}):
  wpAny (bo prog w) A (setAttr (.ref x) name v) Q E s:=by
 obtain⟨od,J,hl⟩:=I.look;refine PySem.W.set_plain X J hs (PySem.W.osa_open (s:={s with toks:=s.toks+1}) (r:=none) X J hp ht λb=>?_);obtain⟨m,hc,j⟩:=PySem.W.any_some L;have hx:s.heap.get? x=some ⟨.ref C,some dx, .plain,#[]⟩:=I.obj;refine ae (aw (ae (ae (wpAny_loadPart hx (ae (PySem.W.Looks.here (s:={s with toks:=s.toks+1}) (PySem.W.looks_clsIn X hc) ?_))))));rw[j];refine aw (a:=some dx) (ae (aw (ae ?_)));refine wpAny_nsSet1 (s:={s with toks:=s.toks+1}) I.ns λh' hn2 hs2=>?_;obtain⟨oD,g,e,d,f,c⟩:=hn2.count (PySem.Within.cons name v hw);refine ae (wpAny_lookBehind d (by rw[f];exact pastItsLine_dict (eu c (by rw[cZ];omega))) ?_);exact aw (h _ ⟨(hs2.2 _ (cO I.ne)).trans I.obj,hn2,I.ne⟩ hs2)
def Uc{R:Result->au->Prop}{vs:List ar}{a:List (Str×ar)}(X:K.In s.heap)(hm:PySem.W.makesIn K C=true)
  (hi:PySem.W.findIn K (.ref C) "__init__"=some (some (.ref f))) (hf:PySem.W.typeIn K (.ref f)=some (.type "function"))
  (h : codeAny (model prog w) (A.under (.builtin "type.__call__" ⟨.ref C :: vs, a⟩)) (.call (.ref f) ⟨.ref (s.heap.objs.size + 1) :: vs, a⟩) (PySem.W.InitBack (s.heap.objs.size + 1) R)
   {s with heap:=(s.heap.push PySem.W.emptyDict).push (PySem.W.instObj C s.heap.objs.size)}):
  codeAny (bo prog w) A (.call (.ref C) ⟨vs,a⟩) R s:=by
 obtain⟨L,g,d,t,os⟩:=s;exact PySem.W.make_core (PySem.W.makes_of X hm) (PySem.W.looks_findIn X hi) (λself=>PySem.W.bind_fn X self hf) (.inl rfl) h
end
noncomputable def gE(f:Str)(v:V):List (Str×V)->List (Str×V)
 |[]=>[(f,v)]
 |(g,x)::r=>if g=f then(g,v)::r else(g,x)::gE f v r
theorem Ni(f g:Str)(v:V):∀fs:List (Str×V),(gE f v fs).lookup g=if g=f then some v else fs.lookup g
  | [] => by
    show et g [(f,v)]=_;by_cases h:g=f
    · have hb:(g==f)=true:=beq_iff_eq.mpr h
      simp only[et,hb,if_pos h]
    · have hb:(g==f)=false:=beq_eq_false_iff_ne.mpr h
      simp only[et,hb,if_neg h]
  | (k, x) :: r => by
    have ih:=Ni f g v r;rw[show gE f v ((k,x)::r)=(if k=f then(k,v)::r else(k,x)::gE f v r) from rfl];by_cases hk:k=f
    · rw[if_pos hk]
      by_cases h:g=k
      · have hb:(g==k)=true:=beq_iff_eq.mpr h
        simp only[et,hb,if_pos (h.trans hk)]
      · have hb:(g==k)=false:=beq_eq_false_iff_ne.mpr h
        simp only[et,hb,if_neg (λe:g=f=>h (e.trans hk.symm))]
    · rw[if_neg hk]
      by_cases h:g=k
      · have hb:(g==k)=true:=beq_iff_eq.mpr h
        simp only[et,hb,if_neg (λe:g=f=>hk (h.symm.trans e))]
      · have hb:(g==k)=false:=beq_eq_false_iff_ne.mpr h
        simp only[et,hb];exact ih
theorem D6(f:Str)(v:V):∀fs:List (Str×V),f∈(gE f v fs).map (·.1)/\∀g,g∈fs.map (·.1)->g∈(gE f v fs).map (·.1)
  |[]=>⟨by simp[gE],λg h=>by simp at h⟩
  | (k, x) :: r => by
    obtain⟨N,B⟩:=D6 f v r;rw[show gE f v ((k,x)::r)=(if k=f then(k,v)::r else(k,x)::gE f v r) from rfl];by_cases hk:k=f
    · rw[if_pos hk]
      subst hk;exact⟨by simp,λg h=>by simpa using h⟩
    · rw[if_neg hk]
      refine⟨?_,λg h=>?_⟩
      · rw[aZ]
        exact cF _ N
      · rw[aZ] at h⊢
        rcases aK.mp h with e|e
        · exact aK.mpr (.inl e)
        · exact cF _ (B g e)
theorem QM(f:Str)(v:V):∀fs:List (Str×V),(gE f v fs).length<=fs.length+1
  |[]=>by simp[gE]
  | (k, x) :: r => by
    have ih:=QM f v r;rw[show gE f v ((k,x)::r)=(if k=f then(k,v)::r else(k,x)::gE f v r) from rfl];by_cases hk:k=f;· rw[if_pos hk,cZ,cZ];omega
    · rw[if_neg hk,cZ,cZ];omega
def jD.some_of{v:V}{o:Option ar}(r:jD (some v) o):∃u,o=some u/\RelV v u:=by
 cases o with
 |none=>exact(show False from r).elim
 |some u=>exact⟨u,rfl,r⟩
def jD.none_of{o:Option ar}(r:jD none o):o=none:=by
 cases o with
 |none=>rfl
 |some u=>exact(show False from r).elim
def G2{v:V}(r:RelV v u):PySem.W.handedIn u=true:=by
 cases v with
 |aL=>cases (show u=js from r);rfl
 |bl b=>cases (show u=oj b from r);rfl
 |int i=>obtain⟨t,e⟩:=(show∃t,u=me i t from r);cases e;rfl
 |str x=>obtain⟨t,e⟩:=(show∃t,u=m3 x t from r);cases e;rfl
 |jF b=>obtain⟨t,e⟩:=(show∃t,u=y3 b t from r);cases e;rfl
 |m7 b=>obtain⟨t,e⟩:=(show∃t,u=rr b t from r);cases e;rfl
 |ref a=>cases (show u=dC a from r);rfl
 |ty n=>cases (show u=gT n from r);rfl
section
variable{P:cj}{w:dc}{H H':Hp}{h h':e6}{a C dx:ax}{fs fs':List (Str×V)}
def yC(hok:ez P w H h)(e:H a=some (.ins C dx fs)):∃mA,qz h a dx C mA/\(∀f,jD (fs.lookup f) (mA f))/\PySem.Within mA (fs.map (·.1))/\fs.length<=1000/\H dx=some (.own a):=by
 obtain⟨d,z,ne,ob,mA,n,r,q⟩:=(show eE P w H h a (.ins C dx fs) from hok a _ e);exact⟨mA,⟨ob,n,ne⟩,r,q,z,d⟩
end
structure gm(K:PySem.W.Frag)(C:ax):Prop where
 pg:PySem.W.plainGet K C Fh=true
 hd:PySem.W.hasDictIn K C=true
 po:PySem.W.plainOver K C=true
 sa:PySem.W.findIn K (.ref C) "__setattr__"=some (some (.builtin "object.__setattr__"))
def gm.get{K:PySem.W.Frag}(c:gm K C)(f:Str):PySem.W.plainGet K C f=true:=c.pg
def iA(K:PySem.W.Frag)(C:ax)(f:Str):Prop:=PySem.W.findIn K (.ref C) f=some none
def iA.Yp{K:PySem.W.Frag}{f:Str}(n:iA K C f):PySem.W.takerIn K C f=some none:=by
 unfold PySem.W.takerIn;rw[show PySem.W.findIn K (.ref C) f=some none from n]
 rfl
structure Meth(K:PySem.W.Frag)(C:ax)(m:Str)(f:ax):Prop where
 at_:PySem.W.findIn K (.ref C) m=some (some (.ref f))
 fn:PySem.W.isFn K (.ref f)=true
 kp:PySem.W.keepIn K (.ref f)=true
section
variable{X:Cx}{pins:List (ax×Obj)}{σ:qr}{H:Hp}{s:au}{a C dx:ax}{fs:List (Str×V)}{f:Str}{v:V}{A:c5}{E:ar->au->Prop}
def Gy{b:Bool}(I:Inv X pins σ H s)(e:H a=some (.ins C dx fs))(c:gm X.K C)(n:iA X.K C f)(l:fs.lookup f=some v)
  (h:∀u s',Inv X pins σ H s'->RelV v u->Q u s'):wpAny (bo X.prog X.w) A (getAttr (.ref a) f b) Q E s:=by
 obtain⟨mA,O,r,_,_,_⟩:=yC I.hok e;obtain⟨u,hu,ru⟩:=jD.some_of (v:=v) (o:=mA f) (by rw[<-l];exact r f);exact get_map I.fK O (c.get f) c.hd n hu (G2 ru) (h u _ (I.tok _) ru)
def GG{m:Str}{g:ax}{Q:ar×List ar->au->Prop}(I:Inv X pins σ H s)(e:H a=some (.ins C dx fs))(c:gm X.K C)(k:Meth X.K C m g)(l:fs.lookup m=none)
  (h:Q (.ref g,[.ref a]) s):wpAny (bo X.prog X.w) A (rB (.ref a) m pl) Q E s:=by
 obtain⟨mA,O,r,_,_,_⟩:=yC I.hok e;have hn:mA m=none:=jD.none_of (by rw[<-l];exact r m);exact X1 I.fK O (c.get m) k.at_ k.fn hn h
theorem ahc{y:V}{Q:Unit->au->Prop}(I:Inv X pins σ H s)(e:H a=some (.ins C dx fs))(c:gm X.K C)(n:iA X.K C f)(hl:fs.length<1000)(m:RelV y u)
  (h:∀s',Inv X pins σ (upd H a (.ins C dx (gE f y fs))) s'->Q () s'):wpAny (bo X.prog X.w) A (setAttr (.ref a) f u) Q E s:=by
 obtain⟨mA,O,r,F,_,ho⟩:=yC I.hok e;have hz:(fs.map (·.1)).length<=sizeLine:=by rw[ak,lh];omega
 refine P2 I.fK O c.sa c.po n.Yp c.hd F hz λh' d sb=>h _ ?_;have hd:∃o,h'.get? dx=some o:=let ⟨o,_,_,e',_⟩:=d.ns;⟨o,e'⟩;refine I.write (x:=a) (e:=dx) (by rw[e];exact fH) (.inr ho) (λb q hb z=>(sb.2 b hb).trans z) hd ?_;refine⟨by rw[br O.ne];exact ho,?_,O.ne,d.obj,_,d.ns,λg=>?_,λg hg=>?_⟩;·have:=QM f y fs;omega
 .show jD ((gE f y fs).lookup g) (if g=f then some u else mA g);rw[Ni];by_cases q:g=f;·rw[if_pos q,if_pos q];exact m
  .rw[if_neg q,if_neg q];exact r g
 .by_cases q:g=f;·rw[q];exact(D6 f y fs).1
  .refine(D6 f y fs).2 g (F g λz=>hg ?_);show(if g=f then some u else mA g)=none;rw[if_neg q];exact z
def Inv.made(I:Inv X pins σ H s):Inv X pins σ (upd (upd H s.heap.objs.size (.own (s.heap.objs.size+1))) (s.heap.objs.size+1) (.ins C s.heap.objs.size []))
  {s with heap:=(s.heap.push PySem.W.emptyDict).push (PySem.W.instObj C s.heap.objs.size)}:=by
 have e1:(s.heap.push PySem.W.emptyDict).get? s.heap.objs.size=some PySem.W.emptyDict:=gf s.heap rfl;have e2:((s.heap.push PySem.W.emptyDict).push (PySem.W.instObj C s.heap.objs.size)).get? (s.heap.objs.size+1)=some (PySem.W.instObj C s.heap.objs.size):=by
  have:=gf (s.heap.push PySem.W.emptyDict) (o:=PySem.W.instObj C s.heap.objs.size) rfl;rwa[mP] at this
 have e3:(s.heap.push PySem.W.emptyDict).Ns s.heap.objs.size (λ_=>none):=⟨PySem.W.emptyDict,#[],_,e1,rfl,(λe he=>absurd he (by simp)),λ_=>rfl⟩;have I1:=I.laid (a:=s.heap.objs.size) (o:= .own (s.heap.objs.size+1)) (h':=s.heap.push PySem.W.emptyDict) (t':=s.toks) (λb u q=>cJ _ q) (aH _) ⟨_,e1⟩;refine I1.laid (a:=s.heap.objs.size+1) (o:= .ins C s.heap.objs.size []) (t':=s.toks) (λb u q=>cJ _ q) (jf (mP _ _)) ?_;have ne:s.heap.objs.size≠s.heap.objs.size+1:=eS (pX _);refine⟨by rw[br ne,bB],eT _,ne,e2,λ_=>none,(Heap.Ns1.of_empty e3).at λo q=>cJ _ q,λ_=>fH,λy hy=>absurd rfl hy⟩
def U6{prog:cj}{f:Str}{s:au}(hb:lj e f env (eval e env)=eval e env)
  (h:wpAny (bo prog w) A (eval e env) (λo s₁=>wpAny (bo prog w) A (getAttr o f true) Q E s₁) E s):wpAny (bo prog w) A (eval (.Attribute e f pos) env) Q E s:=
 Attribute_any_ h (by rw[arm_eval_Attribute,hb])
end
def oV(K:PySem.W.Frag)(ta:TE)(f:Str):TE:=λσ H Q=>ta σ H λx H1=>∃a C dx fs v,x= .ref a/\H1 a=some (.ins C dx fs)/\gm K C/\iA K C f/\fs.lookup f=some v/\Q v H1
def Jp(K:PySem.W.Frag)(ta tv:TE)(f:Str):TS:=λD σ H=>tv σ H λy H1=>ta σ H1 λx H2=>∃a C dx fs,x= .ref a/\H2 a=some (.ins C dx fs)/\gm K C/\iA K C f/\fs.length<1000/\
 D.nx σ (upd H2 a (.ins C dx (gE f y fs)))
section
variable{X:Cx}{o e value:eM}{f:Str}{pos pos' tpos:Pos}{ta tv:TE}
def wZ(he:PE X e ta)(hb:lj e f X.env (eval e X.env)=eval e X.env):PE X (.Attribute e f pos) (oV X.K ta f):=by
 intro pins s σ H Q I h;refine U6 hb (aQ (he pins s σ H _ I h) λu s1 ⟨x,H1,I1,d,a,C,dx,fs,v,ex,ea,c,n,l,q⟩=>?_);subst ex;obtain rfl:u=dC a:=d;exact Gy I1 ea c n l λF s2 I2 ru=>⟨v,H1,I2,ru,q⟩
def Ob(ha:PE X o ta)(hv:PE X value tv)(hs:rA value (some (.Attribute o f pos')) pos.line X.env=pure false):PS X (.Assign [.Attribute o f pos'] value pos) (Jp X.K ta tv f):=by
 intro pins s σ H D I h;refine plainObj_wpAny_Assign_Attribute (aQ (hv pins s σ H _ I h) λu s1 ⟨y,H1,I1,m,q⟩=>aQ (ha pins s1 σ H1 _ I1 q) λb s2 ⟨x,H2,I2,d,a,C,dx,fs,ex,ea,c,n,l,q2⟩=>?_) hs;subst ex;obtain rfl:b=dC a:=d;exact ahc I2 ea c n l m λs3 I3=>⟨σ,_,I3,q2⟩
end
section
variable{X:Cx}{pins:List (ax×Obj)}{σ:qr}{H:Hp}{s:au}{A:c5}{E:ar->au->Prop}{Q:ar->au->Prop}{c:ar}{b:Bool}
inductive jA(K:PySem.W.Frag)(H:Hp):V->ar->Prop where
 |aL:jA K H .aL (.type "NoneType")
 |bl (x:Bool):jA K H (.bl x) (.type "bool")
 |int (i:Int):jA K H (.int i) (.type "int")
 |str (x:Str):jA K H (.str x) (.type "str")
 |m7 (x:UInt64):jA K H (.m7 x) (.type "float")
 |lst {a:ax} {xs:List V} (e:H a=some (.lst xs)):jA K H (.ref a) (.type "list")
 |iJ {a:ax} {o:Obj} {xs:List V} (e:H a=some (.iJ o (.lst xs))):jA K H (.ref a) (.type "list")
 |tup {a:ax} {xs:List V} (e:H a=some (.tup xs)):jA K H (.ref a) (.type "tuple")
 |dK {a:ax} {kvs:List (Key×V)} (e:H a=some (.dK kvs)):jA K H (.ref a) (.type "dict")
 |dT {a:ax} {kvs:List (List Key×V)} (e:H a=some (.dT kvs)):jA K H (.ref a) (.type "dict")
 |MN {a:ax} {o:Obj} {kvs:List (Key×V)} (e:H a=some (.iJ o (.dK kvs))):jA K H (.ref a) (.type "dict")
 | ins {a C dx : Addr} {fs : List (Str × V)} (e : H a = some (.ins C dx fs)) (cl : gm K C) (ha : PySem.W.findIn K (.ref C) "__class__" = some (some (.builtin "object.__class__")))
   (hn:PySem.W.specialIn K (.builtin "object.__class__") "__get__"=some (some (.builtin "getset_descriptor.__get__"))) (htk:PySem.W.takesIn K (.builtin "object.__class__")=some true)
   (hm:PySem.W.mroIn K C (.type "object")=some true):jA K H (.ref a) (.ref C)
def Wm{x:V}{t:ar}(I:Inv X pins σ H s)(d:RelV x u)(ty:jA X.K H x t)(e:PySem.W.kitOne X.K t c=some b)(h:∀tk,Q (.bool b) {s with toks:=tk}):
    wpAny (bo X.prog X.w) A (call (.builtin "isinstance") [u,c]) Q E s:=by
  cases ty with
  |aL=>cases (show u=js from d);exact kW PySem.W.kitx_none I.fK fH e (λz=>nomatch z) h
  |bl y=>cases (show u=oj y from d);exact kW PySem.W.kitx_bool I.fK fH e (λz=>nomatch z) h
  |int i=>obtain⟨t,q⟩:=(show∃t,u=me i t from d);cases q;exact kW PySem.W.kitx_int I.fK fH e (λz=>nomatch z) h
  |str y=>obtain⟨t,q⟩:=(show∃t,u=m3 y t from d);cases q;exact kW PySem.W.kitx_str I.fK fH e (λz=>nomatch z) h
  |m7 y=>obtain⟨t,q⟩:=(show∃t,u=rr y t from d);cases q;exact kW PySem.W.kitx_float I.fK fH e (λz=>nomatch z) h
  | @lst a xs ea =>
    cases (show u=dC a from d);obtain⟨_,_,n,_,h1⟩:=(show eE X.prog X.w H s.heap a (.lst xs) from I.hok a _ ea);exact kW PySem.W.kitx_list I.fK ⟨_,h1,rfl⟩ e (λz=>nomatch z) h
  | @iJ a ob xs ea =>
    cases (show u=dC a from d);obtain⟨_,_,_,n,_,h1⟩:=(show eE X.prog X.w H s.heap a (.iJ ob (.lst xs)) from I.hok a _ ea);exact kW PySem.W.kitx_list I.fK ⟨_,h1,rfl⟩ e (λz=>nomatch z) h
  | @tup a xs ea =>
    cases (show u=dC a from d);obtain⟨_,_,_,p⟩:=(show eE X.prog X.w H s.heap a (.tup xs) from I.hok a _ ea);obtain⟨o,h1,h2,_⟩:=p;exact kW PySem.W.kitx_tuple I.fK ⟨o,h1,h2⟩ e (λz=>nomatch z) h
  | @dK a kvs ea =>
    cases (show u=dC a from d);obtain⟨_,_,vs,_,p⟩:=(show eE X.prog X.w H s.heap a (.dK kvs) from I.hok a _ ea);obtain⟨o,es,ep,h1,h2,_⟩:=p;exact kW Kc I.fK ⟨o,h1,h2.1⟩ e (λz=>nomatch z) h
  | @dT a kvs ea =>
    cases (show u=dC a from d);obtain⟨_,_,xs,_,o,es,ep,h1,h2,_⟩:=(show eE X.prog X.w H s.heap a (.dT kvs) from I.hok a _ ea);exact kW Kc I.fK ⟨o,h1,h2.1⟩ e (λz=>nomatch z) h
  | @MN a ob kvs ea =>
    cases (show u=dC a from d);obtain⟨_,_,_,vs,_,o,es,ep,h1,h2,_⟩:=I.hok a _ ea;exact kW Kc I.fK ⟨o,h1,h2.1⟩ e (λz=>nomatch z) h
  | @ins a C dx fs ea cl ha hn htk hm =>
    cases (show u=dC a from d);obtain⟨mA,O,_⟩:=yC I.hok ea;obtain⟨od,J,_⟩:=O.look;exact kW (PySem.W.kitx_own (cl.get _) cl.hd ha hn htk hm) I.fK J e (λz=>nomatch z) h
end
structure eV(k:Nat)(A:c5):Prop where
 hd:A.handled=none
 dp:A.depth+3*k+5<tI
 un:A.units+16*k+200<D3
theorem eV.mono{k:Nat}(r:eV k A)(h:j<=k):eV j A:=⟨r.hd,by have:=r.dp;omega,by have:=r.un;omega⟩
theorem eV.deeper{k:Nat}{A:c5}(r:eV (k+1) A)(env:Env):eV k (A.deeper env):=
 ⟨r.hd,by have:=r.dp;show A.depth+1+3*k+5<_;omega,by have:=r.un;show A.units+3+16*k+200<_;omega⟩
def ZP{a:List (Str×ar)}:(A.under (.builtin "type.__call__" ⟨.ref C::us,a⟩)).depth=A.depth+1:=by
 first|rfl|simp[pz,Code.weight,Code.isCreation,Code.isGuard,Code.isCaller,y6,pE,guardIds]
def UB{a:List (Str×ar)}:(A.under (.builtin "type.__call__" ⟨.ref C::us,a⟩)).units=A.units+1:=by
 first|rfl|simp[pz,Code.cUnits,y6,pE]
theorem eV.make{k:Nat}(r:eV (k+1) A)(C:ax)(us:List ar)(a:List (Str×ar)):eV k (A.under (.builtin "type.__call__" ⟨.ref C::us,a⟩)):=
 ⟨r.hd,by have:=r.dp;rw[ZP];omega,by have:=r.un;rw[UB];omega⟩
theorem eV.depth{k:Nat}{A:c5}(r:eV k A):A.depth<tI:=by have:=r.dp;omega
theorem eV.units{k:Nat}{A:c5}(r:eV k A):A.units+64<D3:=by have:=r.un;omega
def cI:TA:=λ_ H Q=>Q [] H
def bN(ta:TE)(tr:TA):TA:=λσ H Q=>ta σ H λx H1=>tr σ H1 λxs H2=>Q (x::xs) H2
section
variable{X:Cx}{e:eM}{es:List eM}{te:TE}{t:TA}{pos:Pos}
def ai:PA X [] cI:=λ_ _ _ _ H Q I h=>Calls.spliced_nil ⟨[],H,I, .nil,h⟩
def aa(ha:PE X e te)(hr:PA X es t)(hs:c6 (e::es) X.env=(false,eval e X.env)::c6 es X.env:=by rfl):PA X (e::es) (bN te t):=by
 intro pos pins s σ H Q I h;rw[hs];show wpAny _ _ (spliced ((false,eval e X.env)::lS pos (c6 es X.env))) _ _ s;refine Calls.spliced_cons (aQ (ha pins s σ H _ I h) λu s1 ⟨x,H1,I1,C,J⟩=>?_);exact aQ (hr pos pins s1 σ H1 _ I1 J) λus s2 ⟨xs,H2,I2,Y,q2⟩=>⟨x::xs,H2,I2, .cons C Y,q2⟩
def qQ(t:TA):TE:=λσ H Q=>t σ H λxs H1=>xs.length<=sizeLine/\∀p,H1 p=none->Q (.ref p) (upd H1 p (.tup xs))
def qw(t:TA):TE:=λσ H Q=>t σ H λxs H1=>xs.length<=sizeLine/\∀p,H1 p=none->Q (.ref p) (upd H1 p (.lst xs))
def eO{x1}(h:PA X es t):PE X (.Tuple es x1 pos) (qQ t):=by
 intro pins s σ H Q I hq;refine wpAny_Tuple_spliced (aQ (h pos pins s σ H _ I hq) λus s1 ⟨xs,H1,I1,r,z,q⟩=>⟨by rw[<-r.length];exact z,?_⟩);have hf:H1 s1.heap.objs.size=none:=I1.hok.fresh (aH _);refine⟨.ref s1.heap.objs.size,upd H1 s1.heap.objs.size (.tup xs),I1.laid (t':=s1.toks) (λb u e=>cJ _ e) (aH _) ?_,rfl,q _ hf⟩;exact⟨z,us,r,⟨_,gf _ rfl,rfl,_,rfl⟩⟩
def fc(h:PA X es t):PE X (.List es pos) (qw t):=by
 intro pins s σ H Q I hq;refine wpAny_List_spliced (aQ (h pos pins s σ H _ I hq) λus s1 ⟨xs,H1,I1,r,z,q⟩=>⟨by rw[<-r.length];exact z,?_⟩);have hf:H1 s1.heap.objs.size=none:=I1.hok.fresh (aH _);refine⟨.ref s1.heap.objs.size,upd H1 s1.heap.objs.size (.lst xs),I1.laid (t':=s1.toks) (λb u e=>cJ _ e) (aH _) ?_,rfl,q _ hf⟩;exact⟨z,us,0,r,gf _ rfl⟩
end
abbrev Sp:=List V->Hp->VK->XK->Prop
abbrev l9:=List Env->Hp->au->XK->ar->au->Prop
structure qL(P:cj)(w:dc)(K:PySem.W.Frag)(mg:Str->Option ar)(base:e6)(A:c5)(outer:List Env)(s:au)(H:Hp):Prop where
 frames:A.frames=some outer
 mod:Mod K mg base
 bs:∀b o,base.get? b=some o->s.heap.get? b=some o/\H b=none
 pH:base.objs.size<=s.heap.objs.size
 kO:s.heap.FunFrames base outer
 qi:∀b∈frs outer,H b=none
 hok:ez P w H s.heap
 bare:mf s.gens
def CE(outer:List Env)(P:cj)(w:dc)(H:Hp)(s:au)(Q:VK)(u:ar)(s':au):Prop:=
 ∃v H',s'.os=s.os/\mf s'.gens/\Un (frs outer) [] H H' s.heap s'.heap/\ez P w H' s'.heap/\RelV v u/\Q v H'
def CR(CX:l9)(outer:List Env)(P:cj)(w:dc)(H:Hp)(s:au)(Q:VK)(E:XK)(r:Result)(s':au):Prop:=
 match r with
 | .ok (.ret u)=>CE outer P w H s Q u s'
 | .ok _=>False
 | .error e=>CX outer H s E e s'
structure aU(P:cj)(w:dc)(K:PySem.W.Frag)(mg:Str->Option ar)(base:e6)(CX:l9)(k:Nat)(f:ax)(fd:gN)(ps:List Str)(sp:Sp):Prop where
 len:∀vs H Q E,sp vs H Q E->vs.length=ps.length
 run:∀(A:c5) (outer:List Env) (s:au) (H:Hp) (args:Args) (us:List ar) (vs:List V) (Q:VK) (E:XK),eV k A->qL P w K mg base A outer s H->rT s fd args (ps.zip us)->Vals vs us->sp vs H Q E->
  codeAny (bo P w) A (.call (.ref f) args) (CR CX outer P w H s Q E) s
def qL.make{P:cj}{K:PySem.W.Frag}{H:Hp}(e:qL P w K mg base A outer s H)(C:ax)(us:List ar)(a:List (Str×ar)):
  qL P w K mg base (A.under (.builtin "type.__call__" ⟨.ref C::us,a⟩)) outer s H:=⟨by first|exact e.frames|(simpa[pz,Code.envs,pE,pushEnvs] using e.frames),e.mod,e.bs,e.pH,e.kO,e.qi,e.hok,e.bare⟩
section
variable{X:Cx}{pins:List (ax×Obj)}{σ:qr}{H:Hp}{s s':au}
def Inv.RD(I:Inv X pins σ H s):qL X.prog X.w X.K X.mg X.base X.A X.stack s H:=
 ⟨I.ok.frames,I.ok.mod,I.bs,eu I.ok.pH I.sz,I.stack,I.MM,I.hok,I.bare⟩
def Inv.after{Q:VK}(I:Inv X pins σ H s)(h:CE X.stack X.prog X.w H s Q u s'):EP X pins σ Q u s':=by
 obtain⟨v,H',os,bare,un,hok,r,q⟩:=h;obtain⟨L,g,d,t,a⟩:=s';obtain rfl:a=s.os:=os;exact⟨v,H',I.call (h':=L) (g':=g) (d':=d) (t':=t) (ch:=[]) un hok bare (λb z=>absurd z (by simp)),r,q⟩
end
def gY(sp:Sp)(gH:List V)(E:XK)(t:TA):TE:=λσ H Q=>t σ H λvs H1=>sp (vs++gH) H1 Q E
def ud(C:ax)(m:Str)(sp:Sp)(gH:List V)(E:XK)(ta:TE)(t:TA):TE:=λσ H Q=>ta σ H λx H1=>∃a dx fs,x= .ref a/\H1 a=some (.ins C dx fs)/\fs.lookup m=none/\
 t σ H1 λvs H2=>sp (x::(vs++gH)) H2 Q E
def GX(C:ax)(sp:Sp)(gH:List V)(E:XK)(t:TA):TE:=λσ H Q=>t σ H λvs H1=>∀x dx,H1 x=none->H1 dx=none->dx≠x->
 sp (.ref x::(vs++gH)) (upd (upd H1 dx (.own x)) x (.ins C dx [])) (λv H2=>v= .aL/\Q (.ref x) H2) E
def Binds(K:PySem.W.Frag)(fd:gN)(ps:List Str)(ds:List ar):Prop:=
 ∀(s:au) (us:List ar),K.In s.heap->(us++ds).length=ps.length->rT s fd ⟨us,[]⟩ (ps.zip (us++ds))
def Binds.all{K:PySem.W.Frag}(h:∀us:List ar,us.length=ps.length->bindArgs fd ⟨us,[]⟩=pure (ps.zip us)):Binds K fd ps []:=λs us _ hl=>by
 rw[fW] at hl⊢;exact .of_eq (h us hl)
def Passes(CX:l9)(X:Cx)(E:XK):Prop:=∀(pins:List (ax×Obj)) (σ:qr) (H:Hp) (s:au) (e:ar) (s':au),Inv X pins σ H s->CX X.stack H s E e s'->X.xe e s'
section
variable{X:Cx}{CX:l9}{k:Nat}{f C:ax}{fd:gN}{ps:List Str}{sp:Sp}{gH:List V}{ds:List ar}{E:XK}{x m:Str}{p pos apos:Pos}{e o:eM}{es:List eM}{ta:TE}{t:TA}
def Ij{σ:qr}{H:Hp}{Q:VK}{vs:List V}(F:aU X.prog X.w X.K X.mg X.base CX k f fd ps sp)(hr:eV k X.A)(hb:Binds X.K fd ps ds)(hd:Vals gH ds)(hx:Passes CX X E)
    (I:Inv X pins σ H s) (r:Vals vs us) (h:sp (vs++gH) H Q E):wpAny (bo X.prog X.w) X.A (call (.ref f) us) (EP X pins σ Q) X.xe s:=by
  have Y:Vals (vs++gH) (us++ds):=r.append hd;have hl:(us++ds).length=ps.length:=by rw[<-Y.length];exact F.len _ _ _ _ h
  refine vF (ik (F.run X.A X.stack s H ⟨us,[]⟩ (us++ds) (vs++gH) Q E hr I.RD (hb s us I.fK hl) Y h) λr s' hq=>?_);cases r with
  |error e=>exact hx pins σ H s e s' I hq
  | ok fl =>
    cases fl with
    |ret u=>exact I.after hq
    |next=>exact eo hq
    |brk=>exact eo hq
    |cont=>exact eo hq
def aba(F:aU X.prog X.w X.K X.mg X.base CX k f fd ps sp)(hr:eV k X.A)(hg:Gl X x)(hm:X.mg x=some (.ref f))(hk:PySem.W.keepIn X.K (.ref f)=true)(hb:Binds X.K fd ps ds)(hd:Vals gH ds)(hx:Passes CX X E)
  (ha:PA X (e::es) t) (a:(x==("__debug__":Str))=false:=by decide) (he:c6 (e::es) X.env=(false,eval e X.env)::c6 es X.env:=by rfl) (hpl:(lS pos (c6 es X.env)).any (·.1)=false:=by rfl):
  PE X (.Call (.Name x p) (e::es) [] pos) (gY sp gH E t):=by
 intro pins s σ H Q I h;refine g4 (GN I hg hm ?_ a);refine GF (h₀:=X.base) I.ok.mod.vP hk (aQ (ha pos pins s σ H _ I h) λus s1 ⟨vs,H1,I1,r,q⟩=>⟨I1.fK,?_⟩) he hpl;exact Ij F hr hb hd hx I1 r q
def Ut(he:PE X o ta)(c:gm X.K C)(hm:Meth X.K C m f)(F:aU X.prog X.w X.K X.mg X.base CX k f fd ps sp)(hr:eV k X.A)(hb:Binds X.K fd ps ds)(hd:Vals gH ds)(hx:Passes CX X E)
  (ht : eval (.Call (.Attribute o m apos) [] [] pos) X.env = (do
   let ov<-eval o X.env
   standAt apos.atName
   let (f,first)<-holding [ov] (rB ov m pl)
   callWith pos f first (lS pos (c6 [] X.env)) (C6 pos (r3 [] X.env))):=by rfl):
  PE X (.Call (.Attribute o m apos) [] [] pos) (ud C m sp gH E ta cI):=by
 intro pins s σ H Q I h;refine CW (pl:=pl) (aQ (he pins s σ H _ I h) λu s1 ⟨x,H1,I1,d,a,dx,fs,ex,ea,l,q⟩=>?_) ht;subst ex;obtain rfl:u=dC a:=d;refine GG I1 ea c hm l ?_;exact PySem.W.callWith_K0 (first:=[.ref a]) I1.fK hm.kp (Ij (us:=[.ref a]) (vs:=[.ref a]) F hr hb hd hx I1 (.cons rfl .nil) q)
structure Mk(K:PySem.W.Frag)(C f:ax):Prop where
 makes:PySem.W.makesIn K C=true
 init:PySem.W.findIn K (.ref C) "__init__"=some (some (.ref f))
 fn:PySem.W.isFn K (.ref f)=true
 kp:PySem.W.keepIn K (.ref C)=true
def UU{σ:qr}{H:Hp}{Q:VK}{vs:List V}(M:Mk X.K C f)(F:aU X.prog X.w X.K X.mg X.base CX k f fd ps sp)(hr:eV (k+1) X.A)(hb:Binds X.K fd ps ds)(hd:Vals gH ds)
    (hx:Passes CX X E) (I:Inv X pins σ H s) (r:Vals vs us)
    (h:∀x dx,H x=none->H dx=none->dx≠x->sp (.ref x::(vs++gH)) (upd (upd H dx (.own x)) x (.ins C dx [])) (λv H2=>v= .aL/\Q (.ref x) H2) E):
    wpAny (bo X.prog X.w) X.A (call (.ref C) us) (EP X pins σ Q) X.xe s:=by
  have hq:=h (s.heap.objs.size+1) s.heap.objs.size (I.hok.fresh (sf _)) (I.hok.fresh (aH _)) (eS (pX _));have I2:=Inv.made (C:=C) I;have Y:Vals (V.ref (s.heap.objs.size+1)::(vs++gH)) (dC (s.heap.objs.size+1)::(us++ds)):= .cons rfl (r.append hd);have hl:(dC (s.heap.objs.size+1)::us++ds).length=ps.length:=by
    have e:=Y.length;rw[F.len _ _ _ _ hq] at e;exact e.symm
  refine vF (Uc (f:=f) I.fK M.makes M.init (beq_iff_eq.mp M.fn) (ik (F.run _ X.stack _ _ ⟨dC (s.heap.objs.size+1)::us,[]⟩ (dC (s.heap.objs.size+1)::(us++ds)) _ _ E (hr.make C us [])
    (I2.RD.make C us []) (hb _ (dC (s.heap.objs.size+1)::us) I2.fK hl) Y hq) λr s' b=>?_))
  cases r with
  |error e=>exact hx pins σ _ _ e s' I2 b
  | ok fl =>
    cases fl with
    | ret u =>
      obtain⟨v,H',I3,rv,ev,U⟩:=I2.after b;subst ev;exact⟨rv,⟨V.ref (s.heap.objs.size+1),H',I3,rfl,U⟩⟩
    |next=>exact eo b
    |brk=>exact eo b
    |cont=>exact eo b
def Zj(M:Mk X.K C f)(F:aU X.prog X.w X.K X.mg X.base CX k f fd ps sp)(hr:eV (k+1) X.A)(hg:Gl X x)(hm:X.mg x=some (.ref C))(hb:Binds X.K fd ps ds)(hd:Vals gH ds)(hx:Passes CX X E)
  (ha:PA X (e::es) t) (a:(x==("__debug__":Str))=false:=by decide) (he:c6 (e::es) X.env=(false,eval e X.env)::c6 es X.env:=by rfl) (hpl:(lS pos (c6 es X.env)).any (·.1)=false:=by rfl):
  PE X (.Call (.Name x p) (e::es) [] pos) (GX C sp gH E t):=by
 intro pins s σ H Q I h;refine g4 (GN I hg hm ?_ a);refine GF (h₀:=X.base) I.ok.mod.vP M.kp (aQ (ha pos pins s σ H _ I h) λus s1 ⟨vs,H1,I1,r,q⟩=>⟨I1.fK,?_⟩) he hpl;exact UU M F hr hb hd hx I1 r q
end
structure bz(N P:List Str)(sc:kS):Prop where
 kind:sc.kind= .function
 co:sc.isCoroutine=false
 gen:sc.isGenerator=false
 nd:N.Nodup
 pre:N.take P.length=P
 par:∀x∈P,sc.names.lookup x=some .local\/sc.names.lookup x=some .cell
 HH:∀y∈sc.names,y.2≠ .free
theorem O9{kindOf:Str->Option fI}{x:Str}:∀{binds:List (Str×ar)} {m:Str->Option ar},(∀v,(x,v)∉binds)->y7 kindOf binds m x=m x
  |[],_,_=>rfl
  | (n, v) :: r, m, h => by
    unfold y7;rw[O9 λw hw=>h w (cF _ hw)];split
    · have:x≠n:=by rintro rfl;exact h v cP
      simp[this]
    · rfl
theorem Ry{kindOf:Str->Option fI}{x:Str}:∀{binds:List (Str×ar)} {m:Str->Option ar},(∀v,(x,v)∉binds)->zi kindOf binds m x=m x
  |[],_,_=>rfl
  | (n, v) :: r, m, h => by
    unfold zi;rw[Ry λw hw=>h w (cF _ hw)];split;· rfl
    · have:x≠n:=by rintro rfl;exact h v cP
      simp[this]
theorem Qw{kindOf:Str->Option fI}{x:Str}{v:ar}:∀{P:List Str} {vs:List ar} {i:Nat} {m:Str->Option ar},P.Nodup->P[i]?=some x->vs[i]?=some v->kindOf x=some .local->
    y7 kindOf (P.zip vs) m x=some v
  |[],_,_,_,_,h,_,_=>by simp at h
  |_::_,[],_,_,_,_,h,_=>by simp at h
  | p :: P, w :: vs, 0, m, nd, h1, h2, hk => by
    simp at h1 h2;subst h1;subst h2;show y7 kindOf ((p,w)::P.zip vs) m p=_;unfold y7;rw[O9 λv hv=>(iT.mp nd).1 (Fb hv).1,if_pos hk];simp
  | p :: P, w :: vs, i + 1, m, nd, h1, h2, hk => by
    show y7 kindOf ((p,w)::P.zip vs) m x=_;unfold y7;exact Qw (i:=i) (iT.mp nd).2 (by simpa using h1) (by simpa using h2) hk
theorem SK{kindOf:Str->Option fI}{x:Str}{v:ar}:∀{P:List Str} {vs:List ar} {i:Nat} {m:Str->Option ar},P.Nodup->P[i]?=some x->vs[i]?=some v->kindOf x≠some .local->
    zi kindOf (P.zip vs) m x=some v
  |[],_,_,_,_,h,_,_=>by simp at h
  |_::_,[],_,_,_,_,h,_=>by simp at h
  | p :: P, w :: vs, 0, m, nd, h1, h2, hk => by
    simp at h1 h2;subst h1;subst h2;show zi kindOf ((p,w)::P.zip vs) m p=_;unfold zi;rw[Ry λv hv=>(iT.mp nd).1 (Fb hv).1,if_neg hk];simp
  | p :: P, w :: vs, i + 1, m, nd, h1, h2, hk => by
    show zi kindOf ((p,w)::P.zip vs) m x=_;unfold zi;exact SK (i:=i) (iT.mp nd).2 (by simpa using h1) (by simpa using h2) hk
noncomputable def start(N:List Str)(vs:List V):qr:=vs.map some++cq (N.length-vs.length) none
noncomputable def sq(CX:l9)(P:cj)(w:dc)(K:PySem.W.Frag)(mg:Str->Option ar)(base:e6)(N:List Str)(qual:Str)(scope:kS)(f:ax)(m:ar)(A:c5)(outer:List Env)(s:au)(H:Hp)(E:XK):Cx where
 prog:=P
 w:=w
 K:=K
 mg:=mg
 base:=base
 A:=A.deeper (pN qual scope s.heap.objs.size f m)
 N:=N
 s₀:=s
 H₀:=H
 env:=pN qual scope s.heap.objs.size f m
 outer:=outer
 stack:=pN qual scope s.heap.objs.size f m::outer
 ex:=[]
 calm:=true
 fn:=λ_=>true
 pn:=[]
 xe:=λe s'=>wpAny (bo P w) (A.deeper (pN qual scope s.heap.objs.size f m)) (leaving (pN qual scope s.heap.objs.size f m) e) (λ_ a=>CX outer H s E e a) (λe' a=>CX outer H s E e' a) s'
def RI{sc:kS}(h:sc.names.lookup x=some .cell):∃c,(xi n sc.names []).lookup x=some c:=by
 have q:=Q0 sc.names n [] (.inl h);exact D4.mp q
theorem XH{CX:l9}{P:cj}{K:PySem.W.Frag}{f:ax}{m:ar}{s1:au}{H:Hp}{E:XK}{vs:List V}
  (S:bz N ps scope) (hd:A.handled=none) (O:qL P w K mg base A outer s H) (hl:vs.length=ps.length) (r:Vals vs us)
  (x:InCallC s s.heap.objs.size (y7 (pN qual scope s.heap.objs.size f m).kindOf (ps.zip us) λ_=>none) (xi (s.heap.objs.size+1) scope.names []) (zi (pN qual scope s.heap.objs.size f m).kindOf (ps.zip us) λ_=>none) s1):
  Inv (sq CX P w K mg base N qual scope f m A outer s H E) [] (start N vs) H s1:=by
 have hpl:ps.length<=N.length:=by have:=congrArg gO S.pre;rw[mX] at this;omega
 obtain⟨h1,tk,rfl,hk⟩:=x.done;have g:∀b:ax,b∉(sq CX P w K mg base N qual scope f m A outer s H E).ex:=λb z=>absurd (show b∈([]:List ax) from z) (by simp)
 refine⟨⟨O.mod,S.kind,rfl,rfl,aH _,λy z c h1 h2=>?_,λy hy=>?_,λy c _ h=>?_,λ_=>hd,Around.frames_deeper O.frames, .inr ⟨rfl,rfl⟩,λb z=>absurd z (g b),O.bs,O.pH,λb _ _=>g b,λb z=>absurd z (g b),O.kO,O.qi⟩,
  rfl,O.bare,Un.kept hk,⟨_,x.toInCall.ns,λi y v h1 h2 h3=>?_⟩,λy c h=>⟨_,x.cell y c h⟩,O.hok.fresh (aH _),λy c h=>?_,λp hp=>absurd (show p∈([]:List (ax×Obj)) from hp) (by simp),O.hok.kept hk,?_⟩
 .exact name_of_addr x.apart (p5 h1) (p5 h2)
 .have hy:scope.names.lookup y=some .cell\/scope.names.lookup y=some .free:=hy;rcases hy with hy|hy
  .exact RI hy
  .exact absurd rfl (S.HH _ (p5 hy))
 .exact eZ (x.above y c (p5 h))
 .have hi:i<vs.length:=by
   unfold start at h2;by_cases hi:i<vs.length;·exact hi
   .rw[iK (by simpa using hi)] at h2;rw[iF] at h2;split at h2<;>cases h2
  have ha:vs[i]?=some v:=by
   unfold start at h2;rw[gW (by simpa using hi),cS] at h2;cases e:vs[i]? with
   |none=>rw[e] at h2;cases h2
   |some a=>rw[e] at h2;cases h2;rfl
  obtain⟨u,hu,rv⟩:=r.get ha;have hp:ps[i]?=some y:=by
   rw[<-S.pre,Tn ∅];exact h1
  have d:ps.Nodup:=by rw[<-S.pre];exact S.nd.sublist (ot _ _)
  refine⟨u,rv,?_⟩;rcases S.par y (bP hp) with k|k
  .exact .inl ⟨k,Qw d hp hu k⟩
  .obtain⟨c,e⟩:=RI (n:=s.heap.objs.size+1) k;refine .inr ⟨.inl k,c,e,?_⟩;have q:=x.cell y c e;rw[SK d hp hu (by show scope.names.lookup y≠_;rw[k];decide)] at q;exact q
 .exact O.hok.fresh (eZ (x.above y c (p5 h)))
 .unfold start;show _=N.length;rw[cH,ak,LD];omega
def VE{CX:l9}{P:cj}{K:PySem.W.Frag}{k:Nat}{f:ax}{name:Str}{d:Arguments}{a:List fb}{i kV doc pm cdv ct:ar}{an od:Option ax} {sp:Sp} (lk:K.lookup f=some ⟨oc,od, .func (PySem.W.fnOf name qual d a scope i kV doc pm an cdv ct),osl⟩) (j:PySem.W.codeIn K cdv qual=true) (S:bz N ps scope)
    (len:∀vs H Q E,sp vs H Q E->vs.length=ps.length)
    (c:∀(A:c5) (outer:List Env) (s:au) (H:Hp) (vs:List V) (Q:VK) (E:XK),eV k (A.deeper (pN qual scope s.heap.objs.size f cdv))->sp vs H Q E->
      ∃t,kC (sq CX P w K mg base N qual scope f cdv A outer s H E) a t/\t {nx:=λ_ H'=>Q .aL H',rt:=Q} (start N vs) H):
    aU P w K mg base CX (k+1) f (PySem.W.fnOf name qual d a scope i kV doc pm an cdv ct) ps sp:=by
  refine⟨len,λA outer s H args us vs Q E hr O hb r C=>?_⟩;have hl:=len _ _ _ _ C;have KX:K.In s.heap:=O.mod.vP.keeps λb o e=>(O.bs b o e).1;have h:s.heap.NoLimit:=O.mod.nolimit.keeps λb o e=>(O.bs b o e).1;have g:∀y∈ps.zip us,scope.names.lookup y.1=some .local\/(scope.names.lookup y.1=some .cell/\((xi (s.heap.objs.size+1) scope.names []).lookup y.1).isSome=true):=λ⟨n,v⟩ hy=>by
    rcases S.par n (Fb hy).1 with q|q
    · exact .inl q
    · exact .inr ⟨q,Q0 _ _ _ (.inl q)⟩
  refine codeAny_call_function hr.depth (KX _ _ lk) rfl S.co S.gen rfl (PySem.W.codeRec_of KX j) (hb _ _ _ _ ?_);refine wpAny_newFunctionEnv_cells S.kind g λenv he s1 x=>?_;subst he;refine⟨h.keeps x.toInCall.keep,codeAny_func ?_⟩;obtain⟨t,ht,hq⟩:=c A outer s H vs Q E (hr.deeper _) C;have I:Inv (sq CX P w K mg base N qual scope f cdv A outer s H E) [] (start N vs) H s1:=XH S hr.hd O hl r x;refine fm (ht [] s1 (start N vs) H _ I hq) (λfl s' hs=>?_) λe s' hs=>hs
  have fin:∀{L:qr} {H':Hp} {v:V} {u:ar},Inv (sq CX P w K mg base N qual scope f cdv A outer s H E) [] L H' s'->RelV v u->Q v H'->CE outer P w H s Q u s':=
    λ{L H' v u} J rv q=>⟨v,H',J.os,J.bare,J.base,J.hok,rv,q⟩
  cases fl with
  | ret u =>
    obtain⟨v,L,H',J,rv,q⟩:=hs;exact fin J rv q
  | next =>
    obtain⟨L,H',J,q⟩:=hs;exact fin (v:=V.aL) (u:=js) J rfl q
  | brk =>
    obtain⟨_,_,_,q⟩:=hs;exact eo q
  | cont =>
    obtain⟨_,_,_,q⟩:=hs;exact eo q
section
variable{X:Cx}{x:Str}{p pos:Pos}{e:eM}{es:List eM}{t:TA}{id T:String}{r:List V->Hp->VK->Prop}
def gv(r:List V->Hp->VK->Prop)(t:TA):TE:=λσ H Q=>t σ H λvs H1=>r vs H1 Q
def eN(hc:fT X (.builtin id) r)(hg:Gl X x)(hm:X.mg x=none)(hv:ij x=some (.builtin id))(ha:PA X (e::es) t)(hn:x≠"__name__":=by decide)(a:(x==("__debug__":Str))=false:=by decide)
  (he:c6 (e::es) X.env=(false,eval e X.env)::c6 es X.env:=by rfl) (hpl:(lS pos (c6 es X.env)).any (·.1)=false:=by rfl):PE X (.Call (.Name x p) (e::es) [] pos) (gv r t):=by
 intro pins s σ H Q I h;refine g4 (rC I hg hm hv ?_ hn a);exact pY (aQ (ha pos pins s σ H _ I h) λus s1 ⟨vs,H1,I1,C,J⟩=>hc pins s1 σ H1 vs us Q I1 C J) he hpl
def gG(hc:fT X (.type T) r)(hg:Gl X x)(hm:X.mg x=none)(hv:ij x=some (.type T))(ha:PA X (e::es) t)(hn:x≠"__name__":=by decide)(a:(x==("__debug__":Str))=false:=by decide)
  (he:c6 (e::es) X.env=(false,eval e X.env)::c6 es X.env:=by rfl) (hpl:(lS pos (c6 es X.env)).any (·.1)=false:=by rfl):PE X (.Call (.Name x p) (e::es) [] pos) (gv r t):=by
 intro pins s σ H Q I h;refine g4 (rC I hg hm hv ?_ hn a);exact BO (aQ (ha pos pins s σ H _ I h) λus s1 ⟨vs,H1,I1,C,J⟩=>hc pins s1 σ H1 vs us Q I1 C J) he hpl
end
end L2
variable{H H1 H':L2.Hp}{xs vs:List L2.V}{σ:L2.qr}{X:L2.Cx}{q:L2.qr->L2.Hp->Prop}{g:L2.TG}{d:L2.Hp->Prop}{tc:L2.TT}{te t0 tl:L2.TE}{kvs:List (L2.Key×L2.V)}{t:L2.TA}{sp:L2.Sp}{D:L2.Ends}
namespace HT
open PySem PyProof.Rows
section
open PySem.SeqAt
open PySem.AutoSeq1 (wpAny_loadPart')
open PySem.MeetsSeq PySem.MeetsSeq2 PySem.MeetsSeq3
end
section
variable{prog:cj}{w:dc}{A:c5}{E:ar->au->Prop}{s:au}
noncomputable def fk(n d:Nat):Option Int->Nat
 |none=>d
 |some v=>if v<0 then(v+(n:Int)).toNat else min v.toNat n
def abv(n d:Nat):fk n d none=d:=rfl
end
end HT
namespace L2
abbrev TO:=qr->Hp->(Option Int->Hp->Prop)->Prop
def PO(X:Cx)(e:Option eM)(t:TO):Prop:=
 ∀(pins:List (ax×Obj)) (s:au) (σ:qr) (H:Hp) (Q:Option Int->Hp->Prop),Inv X pins σ H s->t σ H Q->
  wpAny (bo X.prog X.w) X.A (evalPart e X.env) (λu s'=>∃o H',Inv X pins σ H' s'/\IsPart u o/\Q o H') X.xe s
def E3:TO:=λ_ H Q=>Q none H
def DK(t:TE):TO:=λσ H Q=>t σ H λx H1=>∃i,x= .int i/\Q (some i) H1
section
variable{X:Cx}{e:eM}{te:TE}{lo hi:Option eM}{tl th:TO}{pos p2:Pos}
def lR:PO X none E3:=by
 intro pins s σ H Q I h;rw[wq];exact aw ⟨none,H,I, .none,h⟩
def lD(h:PE X e te):PO X (some e) (DK te):=by
 intro pins s σ H Q I hw;rw[evalPart_some];refine aQ (h pins s σ H _ I hw) λu s1 ⟨x,H1,I1,C,J⟩=>?_;obtain⟨i,rfl,q⟩:=J;obtain⟨t,rfl⟩:=C;exact⟨some i,H1,I1, .int i t,q⟩
def FO(X:Cx)(r:V->Option Int->Option Int->Hp->VK->Prop):Prop:=
 ∀(pins:List (ax×Obj)) (s:au) (σ:qr) (H:Hp) (x:V) (v c a:ar) (lo hi:Option Int) (sl:ax) (Q:VK),Inv X pins σ H s->RelV x v->s.heap.IsSliceOf sl c a .none->IsPart c lo->IsPart a hi->r x lo hi H Q->
  ∃T id,typeLookup (.type T) "__getitem__"=pure (some (.builtin id))/\s.TypeIs v T/\wpAny (bo X.prog X.w) X.A (zr v (.ref sl)) (EP X pins σ Q) X.xe s
def rP(r:V->Option Int->Option Int->Hp->VK->Prop)(te:TE)(tl th:TO):TE:=λσ H Q=>te σ H λx H1=>tl σ H1 λl H2=>th σ H2 λu H3=>r x l u H3 Q
def lX{r:V->Option Int->Option Int->Hp->VK->Prop}(hr:FO X r)(he:PE X e te)(hl:PO X lo tl)(hu:PO X hi th):PE X (.Subscript e (.Slice lo hi none p2) pos) (rP r te tl th):=by
 intro pins s σ H Q I h;refine Subscript_ (aQ (he pins s σ H _ I h) λv s1 ⟨x,H1,I1,C,J⟩=>?_);refine wpAny_Slice (aQ (hl pins s1 σ H1 _ I1 J) λc s2 ⟨l,H2,I2,pl,q2⟩=>aQ (hu pins s2 σ H2 _ I2 q2) λa s3 ⟨u,H3,I3,d,U⟩=>?_);rw[wq];refine aw ?_;have I4:Inv X pins σ H3 {s3 with heap:=s3.heap.push {cls:= .type "slice",data:= .fields #[c,a, .none]}}:=I3.kept (t':=s3.toks) λb ob q=>cJ _ q;obtain⟨T,id,hT,ht,hg⟩:=hr pins {s3 with heap:=s3.heap.push {cls:= .type "slice",data:= .fields #[c,a, .none]}} σ H3 x v c a l u s3.heap.objs.size Q I4 C (Dd ..) pl d U;show wpAny (bo X.prog X.w) X.A (nr e (.Slice lo hi none p2) v (.ref s3.heap.objs.size)) (EP X pins σ Q) X.xe {s3 with heap:=s3.heap.push {cls:= .type "slice",data:= .fields #[c,a, .none]}};exact tail_any (ops:=[.ref s3.heap.objs.size,v]) ht hT hg (by with_unfolding_all rfl)
noncomputable def mR(xs:List V)(lo hi:Option Int):List V:=(xs.drop (HT.fk xs.length 0 lo)).take (HT.fk xs.length xs.length hi-HT.fk xs.length 0 lo)
theorem Zv(xs:List V)(lo hi:Option Int):(mR xs lo hi).length<=xs.length:=by
 unfold mR;rw[mX,rF];omega
end
noncomputable def iR(n:Nat)(i:Int):Option Nat:=if 0<=i then(if i<n then some i.toNat else none) else if-(n:Int)<=i then some (i+n).toNat else none
noncomputable def bU(xs:List α)(i:Int):Option α:=(iR xs.length i).bind λj=>xs[j]?
theorem Mb{i:Int}(h:iR n i=some j):seqIndex? i n=some j/\j<n/\ -(n:Int)<=i/\i<n:=by
 unfold iR at h;by_cases h0:0<=i
 .rw[if_pos h0] at h;by_cases h1:i<n
  .rw[if_pos h1] at h;have e:i.toNat=j:=iI h;exact⟨by rw[r4 h0 h1,e],∅,∅,h1⟩
  .rw[if_neg h1] at h;cases h
 .rw[if_neg h0] at h;by_cases h1: -(n:Int)<=i
  .rw[if_pos h1] at h;have e:(i+n).toNat=j:=iI h;exact⟨by rw[seqIndex_neg ∅ h1,e],∅,h1,∅⟩
  .rw[if_neg h1] at h;cases h
def PV{α:Type}{xs:List α}{i:Int}{v:α}(h:bU xs i=some v):∃j,seqIndex? i xs.length=some j/\xs[j]?=some v/\j<xs.length/\ -(xs.length:Int)<=i/\i<xs.length:=by
  unfold bU at h;cases e:iR xs.length i with
  |none=>rw[e] at h;cases h
  | some j =>
    rw[e] at h;obtain⟨h1,h2,h3,h4⟩:=Mb e;exact⟨j,h1,h,h2,h3,h4⟩
theorem VZ{α:Type}{xs:List α}{v:α}(h:xs[j]?=some v):bU xs (j:Int)=some v:=by
 have hj:j<xs.length:=(bV.mp h).1;have e:iR xs.length (j:Int)=some j:=by
  unfold iR;rw[if_pos ∅,if_pos ∅];simp
 unfold bU;rw[e];exact h
def aa4(b:eM):Prop:=∀o i,r7 b false o i=operate [o,i] (zr o i)
def yb(X:Cx)(r:R2):Prop:=
 ∀(value a:eM) (pins:List (ax×Obj)) (s:au) (σ:qr) (H:Hp) (x y:V) (v u:ar) (Q:VK),Inv X pins σ H s->RelV x v->RelV y u->r x y H Q->
  r7 a false v u=operate [v,u] (zr v u)->wpAny (bo X.prog X.w) X.A (nr value a v u) (EP X pins σ Q) X.xe s
def qI(X:Cx)(id:String)(r:V->List V->Hp->VK->Prop):Prop:=
 ∀(pins:List (ax×Obj)) (s:au) (σ:qr) (H:Hp) (x:V) (xs:List V) (v:ar) (us:List ar) (Q:VK),Inv X pins σ H s->RelV x v->Vals xs us->r x xs H Q->
  wpAny (bo X.prog X.w) X.A (call (.builtin id) (v::us)) (EP X pins σ Q) X.xe s
section
variable{X:Cx}{a b:eM}{ta tb:TE}{pos:Pos}
def aD{r:R2}(hr:yb X r)(ha:PE X a ta)(hb:PE X b tb)(hs:aa4 b):PE X (.Subscript a b pos) (dP r ta tb):=by
 intro pins s σ H Q I h;exact Subscript_ (IM ha hb I h λv u s2 x y H2 I2 d m q=>hr a b pins s2 σ H2 x y v u Q I2 d m q (hs _ _))
def cB(K:PySem.W.Frag):R2:=λx y H Q=>∃p xs i v,x= .ref p/\y= .int i/\bw K H p xs/\bU xs i=some v/\Q v H
def bG(K:PySem.W.Frag):R2:=λx y H Q=>∃p xs i v,x= .ref p/\y= .int i/\fE K H p xs/\bU xs i=some v/\Q v H
def RR:R2:=λx y H Q=>∃z i c,x= .str z/\y= .int i/\z.length<=sizeLine/\bU z.cps.toList i=some c/\Q (.str ⟨#[c]⟩) H
theorem bF:yb X (cB X.K):=by
 intro value slice pins s σ H x y v u Q I rx ry h hs;obtain⟨p,xs,i,z,rfl,rfl,hq,he,q⟩:=h;cases rx;obtain⟨t,rfl⟩:=ry;obtain⟨its,r,pl,hz⟩:=I.list hq;obtain⟨j,h1,h2,h3,h4,h5⟩:=PV he;obtain⟨w,ew,c⟩:=r.get h2;have hl:=r.length;have hn:=sF;have fin:EP X pins σ Q w s:=⟨z,H,I,c,q⟩;by_cases h0:0<=i
 .have hj:i.toNat=j:=by
   rw[r4 h0 h5] at h1;exact iI h1
  exact item_listR pl.isList h0 ∅ (by rw[hj];simpa using ew) fin hs
 .have hj:(i+(its.toArray.size:Int)).toNat=j:=by
   rw[seqIndex_neg ∅ h4] at h1;rw[eU,<-hl];exact iI h1
  exact ma (x:=w) pl.isList.typeIs ou.lookup
   (wpAny_getItem_list_neg (Q:=λr s'=>r=w/\EP X pins σ Q r s') pl.isList ∅ (by rw[eU]<;>omega) ∅ (by rw[hj];simpa using ew) ⟨rfl,fin⟩) hs
theorem bL:yb X (bG X.K):=by
 intro value slice pins s σ H x y v u Q I rx ry h hs;obtain⟨p,xs,i,z,rfl,rfl,hq,he,q⟩:=h;cases rx;obtain⟨t,rfl⟩:=ry;obtain⟨its,r,pl,hz⟩:=I.tuple hq;obtain⟨j,h1,h2,h3,h4,h5⟩:=PV he;obtain⟨w,ew,c⟩:=r.get h2;have hl:=r.length;have hn:=sF;have fin:EP X pins σ Q w s:=⟨z,H,I,c,q⟩
 exact ma (x:=w) pl.typeIs slot_tuple_getitem.lookup
  (getItem_tuple (j:=j) (Q:=λr s'=>r=w/\EP X pins σ Q r s') pl ∅ ∅ (by rw[eU,<-hl];exact h1) (by simpa using ew) ⟨rfl,fin⟩) hs
def Mm(K:PySem.W.Frag):R2:=λx y H Q=>cB K x y H Q\/bG K x y H Q\/RR x y H Q
def Lq(its:List ar)(n j:Nat)(u:ar):eF (·.setIfInBounds j u) {cls:= .type "list",data:= .seq its.toArray n}={cls:= .type "list",data:= .seq (its.set j u).toArray n}:=by
 simp[eF]
theorem Inv.lst{pins:List (ax×Obj)}{σ:qr}{H:Hp}{s:au}{p:ax}{xs:List V}(I:Inv X pins σ H s)(h:H p=some (.lst xs)):
  ∃(its:List ar) (n:Nat),Vals xs its/\s.heap.get? p=some {cls:= .type "list",data:= .seq its.toArray n}/\xs.length<=sizeLine:=by
 obtain⟨z,its,n,r,e⟩:=I.hok p _ h;exact⟨its,n,r,e,z⟩
def Inv.Zu{p:ax}{ys:List V}{its':List ar}{c:Nat}{f:Obj->Obj}(I:Inv X pins σ H s)(h:H p=some (.lst xs))
  (ho:s.heap.get? p=some {cls:= .type "list",data:= .seq its.toArray n}) (hf:f {cls:= .type "list",data:= .seq its.toArray n}={cls:= .type "list",data:= .seq its'.toArray c}) (r:Vals ys its') (hz:ys.length<=sizeLine) (t:Nat):
  Inv X pins σ (upd H p (.lst ys)) {s with heap:=s.heap.update p f,toks:=t}:=by
 have e:(s.heap.update p f).get? p=some {cls:= .type "list",data:= .seq its'.toArray c}:=by
  rw[zD f ho (by rw[hf]<;>rfl),hf]
 refine I.write (x:=p) (e:=p) (by rw[h];trivial) (.inl rfl) (λb u hb q=>(nq _ _ (cO hb)).trans q) ⟨_,e⟩ ?_;exact⟨hz,its',c,r,e⟩
def v7:V->V->V->Hp->(Hp->Prop)->Prop:=λo i v H Q=>∃p xs k j,o= .ref p/\i= .int k/\H p=some (.lst xs)/\iR xs.length k=some j/\Q (upd H p (.lst (xs.set j v)))
theorem set_list:Fx X v7:=by
 intro pins s σ H o i v ov iv u Q I ro ri rv h;obtain⟨p,xs,k,j,rfl,rfl,hp,hj,q⟩:=h;cases ro;obtain⟨t,rfl⟩:=ri;obtain⟨its,n,r,ho,hz⟩:=I.lst hp;obtain⟨h1,h2,h3,h4⟩:=Mb hj;have hl:=r.length;have hn:=sF
 have b:Inv X pins σ (upd H p (.lst (xs.set j v))) {s with heap:=s.heap.update p (eF (·.setIfInBounds j u))}:=
  I.Zu hp ho (Lq its n j u) (r.set rv j) (by rw[jx];exact hz) s.toks
 by_cases h0:0<=k
 .have hk:k.toNat=j:=by
   rw[r4 h0 h4] at h1;exact iI h1
  exact PySem.W.ki_setAt ho h0 ∅ (by rw[eU,<-hl];exact h4) (by rw[hk];exact⟨_,b,q⟩)
 .have hk:(k+(its.toArray.size:Int)).toNat=j:=by
   rw[seqIndex_neg ∅ h3] at h1;rw[eU,<-hl];exact iI h1
  exact PySem.W.ki_setBack ho ∅ (by rw[eU,<-hl];exact h3) ∅ (by rw[hk];exact⟨_,b,q⟩)
theorem agC(lo hi:Option Int)(n:Nat):(hX lo hi none n).1=((HT.fk n 0 lo:Nat):Int)/\(hX lo hi none n).2.1=((HT.fk n n hi:Nat):Int)/\(hX lo hi none n).2.2=1:=by
  refine⟨?_,?_,rfl⟩
  · cases lo with
    |none=>simp[hX,HT.fk]
    | some i =>
      simp only[hX,HT.fk,qk,show(1:Int)>0 by decide,if_true];by_cases h:i<0;· simp only[h,if_true]<;>omega
      · simp only[h,if_false]<;>omega
  · cases hi with
    |none=>simp[hX,HT.fk]
    | some i =>
      simp only[hX,HT.fk,qk,show(1:Int)>0 by decide,if_true];by_cases h:i<0;· simp only[h,if_true]<;>omega
      · simp only[h,if_false]<;>omega
def Zs(its:List ar)(lo hi:Option Int):slicePick its.toArray lo hi none=((its.drop (HT.fk its.length 0 lo)).take (HT.fk its.length its.length hi-HT.fk its.length 0 lo)).toArray:=by
 obtain⟨h1,h2,h3⟩:=agC lo hi its.toArray.size;unfold slicePick;rw[h1,h2,h3];simp only[sliceRange_one,pick_run,eU]<;>rfl
def jZ(K:PySem.W.Frag):V->Option Int->Option Int->Hp->VK->Prop:=λx lo hi H Q=>∃a xs,x= .ref a/\bw K H a xs/\∀p,H p=none->Q (.ref p) (upd H p (.lst (mR xs lo hi)))
theorem nk:FO X (jZ X.K):=by
 intro pins s σ H x v vl vu lo hi sl Q I rx hs pl pu h;obtain⟨a,xs,rfl,hx,q⟩:=h;cases rx;obtain⟨its,r,ht,hz⟩:=I.list hx;have hlen:=r.length;refine⟨"list",_,ou.lookup,ht.isList.typeIs,?_⟩;refine wpAny_getItem_list_slice ht.isList hs pl pu .none (by simp) ?_ (by rw[eU]<;>omega);rw[Zs,<-hlen];refine⟨.ref s.heap.objs.size,_,I.laid (t':=s.toks) (o:= .lst (mR xs lo hi)) (λb ob q=>cJ _ q) (aH _) ?_,rfl,q _ (I.hok.fresh (aH _))⟩;exact⟨eu (Zv xs lo hi) hz,_,0,(r.drop (HT.fk xs.length 0 lo)).take (HT.fk xs.length xs.length hi-HT.fk xs.length 0 lo),gf _ rfl⟩
noncomputable def o6:V->Bool
 | .aL=>true
 | .bl _=>true
 | .int _=>true
 | .str _=>true
 |_=>false
noncomputable def oB:V->V->Bool
 | .aL, .aL=>true
 | .bl a, .bl b=>a==b
 | .bl a, .int b=>(if a then 1 else 0)==b
 | .int a, .bl b=>a==(if b then 1 else 0)
 | .int a, .int b=>a==b
 | .str a, .str b=>a==b
 |_,_=>false
def Ud{y x:V}{v:ar}(m:RelV y u)(d:RelV x v)(e:o6 y=true)(c:o6 x=true):Ed A s u v (oB y x):=by
  cases y with
  | aL =>
    cases m;cases x with
    |aL=>cases d;exact Fk _
    |bl b=>cases d;exact yB b
    |int b=>obtain⟨t,rfl⟩:=d;exact zt b t
    |str b=>obtain⟨t,rfl⟩:=d;exact zJ b t
    |_=>exact absurd (show false=true from c) cC
  | bl a =>
    cases m;cases x with
    |aL=>cases d;exact yE a
    |bl b=>cases d;exact yV a b
    |int b=>obtain⟨t,rfl⟩:=d;exact z3 a b t
    |str b=>obtain⟨t,rfl⟩:=d;exact z7 a b t
    |_=>exact absurd (show false=true from c) cC
  | int a =>
    obtain⟨t',rfl⟩:=m;cases x with
    |aL=>cases d;exact Ah a t'
    |bl b=>cases d;exact Ap a t' b
    |int b=>obtain⟨t,rfl⟩:=d;exact Dh a t' b t
    |str b=>obtain⟨t,rfl⟩:=d;exact m4 a t' b t
    |_=>exact absurd (show false=true from c) cC
  | str a =>
    obtain⟨t',rfl⟩:=m;cases x with
    |aL=>cases d;exact Az a t'
    |bl b=>cases d;exact A3 a t' b
    |int b=>obtain⟨t,rfl⟩:=d;exact m6 a t' b t
    |str b=>obtain⟨t,rfl⟩:=d;exact Dx a t' b t
    |_=>exact absurd (show false=true from c) cC
  |_=>exact absurd (show false=true from e) cC
noncomputable def jB(x:V)(u:ar):Bool:=match u with
 | .none=>oB .aL x
 | .bool b=>oB (.bl b) x
 | .int i _=>oB (.int i) x
 | .str z _=>oB (.str z) x
 |_=>false
def LN{x y:V}(r:RelV y u)(f:o6 y=true):jB x u=oB y x:=by
 cases y with
 |aL=>cases r;rfl
 |bl b=>cases r;rfl
 |int i=>obtain⟨t,rfl⟩:=r;rfl
 |str z=>obtain⟨t,rfl⟩:=r;rfl
 |_=>exact absurd (show false=true from f) cC
theorem vU{x:V}:∀{xs:List V} {us:List ar},Vals xs us->xs.all o6=true->us.any (jB x)=xs.any λy=>oB y x
  |_,_, .nil,_=>rfl
  | y :: xs, u :: us, .cons r t, f => by
    rw[oJ,fQ] at f;rw[sD,sD,LN r f.1,vU t f.2]
theorem wI{A:c5}{s:au}{x:V}{v:ar}(d:RelV x v)(c:o6 x=true):∀{xs:List V} {us:List ar},Vals xs us->xs.all o6=true->∀u∈us,Ed A s u v (jB x u)
  |_,_, .nil,_=>λu hu=>by cases hu
  | y :: xs, u :: us, .cons r t, f => λF hu => by
    rw[oJ,fQ] at f;rcases aK.mp hu with rfl|hu
    · rw[LN r f.1];exact Ud r d f.1 c
    · exact wI d c t f.2 F hu
noncomputable def jJ(x:V)(xs:List V):Bool:=xs.any λy=>oB y x
def oS(K:PySem.W.Frag)(neg:Bool):R2:=λx y H Q=>∃p xs,y= .ref p/\(bw K H p xs\/fE K H p xs)/\o6 x=true/\xs.all o6=true/\Q (.bl (if neg then !jJ x xs else jJ x xs)) H
def Xs:c9 X (du .In) (oS X.K false):=by
 intro pins s σ H x y v u Q I rx ry h;obtain⟨p,xs,rfl,hq,c,fs,q⟩:=h;cases ry;rcases hq with hq|hq
 .obtain⟨its,r,pl,hz⟩:=I.list hq;refine SeqAt.in_listAt (jB x) pl.isList (λw hw=>wI rx c r fs w (by simpa using hw)) ⟨.bl _,H,I,rfl,?_⟩;rw[show its.toArray.any (jB x)=its.any (jB x) by simp,vU r fs];exact q
 .obtain⟨its,r,pl,hz⟩:=I.tuple hq;refine SeqAt.in_tupleAt (jB x) pl (λw hw=>wI rx c r fs w (by simpa using hw)) ⟨.bl _,H,I,rfl,?_⟩;rw[show its.toArray.any (jB x)=its.any (jB x) by simp,vU r fs];exact q
def UZ:c9 X (du .NotIn) (oS X.K true):=by
 intro pins s σ H x y v u Q I rx ry h;obtain⟨p,xs,rfl,hq,c,fs,q⟩:=h;cases ry;rcases hq with hq|hq
 .obtain⟨its,r,pl,hz⟩:=I.list hq;refine SeqAt.notIn_listAt (jB x) pl.isList (λw hw=>wI rx c r fs w (by simpa using hw)) ⟨.bl _,H,I,rfl,?_⟩;rw[show its.toArray.any (jB x)=its.any (jB x) by simp,vU r fs];exact q
 .obtain⟨its,r,pl,hz⟩:=I.tuple hq;refine SeqAt.notIn_tupleAt (jB x) pl (λw hw=>wI rx c r fs w (by simpa using hw)) ⟨.bl _,H,I,rfl,?_⟩;rw[show its.toArray.any (jB x)=its.any (jB x) by simp,vU r fs];exact q
theorem Lw:fT X (.builtin "len") (λxs H Q=>∃p ys,xs=[.ref p]/\(bw X.K H p ys\/fE X.K H p ys)/\Q (.int ys.length) H):=by
 intro pins s σ H xs us Q I r h;obtain⟨p,ys,rfl,hq,q⟩:=h;obtain⟨u,rfl,d⟩:=vals1 r;cases d;have hn:=sF;rcases hq with hq|hq
 .obtain⟨its,r',pl,hz⟩:=I.list hq;have hlen:=r'.length;exact Calls.call_len_list pl.isList (by simp only[eU]<;>omega) ⟨.int ys.length,H,I.tok _,⟨s.toks+1,by rw[eU,hlen]⟩,q⟩
 .obtain⟨its,r',pl,hz⟩:=I.tuple hq;have hlen:=r'.length;exact len_tuple pl (by simp only[eU]<;>omega) ⟨.int ys.length,H,I.tok _,⟨s.toks+1,by rw[eU,hlen]⟩,q⟩
theorem Y3:fT X (.builtin "len") (λxs H Q=>∃z,xs=[.str z]/\z.length<=sizeLine/\Q (.int z.length) H):=by
 intro pins s σ H xs us Q I r h;obtain⟨z,rfl,hz,q⟩:=h;obtain⟨u,rfl,t,rfl⟩:=vals1 r;have hn:=sF;exact len_str ∅ ⟨.int z.length,H,I.tok _,⟨_,rfl⟩,q⟩
theorem OU:fT X (.type "list") (λxs H Q=>∃p ys,xs=[.ref p]/\(bw X.K H p ys\/fE X.K H p ys)/\∀l,H l=none->Q (.ref l) (upd H l (.lst ys))):=by
 intro pins s σ H xs us Q I r h;obtain⟨p,ys,rfl,hq,q⟩:=h;obtain⟨u,rfl,d⟩:=vals1 r;cases d
 have fin:∀(its:List ar),Vals ys its->ys.length<=sizeLine->∀(h':e6) (c':Nat),(∀b o',s.heap.get? b=some o'->h'.get? b=some o')->
   h'.get? s.heap.objs.size=some {cls:= .type "list",dict:=none,data:= .seq its.toArray c',slots:= #[]}->EP X pins σ Q (.ref s.heap.objs.size) {s with heap:=h'}:=λits r' hz h' c' kp e=>
  ⟨.ref s.heap.objs.size,_,I.laid (t':=s.toks) kp (aH _) (show eE X.prog X.w _ h' _ (.lst ys) from⟨hz,its,c',r',e⟩),rfl,q _ (I.hok.fresh (aH _))⟩
 rcases hq with hq|hq
 .obtain⟨its,r',pl,hz⟩:=I.list hq;have hlen:=r'.length;obtain⟨o,ho,hc,n,hd⟩:=pl.isList;exact wt p (.inl rfl) ho hc hd (λh' c' kp e=>fin its r' hz h' c' kp e) (by simp only[eU]<;>omega)
 .obtain⟨its,r',pl,hz⟩:=I.tuple hq;have hlen:=r'.length;obtain⟨o,ho,hc,n,hd⟩:=pl;exact wt p (.inr rfl) ho hc hd (λh' c' kp e=>fin its r' hz h' c' kp e) (by simp only[eU]<;>omega)
def sW(K:PySem.W.Frag)(T:String)(x:V)(H:Hp):Prop:=match x with
 | .str _=>T="str"
 | .int _=>T="int"
 | .ref p => (T = "list" /\ ∃ xs, bw K H p xs) \/ (T = "tuple" /\ ∃ o, K.lookup p = some o /\ o.cls = .type "tuple" /\ o.dict = none) \/
   (T="dict" /\((∃kvs,H p=some (.dK kvs))\/(∃kvs,H p=some (.dT kvs))\/∃o kvs,H p=some (.iJ o (.dK kvs))))\/(T="set" /\∃S n,H p=some (.set S n))
 |_=>False
def Sd{x:V}{v:ar}(I:Inv X pins σ H s)(r:RelV x v)(ty:sW X.K T x H):
    s.TypeIs v T/\∀a,v= .ref a->∃ob,s.heap.get? a=some ob/\ob.dict=none:=by
  cases x with
  | str z =>
    obtain⟨t,rfl⟩:=r;cases (show T="str" from ty);exact⟨mr s z t,λ_ e=>nomatch e⟩
  | int i =>
    obtain⟨t,rfl⟩:=r;cases (show T="int" from ty);exact⟨typeIs_int s i t,λ_ e=>nomatch e⟩
  | ref p =>
    cases r;rcases ty with ⟨rfl,xs,hq⟩|⟨rfl,o,hk,hc,hd⟩|⟨rfl,hk⟩|⟨rfl,S,n,hk⟩
    · obtain⟨its,_,pl,_⟩:=I.list hq
      refine⟨pl.isList.typeIs,λa e=>?_⟩;cases e;obtain⟨o,n,e,c,hd,_⟩:=pl;exact⟨o,e,hd⟩
    · refine⟨⟨o,I.fK p o hk,hc⟩,λa e=>?_⟩
      cases e;exact⟨o,I.fK _ o hk,hd⟩
    · have z:∃o,s.heap.get? p=some o/\o.ExactDict:=by
        rcases hk with ⟨kvs,hk⟩|⟨kvs,hk⟩|⟨ob,kvs,hk⟩
        · obtain⟨_,_,_,_,o,_,_,e,ex,_⟩:=I.hok p _ hk
          exact⟨o,e,ex⟩
        · obtain⟨_,_,_,_,o,_,_,e,ex,_⟩:=I.hok p _ hk
          exact⟨o,e,ex⟩
        · obtain⟨_,_,_,_,_,o,_,_,e,ex,_⟩:=I.hok p _ hk
          exact⟨o,e,ex⟩
      obtain⟨o,e,ex⟩:=z;refine⟨⟨o,e,ex.1⟩,λa e2=>?_⟩;cases e2;exact⟨o,e,ex.2.1⟩
    · obtain⟨o,_,_,_,e,ex,_⟩:=I.hok p _ hk
      refine⟨⟨o,e,ex.1⟩,λa e2=>?_⟩;cases e2;exact⟨o,e,ex.2.1⟩
  |_=>exact eo ty
def SY(K:PySem.W.Frag)(T:String)(r:V->List V->Hp->VK->Prop)(to:TE):TE:=λσ H Q=>to σ H λx H1=>sW K T x H1/\r x [] H1 Q
def oq(K:PySem.W.Frag)(T:String)(r:V->List V->Hp->VK->Prop)(to:TE)(t:TA):TE:=λσ H Q=>to σ H λx H1=>sW K T x H1/\t σ H1 λxs H2=>r x xs H2 Q
variable{o e:eM}{es:List eM}{to:TE}{t:TA}{name:Str}{apos cpos:Pos}{T id:String}{r:V->List V->Hp->VK->Prop}
def Sq(i:PlainAttrs T)(slot:Slot T name id)(f:typeOf (.builtin id)=pure (.type "method_descriptor"))(hm:qI X id r)(ho:PE X o to)
  (b:lj o name X.env (eval o X.env)=eval o X.env:=by rfl) (a:(apos.endLine==cpos.line)=true:=by rfl):PE X (.Call (.Attribute o name apos) [] [] cpos) (SY X.K T r to):=by
 intro pins s σ H Q I h;refine wpAny_Call_method0_late b a (aQ (ho pins s σ H _ I h) λv s1 ⟨x,H1,I1,C,ty,J⟩=>?_);obtain⟨h1,h2⟩:=Sd I1 C ty;exact⟨T,id,i,slot,f,h1,h2,mc rfl (PySem.evalArgs_none (hm pins s1 σ H1 x [] v [] Q I1 C .nil J))⟩
def ic(i:PlainAttrs T)(slot:Slot T name id)(f:typeOf (.builtin id)=pure (.type "method_descriptor"))(hm:qI X id r)(ho:PE X o to)(ha:PA X (e::es) t)
  (b:lj o name X.env (eval o X.env)=eval o X.env:=by rfl)
  (d : ((backTo cpos (starEach (e :: es) X.env)).all (λx => !x.1) && (backToKw cpos (keywordEach [] X.env)).all (λx => x.1.isSome)
   && decide ((e::es).length+([]:List Keyword).length+(if([]:List Keyword).isEmpty then 0 else 1)<30))=true:=by rfl)
  (a:(apos.endLine==cpos.line)=true:=by rfl) (hs:c6 (e::es) X.env=(false,eval e X.env)::c6 es X.env:=by rfl) (c:(lS cpos (c6 es X.env)).any (·.1)=false:=by rfl):
  PE X (.Call (.Attribute o name apos) (e::es) [] cpos) (oq X.K T r to t):=by
 intro pins s σ H Q I h;refine wpAny_Call_method_late b d a rfl (aQ (ho pins s σ H _ I h) λv s1 ⟨x,H1,I1,C,ty,J⟩=>?_);obtain⟨h1,h2⟩:=Sd I1 C ty;refine⟨T,id,i,slot,f,h1,h2,?_⟩;have hA:=ha cpos pins s1 σ H1 _ I1 J;rw[hs] at hA⊢;refine mc (by show(false||(lS cpos (c6 es X.env)).any (·.1))=false;rw[c]<;>rfl) (Calls.evalArgs_plain ?_);exact aQ hA λus s2 ⟨vs,H2,I2,Y,q2⟩=>hm pins s2 σ H2 x vs v us Q I2 C Y q2
/-xs.append(e),list.index on a module's tuple .. are qI facts of 06m-/
end
def ML(X:Cx)(id:String)(r:V->List V->Hp->VK->Prop):Prop:=
 ∀(pins:List (ax×Obj)) (s:au) (σ:qr) (H:Hp) (x:V) (xs:List V) (v:ar) (us:List ar) (Q:VK),Inv X pins σ H s->RelV x v->Vals xs us->r x xs H Q->
  wpAny (bo X.prog X.w) X.A (call (.builtin id) (v::us)) (EP X pins σ Q) X.xe s
def Vals.one{x:V}(h:Vals [x] us):∃u,us=[u]/\RelV x u:=by
 cases h with
 |cons r t=>cases t;exact⟨_,rfl,r⟩
def Vals.two{x y:V}(h:Vals [x,y] us):∃u v,us=[u,v]/\RelV x u/\RelV y v:=by
  cases h with
  | cons r t =>
    obtain⟨v,e,q⟩:=Vals.one t;exact⟨_,v,by rw[e],r,q⟩
theorem Vals.dropLast{xs:List V}{us:List ar}(h:Vals xs us):Vals xs.dropLast us.dropLast:=by
  induction h with
  |nil=>exact .nil
  | cons r t ih =>
    cases t with
    |nil=>exact .nil
    |cons q t'=>exact .cons r ih
section
variable{X:Cx}{pins:List (ax×Obj)}{σ:qr}{H:Hp}{s:au}{l b:ax}{xs ys zs:List V}
def Inv.Oj{its':List ar}{f:Array ar->Array ar}(I:Inv X pins σ H s)(p:H l=some (.lst xs))
  (e:s.heap.get? l=some {cls:= .type "list",data:= .seq its.toArray n}) (hf:f its.toArray=its'.toArray) (hv:Vals ys its') (hz:ys.length<=sizeLine):
  Inv X pins σ (upd H l (.lst ys)) {s with heap:=s.heap.update l (eF f),toks:=t'}:=by
 have q:=PySem.IsL.update e f;rw[hf] at q;refine I.write (x:=l) (e:=l) (by rw[p];exact trivial) (.inl rfl) (λA u hb hu=>(nq s.heap (eF f) (cO hb)).trans hu) ⟨_,q⟩ ?_;exact⟨hz,its',_,hv,q⟩
def Inv.L5(I:Inv X pins σ H s)(hv:Vals ys its)(hz:ys.length<=sizeLine):
  Inv X pins σ (upd H s.heap.objs.size (.lst ys)) {s with heap:=s.heap.push {cls:= .type "list",data:= .seq its.toArray},toks:=t'}:=
 I.laid (λ_ _ q=>cJ _ q) (aH _) ⟨hz,its,0,hv,gf _ rfl⟩
theorem Inv.fresh(I:Inv X pins σ H s):H s.heap.objs.size=none:=I.hok.fresh (aH _)
def Inv.rj(I:Inv X pins σ H s)(p:H l=some (.lst xs)):xs.length<=sizeLine/\∃(its:List ar) (n:Nat),Vals xs its/\xs.length=its.length/\s.heap.get? l=some {cls:= .type "list",data:= .seq its.toArray n}:=by
 obtain⟨z,its,n,r,e⟩:=I.hok l _ p;exact⟨z,its,n,r,r.length,e⟩
theorem Gc(h:n<=sizeLine):g0 n=false:=by
 unfold g0;exact decide_eq_false ∅
end
section
variable{X:Cx}
def Nn:V->List V->Hp->VK->Prop:=λx vs H Q=>∃l xs y,x= .ref l/\vs=[y]/\H l=some (.lst xs)/\xs.length<sizeLine/\Q .aL (upd H l (.lst (xs++[y])))
theorem vJ:ML X "list.append" Nn:=by
 intro pins s σ H x vs v us Q I rx rv h;obtain⟨l,xs,y,rfl,rfl,p,hz,q⟩:=h;cases rx;obtain⟨u,rfl,ru⟩:=rv.one;obtain⟨z,its,n,r,hl,e⟩:=I.rj p;refine mu xh ⟨_,e,rfl⟩ F.entry_list_append (F.args_list_append_2 _ _) (PySem.list_append l its.toArray n u (by rw[eU];omega)) ⟨e,?_⟩;refine⟨.aL,_,I.Oj (its':=its++[u]) p e (by simp) (r.append (.cons ru .nil)) ?_,rfl,q⟩;rw[cH,gQ];omega
def NO:V->List V->Hp->VK->Prop:=λx vs H Q=>∃l b xs zs,x= .ref l/\vs=[.ref b]/\H l=some (.lst xs)/\H b=some (.lst zs)/\xs.length+zs.length<=sizeLine/\Q .aL (upd H l (.lst (xs++zs)))
theorem V5:ML X "list.extend" NO:=by
 intro pins s σ H x vs v us Q I rx rv h;obtain⟨l,b,xs,zs,rfl,rfl,p,O,hz,q⟩:=h;cases rx;obtain⟨u,rfl,ru⟩:=rv.one;cases ru;obtain⟨z,its,n,r,hl,e⟩:=I.rj p;obtain⟨z2,a,n2,Y,k,e2⟩:=I.rj O;have hsz:its.toArray.size+a.toArray.size<=sizeLine:=by rw[eU,eU];omega
 have c:¬(!its.toArray.isEmpty && g0 (its.toArray.size+a.toArray.size))=true:=by
  rw[Gc hsz,Bool.and_false];exact cC
 refine mu F.slot_list_extend ⟨_,e,rfl⟩ F.entry_list_extend (F.args_list_extend_2 _ _)
  (AutoSeq1.list_extend_list_list_0 l its.toArray n b a.toArray n2 c (by rw[eU];omega) ∅) ⟨e,e2,?_⟩
 refine⟨.aL,_,I.Oj (its':=its++a) p e (by simp) (r.append Y) ?_,rfl,q⟩;rw[cH];omega
def Gn:R2:=λx y H Q=>∃l b xs zs,x= .ref l/\y= .ref b/\H l=some (.lst xs)/\H b=some (.lst zs)/\xs.length+zs.length<=sizeLine/\∀p,H p=none->Q (.ref p) (upd H p (.lst (xs++zs)))
theorem oR:c9 X (iC .Add) Gn:=by
 intro pins s σ H x y v u Q I rx ry h;obtain⟨l,b,xs,zs,rfl,rfl,p,O,hz,q⟩:=h;cases rx;cases ry;obtain⟨z,its,n,r,hl,e⟩:=I.rj p;obtain⟨z2,a,n2,Y,k,e2⟩:=I.rj O;refine PySem.P.add_list e e2 ?_ (by rw[eU,eU];omega);have ea:its.toArray++a.toArray=(its++a).toArray:=by simp
 rw[ea];exact⟨.ref _,_,I.L5 (t':=s.toks) (r.append Y) (by rw[cH];omega),rfl,q _ I.fresh⟩
end
end L2
namespace Att
open PySem PySem.W PySem.Calls PyProof.Rows
def G1{P:Params}:∀(ns:List Int) (vs:List ar),WellAll P h vs (ns.map Fm)->eI vs ns:=by
  intro ns;induction ns with
  | nil =>
    intro vs w;rw[jU] at w;cases w;exact .nil
  | cons n ns ih =>
    intro vs w;rw[aZ] at w;cases w with
    | cons a b =>
      cases a;exact .cons _ _ (ih _ b)
theorem abI{l:OpenLaw}(hn:l.most=some n){P:Params}{h:e6}{args:List WData}{j:List ar}
    (b:l.row.toRowW.claim.pre args=true) (hwl:WellAll P h j args):
    ∃a vs ns,j=[dC a]/\args=[WData.list (ns.map Fm)]/\h.get? a=some {cls:= .type "list",data:= .seq vs.toArray}/\eI vs ns/\ns.length<=n:=by
  have c:WShape.hasAll [] args [.list .int]=true:=(pre_splitW b).1;have hc:l.pre.holds [] {args:=args}=true:=(pre_splitW b).2;obtain⟨d,r,rfl,h1,h2⟩:=hasAllW_cons c;obtain rfl:=hasAllW_nil h2;obtain⟨xs,rfl,h3⟩:=hasW_list h1;obtain⟨ns,rfl⟩:=items_int h3;have hlen:ns.length<=n:=by
    unfold OpenLaw.pre at hc;have h4:(WTm.not (.lt (.lit (.int (n:Int))) (.len (.arg 0)))).holds [] {args:=[.list (ns.map .int)]}=true:=by
      have h4:=(holds_andW hc).1;rw[hn] at h4;exact h4
    have h5:=condW_of h4 (w_not (w_lt w_lit (w_len_list (w_arg rfl))));rw[ak] at h5;refine Ez λq=>?_;have B:(n:Int)<((ns.length:Nat):Int):=∅
    first
      |(rw[decide_eq_true B] at h5;exact absurd h5 ⋯)
      |(simp at h5;omega)
  cases hwl with
  | cons S L =>
    cases L;cases S with
    |list ho m=>exact⟨_,_,ns,rfl,rfl,ho,G1 ns _ m,hlen⟩
def aeU(l:OpenLaw)(args:List WData):l.row.toRowW.claim.post args (.bool true) args=true:=
 postW_of (r:=l.row.toRowW) (X:=(true==true))
  (show Ee [] (.bool true) .bool=true by first|rfl|decide|simp[Ee,WShape.arms,WShape.armsAll])
  (show(WTm.eq .res (.lit (.bool true))).value [] {args:=args,res:=some (.bool true),after:=args}=some (.bool (true==true)) from w_eq_bool (w_res rfl) w_lit) rfl
def Gq{l:OpenLaw}{q:cj}{c:List Str}{A:dc->e6->Prop}{d:DefRec}
  (hn:l.most=some n) (t:d.params.defaults=[])
  (call : ∀ (w : World) (s₀ s₁ : Shared) (mg mb : Str -> Option Value) (i : Addr) (o : Obj) (pm m doc : Value) (a : Addr) (vs : List Value) (ns : List Int),
   Ground q c [] B w s₀ mg mb s₁.heap->A w s₁.heap->
   s₁.heap.get? i=some o->o.data= .func (docDef d.name d.params d.body d.scope pm m doc)->s₁.heap.CodeRec m d.name->mg d.name=some (.ref i)->
   s₁.heap.get? a=some {cls:= .type "list",data:= .seq vs.toArray}->eI vs ns->ns.length<=n->s₁.gens= #[]->
   codeAny (bo l.prog w) ox (.call (.ref i) ⟨[.ref a],[]⟩) (λr s'=>r= .ok (.ret (.bool true))/\OldK s₁.heap s'.heap/\s'.os=s₁.os/\mf s'.gens) s₁):
  WalkO q c B A l.row.toRowW d [] (λf vs=>PySem.call f vs):=by
 intro w s₀ s₁ mg mb G Y i o pm m doc dV kV ho hd hcd hD hmg hg args vals as hpre hlay hrd hwl hlo;obtain rfl:dV= .none:=Dflts.none hD t;obtain rfl:kV= .none:=Dflts.noKw hD;obtain⟨a,vs,ns,rfl,rfl,y,p,hlen⟩:=abI hn hpre hwl;refine enter_call (ik (call w s₀ s₁ mg mb i o pm m doc a vs ns G Y ho (fd_plain hd) hcd hmg y p hlen hg) λr s' hq=>?_);obtain⟨rfl,h2,h3,h4⟩:=hq;exact⟨.inl ⟨.bool true, .bool true,[],rfl,λ_=>rfl, .bool true,aeU l _,λ_=>⟨Ep,λ_ hm=>(nomatch hm)⟩⟩,h2,h3,h4⟩
section
variable{prog:cj}{w:dc}{A:c5}{E:ar->au->Prop}{s:au}{K:Frag}
end
end Att
namespace L2
theorem Tq:∀{vs:List ar} {ns:List Int},eI vs ns->Vals (ns.map V.int) vs
 |_,_, .nil=> .nil
 |_,_, .cons n t h=> .cons ⟨t,rfl⟩ (Tq h)
def HK(H:Hp):Prop:=∀b,H b=none\/∃o xs,H b=some (.iJ o (.lst xs))
def Ha{P:cj}{K:PySem.W.Frag}{mb:Str->Option ar}{CX:l9}{k:Nat}{i:ax}{s₁:au}{vs:List ar}
    (KX:K.In s₁.heap) (j:s₁.heap.Ns cc mg) (hb:s₁.heap.Ns vw mb) (q9:∀x:Str,x≠"__name__" ->mb x=ij x) (f:s₁.heap.NoLimit) (hg:s₁.gens= #[])
    (ha:s₁.heap.get? a=some {cls:= .type "list",data:= .seq vs.toArray}) (hi:eI vs ns) (hl:ns.length<=sizeLine) (hr:eV k ox)
    (F:∀base:e6,K.In base->base.Ns cc mg->aU P w K mg base CX k i fd [x] sp) (c:∀(s:au) (u:ar),rT s fd ⟨[u],[]⟩ [(x,u)])
    (C:∀H:Hp,HK H->bw K H a (ns.map V.int)->sp [.ref a] H (λv _=>v= .bl true) λ_ _ _=>False)
    (D:∀H e s',CX [] H s₁ (λ_ _ _=>False) e s'->False):
    codeAny (bo P w) ox (.call (.ref i) ⟨[.ref a],[]⟩) (λr s'=>r= .ok (.ret (.bool true))/\OldK s₁.heap s'.heap/\s'.os=s₁.os/\mf s'.gens) s₁:=by
  have rv:=Tq hi;have ad8:=hi.length
  have core:∀H:Hp,HK H->bw K H a (ns.map V.int)->ez P w H s₁.heap->(∀b,H b≠none->b=a)->(H a≠none->K.lookup a=none)->
      codeAny (bo P w) ox (.call (.ref i) ⟨[.ref a],[]⟩) (λr s'=>r= .ok (.ret (.bool true))/\OldK s₁.heap s'.heap/\s'.os=s₁.os/\mf s'.gens) s₁:=by
    intro H hO hS hok hA hK;have y:∀{b:ax} {o:Obj},s₁.heap.get? b=some o->H b=none->(nR s₁.heap H).get? b=some o:=λe n=>agk e n;have g:∀{b:ax} {o:Obj} {es:Array DictEntry} {ep:Nat},s₁.heap.get? b=some o->o.data= .dict es ep->H b=none:=λ{b o es ep} e d=>by
      cases q:H b with
      |none=>rfl
      | some u =>
        have e':b=a:=hA b (by rw[q];simp);subst e';rw[ha] at e;cases e
        have d':Data.seq vs.toArray _=Data.dict es ep:=d;cases d'
    have l:∀{b:ax} {m:Str->Option ar},s₁.heap.Ns b m->(nR s₁.heap H).Ns b m:=λ{b m} ⟨o,es,ep,e,d,r⟩=>⟨o,es,ep,y e (g e d),d,r⟩
    have t:K.In (nR s₁.heap H):=λb o e=>y (KX b o e) (by
      cases q:H b with
      |none=>rfl
      | some u =>
        have e':b=a:=hA b (by rw[q];simp);subst e';rw[hK (by rw[q];simp)] at e;cases e)
    have A:Mod K mg (nR s₁.heap H):=⟨t,l j,⟨mb,l hb,q9⟩,let ⟨E,h1,h2⟩:=f;⟨E,l h1,h2⟩⟩;have O:qL P w K mg (nR s₁.heap H) ox [] s₁ H:=⟨rfl,A,λb o e=>Lo e,jf (U9 _ _),trivial,λb hb=>absurd (show b∈([]:List ax) from hb) (by simp),hok, .of_eq hg⟩;refine ik ((F _ t (l j)).run ox [] s₁ H ⟨[.ref a],[]⟩ [.ref a] [.ref a] _ _ hr O (c s₁ (.ref a)) (.cons rfl .nil) (C H hO hS)) λr s' h=>?_;cases r with
    |error e=>exact(D H e s' h).elim
    | ok fl =>
      cases fl with
      |next=>exact eo h
      |brk=>exact eo h
      |cont=>exact eo h
      | ret u =>
        obtain⟨v,H',os,bare,un,p,r',q⟩:=h;have B:v= .bl true:=q;subst B;obtain rfl:u=oj true:=r';refine⟨rfl,OldK.of_keep λb o e=>?_,os,bare⟩;cases q:H b with
        |none=>exact un.keep b o e q (by intro z;exact absurd (show b∈([]:List ax) from z) (by simp)) (by simp)
        | some u =>
          rcases hO b with z|⟨ob,xs,z⟩
          · rw[q] at z;cases z
          · have z2:=un.om b ob _ z
            obtain⟨e1,_⟩:=hok b _ z;obtain⟨e2,_⟩:=p b _ z2;rw[e] at e1;cases e1
            exact e2
  cases hk:K.lookup a with
  | some o =>
    have e:=KX a o hk;rw[ha] at e;cases e;refine core (λ_=>none) (λ_=> .inl rfl) (.inr ⟨_,vs.toArray,_,hk,rfl,rfl,rfl,by rw[eU,ad8];exact hl,by simpa using rv⟩) (λb u z=>by have z':(none:Option HO)=some u:=z;cases z') (λb z=>absurd rfl z) λz=>absurd rfl z
  | none =>
    refine core (λb=>if b=a then some (.iJ {cls:= .type "list",data:= .seq vs.toArray} (.lst (ns.map V.int))) else none) (λb=>?_) (.inl (.inr ⟨{cls:= .type "list",data:= .seq vs.toArray},if_pos rfl⟩)) (λb u z=>?_) (λb z=>?_) λ_=>hk
    · by_cases hb:b=a
      · exact .inr ⟨_,_,if_pos hb⟩
      · exact .inl (if_neg hb)
    · by_cases hb:b=a
      · have z':=(if_pos hb).symm.trans z
        cases z';subst hb;exact⟨ha,by rw[ak];exact hl,vs,_,rv,ha⟩
      · have z':=(if_neg hb).symm.trans z
        cases z'
    · by_cases hb:b=a
      · exact hb
      · exact absurd (if_neg hb) z
def SU{l:PySem.W.OpenLaw}{k:Nat}{q:cj}{c:List Str}{A:dc->e6->Prop}{d:DefRec}{K:Params->PySem.W.Frag}{CX:dc->l9}{sp:dc->Sp}
  (hn:l.most=some n) (hn2:n<=sizeLine) (t:d.params.defaults=[]) (hr:eV k ox)
  (S:∀(w:dc) (h:e6),A w h->(K w.params).In h)
  (F : ∀ (w : World) (mg : Str -> Option Value) (i : Addr) (h : Heap), (K w.params).In h -> h.Ns mainGlobals mg -> mg d.name = some (.ref i) ->
   ∃fd:gN,(∀(s:au) (u:ar),rT s fd ⟨[u],[]⟩ [(x,u)])/\
    ∀base:e6,(K w.params).In base->base.Ns cc mg->aU l.prog w (K w.params) mg base (CX w) k i fd [x] (sp w))
  (C:∀(w:dc) (H:Hp) (a:ax) (ns:List Int),ns.length<=n->HK H->bw (K w.params) H a (ns.map V.int)->sp w [.ref a] H (λv _=>v= .bl true) λ_ _ _=>False)
  (D:∀(w:dc) (H:Hp) (s:au) (e:ar) (s':au),CX w [] H s (λ_ _ _=>False) e s'->False):
  PySem.W.WalkO q c B A l.row.toRowW d [] (λf vs=>PySem.call f vs):=by
 refine Att.Gq hn t λw s₀ s₁ mg mb i o pm m doc a vs ns G Y ho hd j r y p hlen hg=>?_;have KX:=S w _ Y;obtain⟨fd,hb,I⟩:=F w mg i _ KX G.T.g r;exact Ha KX G.T.g G.T.b G.T.builtins G.T.nolimit hg y p (eu hlen hn2) hr I hb (λH hO M=>C w H a ns hlen hO M) λH e s'=>D w H s₁ e s'
end L2
/-THE LAST THEOREM (shape;LID,My.*are yours):
   My.Adr:a structure of the addresses that your layer names (classes,functions);My.Txt K t:a structure (Prop) of the equations over K;
   My.txt_mk:{K} {implicit addresses ..} (e1:nsIn K cc "law"=some (some (.ref f))) (e2:K.lookup f=some ⟨oc,od, .func (fnOf "law" "law" params body scope dV kV doc pm an cdv ct),sl⟩) (e3:codeIn K cdv "law"=true) .. :∃t,My.Txt K t
(the tactic k_is has no namespace:write k_is)-/
namespace L2
noncomputable def inClass(s:fb)(j:Nat):fb:=match s with
 | .ClassDef _ _ _ a _ _ _ _ _ _ _=>a.getD j (.Pass ⟨0,0,0,0⟩)
 |_=> .Pass ⟨0,0,0,0⟩
noncomputable def lT(s:fb):Arguments:=match s with
 | .FunctionDef _ a _ _ _ _ _ _ _ _=>a
 |_=>{posonlyargs:=[],args:=[],vararg:=none,kwonlyargs:=[],kw_defaults:=[],kwarg:=none,defaults:=[]}
noncomputable def k7(s:fb):List fb:=match s with
 | .FunctionDef _ _ b _ _ _ _ _ _ _=>b
 |_=>[]
noncomputable def aE(s:fb):kS:=match s with
 | .FunctionDef _ _ _ _ _ _ sc _ _ _=>sc
 |_=>{kind:= .function,names:=[],isGenerator:=false,isCoroutine:=false}
abbrev bf:l9:=λ_ _ _ _ _ _=>False
abbrev E0:XK:=λ_ _ _=>False
def z5:Passes bf X E0:=λ_ _ _ _ _ _ _ h=>h.elim
structure bq(K:PySem.W.Frag)(x qual:Str)(st:fb)(f:ax)(fd:gN):Prop where
 ex:∃(oc:ar) (od:Option ax) (kV doc pm:ar) (an:Option ax) (cdv ct:ar) (osl:Array (Option ar)),
  fd=PySem.W.fnOf x qual (lT st) (k7 st) (aE st) .none kV doc pm an cdv ct/\K.lookup f=some ⟨oc,od, .func fd,osl⟩/\PySem.W.codeIn K cdv qual=true
 kp:PySem.W.keepIn K (.ref f)=true
section
variable{P:cj}{w:dc}{K:PySem.W.Frag}{mg:Str->Option ar}{base:e6}
def bq.ok{st:fb}{f:ax}{k:Nat}(F:bq K x qual st f fd)(S:bz N ps (aE st))(len:∀vs H Q E,sp vs H Q E->vs.length=ps.length)
  (c : ∀ (cdv : Value) (A : Around) (outer : List Env) (s : Shared) (H : Hp) (vs : List V) (Q : VK) (E : XK), eV k (A.deeper (envOfC qual (aE st) s.heap.objs.size f cdv)) -> sp vs H Q E ->
   ∃t,kC (sq bf P w K mg base N qual (aE st) f cdv A outer s H E).Cw (k7 st) t/\t {nx:=λ_ H'=>Q .aL H',rt:=Q} (start N vs) H):aU P w K mg base bf (k+1) f fd ps sp:=by
 obtain⟨oc,od,kV,doc,pm,an,cdv,ct,osl,rfl,lk,j⟩:=F.ex;refine VE lk j S len λA outer s H vs Q E hr C=>?_;obtain⟨t,h,q⟩:=c cdv A outer s H vs Q E hr C;exact⟨t,h.Cw,q⟩
def bq.binds{st:fb}{f:ax}(F:bq K x qual st f fd)
  (h:∀(kV doc pm:ar) (an:Option ax) (cdv ct:ar) (us:List ar),us.length=ps.length->bindArgs (PySem.W.fnOf x qual (lT st) (k7 st) (aE st) .none kV doc pm an cdv ct) ⟨us,[]⟩=pure (ps.zip us)):Binds K fd ps []:=by
 obtain⟨oc,od,kV,doc,pm,an,cdv,ct,osl,rfl,lk,j⟩:=F.ex;exact .all (h kV doc pm an cdv ct)
def sM{st:fb}{f:ax}{od an:Option ax}{kV doc pm cdv ct:ar}(l:K.lookup f=some ⟨oc,od, .func (PySem.W.fnOf x qual (lT st) (k7 st) (aE st) .none kV doc pm an cdv ct),osl⟩)
  (c:PySem.W.codeIn K cdv qual=true) (k:PySem.W.keepIn K (.ref f)=true):bq K x qual st f (PySem.W.fnOf x qual (lT st) (k7 st) (aE st) .none kV doc pm an cdv ct):=⟨⟨oc,od,kV,doc,pm,an,cdv,ct,osl,rfl,l,c⟩,k⟩
end
def SQ(h:n<=1000):n<sizeLine:=yT h ⋯
section
variable{X:Cx}
def pv(i:Nat){x:Str}{pos:Pos}(hN:X.N[i]?=some x:=by rfl)(hv:Kd X.env.scope x:=by first|exact cm rfl|exact fx (cm rfl)|exact fx (fx rfl))(hd:(x==("__debug__":Str))=false:=by decide)
  (j:(x==("__classdict__":Str))=false:=by decide):PE X (.Name x pos) (dD i):=afR hN hv hd j
end
def Qg{A B:Prop}(h:B):if false=true then A else B:=by
 rw[if_neg cC];exact h
def Af{A B:Prop}(h:A):if true=true then A else B:=by
 rw[if_pos rfl];exact h
def sZ{c A B:Prop}[Decidable c](h1:c->A)(h2:¬c->B):if c then A else B:=by
 by_cases h:c
 .rw[if_pos h];exact h1 h
 .rw[if_neg h];exact h2 h
def cT(H H':Hp):Prop:=∀b o,H b=some o->H' b=some o
def cT.refl(H:Hp):cT H H:=λ_ _ h=>h
def cT.trans{H2:Hp}(a:cT H H1)(b:cT H1 H2):cT H H2:=λc o h=>b c o (a c o h)
def cT.free(e:cT H H'){l:ax}(h:H' l=jT):H l=jT:=by
  cases q:H l with
  |none=>rfl
  | some o =>
    rw[e l o q] at h;cases h
def cT.seq{K:PySem.W.Frag}(e:cT H H')(h:bw K H a xs):bw K H' a xs:=by
 rcases h with (h|⟨o,h⟩)|h
 .exact .inl (.inl (e _ _ h))
 .exact .inl (.inr ⟨o,e _ _ h⟩)
 .exact .inr h
noncomputable def j4(cells:List (Str×ax)):List (Str×fI)->List (Str×ax)->List (Str×ax)
 |[],acc=>acc
 |(n,k)::r,acc=>j4 cells r (if k==dk then(match cells.lookup n with|some a=>(n,a)::acc|none=>acc) else acc)
theorem Ew{env:Env}{f:Str×fI->List (Str×ax)->Sem (ForInStep (List (Str×ax)))}
    (hf:∀x acc,f x acc=if(x.2==dk)=true then(do let a<-cellOf env x.1;pure (dE ((x.1,a)::acc))) else pure (dE acc)):
    ∀(l:List (Str×fI)) (acc:List (Str×ax)),(∀x∈l,x.2= .free->∃a,env.cells.lookup x.1=some a)->(forIn l acc f:Sem (List (Str×ax)))=pure (j4 env.cells l acc)
  |[],acc,_=>by rw[List.forIn_nil];rfl
  | (n, k) :: r, acc, h => by
    have hr:=λx hx=>h x (cF _ hx);rw[List.forIn_cons,hf];by_cases hk:(k==dk)=true
    · have c:k=dk:=by simpa using hk
      obtain⟨a,ha⟩:=h (n,k) cP c;have hc:cellOf env n=pure a:=by unfold cellOf;rw[ha]
      rw[if_pos hk,hc];show(forIn r ((n,a)::acc) f:Sem (List (Str×ax)))=pure (j4 env.cells r _);rw[Ew hf r _ hr,if_pos hk,ha]
    · rw[if_neg hk]
      show(forIn r acc f:Sem (List (Str×ax)))=pure (j4 env.cells r _);rw[Ew hf r _ hr,if_neg hk]
def Zt(h:∀x∈scope.names,x.2= .free->∃a,env.cells.lookup x.1=some a):closureFor scope env=pure (j4 env.cells scope.names []):=by
 simp only[closureFor];rw[Ew (env:=env) (λ⟨n,k⟩ acc=>by dsimp only) scope.names [] h]
 rfl
theorem Fw{cells:List (Str×ax)}:∀{l:List (Str×fI)} {acc:List (Str×ax)} {x:Str} {c:ax},(∀y d,acc.lookup y=some d->cells.lookup y=some d)->(j4 cells l acc).lookup x=some c->cells.lookup x=some c
  |[],_,_,_,ha,h=>ha _ _ h
  | (n, k) :: r, acc, x, c, ha, h => by
    refine Fw (l:=r) ?_ h;intro y d hd;by_cases hk:(k==dk)=true
    · rw[if_pos hk] at hd
      cases q:cells.lookup n with
      |none=>rw[q] at hd;exact ha _ _ hd
      | some a =>
        rw[q] at hd;by_cases hy:(y==n)=true
        · have b:y=n:=by simpa using hy
          subst b;simp[cA] at hd;rw[q,hd]
        · have b:(y==n)=false:=by simpa using hy
          simp only[cA,b] at hd;exact ha _ _ hd
    · rw[if_neg hk] at hd;exact ha _ _ hd
theorem Mw{cells:List (Str×ax)}:∀{l:List (Str×fI)} {acc:List (Str×ax)} {x:Str},(acc.lookup x).isSome=true->((j4 cells l acc).lookup x).isSome=true
  |[],_,_,h=>h
  | (n, k) :: r, acc, x, h => by
    refine Mw (l:=r) ?_;by_cases hk:(k==dk)=true
    · rw[if_pos hk]
      cases q:cells.lookup n with
      |none=>exact h
      | some a =>
        by_cases hy:(x==n)=true;· simp[cA,hy]
        · have b:(x==n)=false:=by simpa using hy
          simp only[cA,b];exact h
    · rw[if_neg hk];exact h
theorem SS{cells:List (Str×ax)}:∀{l:List (Str×fI)} {acc:List (Str×ax)} {x:Str} {a:ax},(x,dk)∈l->cells.lookup x=some a->((j4 cells l acc).lookup x).isSome=true
  |[],_,_,_,h,_=>nomatch h
  | (n, k) :: r, acc, x, a, h, hc => by
    rcases aK.mp h with e|h
    · obtain⟨rfl,rfl⟩:=Prod.mk.inj e
      refine Mw (l:=r) ?_;rw[if_pos ⋯,hc];simp[cA]
    · exact SS (l:=r) h hc
def SX{l:List (Str×fI)}(h:(x,dk)∈l)(hc:cells.lookup x=some a):(j4 cells l []).lookup x=some a:=by
 obtain⟨c,e⟩:=D4.mp (SS (acc:=[]) h hc);have:=Fw (λy d (q:([]:List (Str×ax)).lookup y=some d)=>by simp at q) e;rw[hc] at this;cases this
 exact e
theorem Dz{env:Env}:∀{l:List (Str×fI)} {x:Str} {k:fI},(∀y∈l,y.2≠ .cell)->
    (l.map λ(n,k)=>if(k==dk && env.scope.kind== .function && env.kindOf n==some .cell) then(n,nv) else(n,k)).lookup x=some k->k= .cell\/k= .free->l.lookup x=some .free
  |[],_,_,_,h,_=>by simp at h
  | (n, q) :: r, x, k, hc, h, hk => by
    have hr:=λy hy=>hc y (cF _ hy);have ih:=Dz (env:=env) (l:=r) (x:=x) (k:=k) hr;rw[aZ] at h;dsimp only at h;by_cases hx:(x==n)=true
    · simp only[cA,hx]
      by_cases hq:(q==dk && env.scope.kind== .function && env.kindOf n==some .cell)=true
      · have:q= .free:=by
          simp only[fQ] at hq;simpa using hq.1.1
        rw[this]
      · rw[if_neg hq] at h
        simp only[cA,hx] at h;have a:q=k:=iI h;rcases hk with e|e
        · exact absurd (a.trans e) (hc (n,q) cP)
        · rw[a,e]
    · have M:(x==n)=false:=by simpa using hx
      simp only[cA,M];refine ih ?_ hk;by_cases hq:(q==dk && env.scope.kind== .function && env.kindOf n==some .cell)=true
      · rw[if_pos hq] at h
        simp only[cA,M] at h;exact h
      · rw[if_neg hq] at h
        simp only[cA,M] at h;exact h
theorem SW{env:Env}:∀{l:List (Str×fI)} {x:Str},l.lookup x=some .free->
    (l.map λ(n,k)=>if(k==dk && env.scope.kind== .function && env.kindOf n==some .cell) then(n,nv) else(n,k)).lookup x=some .cell\/
    (l.map λ(n,k)=>if(k==dk && env.scope.kind== .function && env.kindOf n==some .cell) then(n,nv) else(n,k)).lookup x=some .free
  |[],_,h=>by simp at h
  | (n, q) :: r, x, h => by
    have ih:=SW (env:=env) (l:=r) (x:=x);rw[aZ];dsimp only;by_cases hx:(x==n)=true
    · simp only[cA,hx] at h
      by_cases hq:(q==dk && env.scope.kind== .function && env.kindOf n==some .cell)=true
      · rw[if_pos hq]
        left
        simp only[cA,hx]
      · rw[if_neg hq]
        right
        simp only[cA,hx];exact h
    · have M:(x==n)=false:=by simpa using hx
      simp only[cA,M] at h;have:=ih h;by_cases hq:(q==dk && env.scope.kind== .function && env.kindOf n==some .cell)=true
      · rw[if_pos hq]
        simp only[cA,M];exact this
      · rw[if_neg hq]
        simp only[cA,M];exact this
noncomputable def cM(sx:kS)(NX:List Str)(scope:kS)(N:List Str)(mp:List (Option Nat)):Bool:=
 (scope.kind== .function) && scope.names.all (λy=>y.2 != .cell) && scope.names.all (λy=>y.2 != .local||scope.names.lookup y.1==some .local) &&
 scope.names.all (λy=>y.2 != .free||sx.names.lookup y.1==some .cell||sx.names.lookup y.1==some .free) &&(mp.length==N.length) &&
 ((N.zip mp).all λp=>match p.2 with|none=>true|some j=>NX[j]?==some p.1 && scope.names.lookup p.1==some .free)
structure cy(sx:kS)(NX:List Str)(scope:kS)(N:List Str)(mp:List (Option Nat)):Prop where
 kind:scope.kind= .function
 cell:∀y∈scope.names,y.2≠ .cell
 names:∀y∈scope.names,y.2= .local->scope.names.lookup y.1=some .local
 free:∀y∈scope.names,y.2= .free->sx.names.lookup y.1=some .cell\/sx.names.lookup y.1=some .free
 len:mp.length=N.length
 look:∀(i j:Nat) (x:Str),mp[i]?=some (some j)->N[i]?=some x->NX[j]?=some x/\scope.names.lookup x=some .free
def cy.of{sx:kS}(h:cM sx NX scope N mp=true):cy sx NX scope N mp:=by
 unfold cM at h;simp only[fQ,lU] at h;obtain⟨⟨⟨⟨⟨h1,h2⟩,h3⟩,h4⟩,h5⟩,B⟩:=h;refine⟨by simpa using h1,λy hy=>by simpa using h2 y hy,λy hy e=>?_,λy hy e=>?_,by simpa using h5,λi j x e1 e2=>?_⟩
 .have:=h3 y hy;simpa[e] using this
 .have:=h4 y hy;simpa[e] using this
 .have hm:(x,some j)∈N.zip mp:=by
   have:(N.zip mp)[i]?=some (x,some j):=by
    rw[List.getElem?_zip_eq_some];exact⟨e2,e1⟩
   exact bP this
  have:=B _ hm;simpa using this
noncomputable def fV(mp:List (Option Nat))(σ:qr):qr:=mp.map λo=>match o with|none=>none|some j=>match σ[j]? with|some v=>v|none=>none
noncomputable def kq(X:Cx)(scope:kS)(C:ax)(N:List Str)(s₀:au)(H₀:Hp)(fp:List ax):Cx:=
 {X with N:=N,s₀:=s₀,H₀:=H₀,env:=DD scope (j4 X.env.cells scope.names []) C X.env,outer:=X.stack,ex:=fp,fn:=λ_=>false,pn:=[],xe:=λ_ _=>False}
def wz(X:Cx)(B:List eM)(t:TT):Prop:=
 ∀(pins:List (ax×Obj)) (s:au) (σ:qr) (H:Hp) (Q:Bool->Hp->Prop),Inv X pins σ H s->t σ H Q->
  wpAny (bo X.prog X.w) X.A (forIn B true λc r=>if r=true then do let ok<-isTrue c X.env (eval c X.env);pure (dE ok) else pure (dE r)) (TP X pins σ Q) X.xe s
def p9:TT:=λ_ H Q=>Q true H
def eW:wz X [] p9:=λpins s σ H Q I h=>wpAny_tests_nil ⟨H,I,h⟩
def mF{c:eM}{t:TT}(h:PT X c t):wz X [c] t:=λpins s σ H Q I q=>wpAny_tests_one (h pins s σ H Q I q)
def pB(J:It)(g:TG)(tc:TT)(te:TE)(acc:ax)(d:Hp->Prop)(σ:qr)(H:Hp):Prop:=∃W:Nat->Nat->qr->Hp->Prop,(∃m,W 0 m σ H)/\∀i m σ H,W i m σ H->
 (J.stop i H /\ d H) \/ (J.go i H /\ ∃ a : qr -> Hp -> Prop, (∀ L H', a L H' -> ∃ m', m' < m /\ W (i + 1) m' L H') /\ ∀ x H', J.qM i H x H' -> g x σ H' λk H2 => tc k H2 λb H3 =>
  if b=true then te k H3 λv H4=>∃ys,H4 acc=some (.lst ys)/\ys.length<sizeLine/\a k (upd H4 acc (.lst (ys++[v]))) else a k H3)
def jW(F:TI)(g:TG)(tc:TT)(te:TE)(mp:List (Option Nat)):TE:=λσ H Q=>F σ H λJ H1=>∀acc,H1 acc=none->pB J g tc te acc (λH'=>Q (.ref acc) H') (fV mp σ) (upd H1 acc (.lst []))
section
variable{prog:cj}{w:dc}{A:c5}{R:Result->au->Prop}{s:au}
def ZD{E a l:eM}{B:List eM}{it acc:ar}(I:Nat->au->Prop)
    (L:∀n s,I n s->wpAny (bo prog w) A (mx it) (λr s₁=>match r with
      |none=>R (.ok .next) s₁
      |some v=>wpAny (bo prog w) A (jQ a it v) (λ_ s₀=>wpAny (bo prog w) A (vy a env v) (λ_ d=>
          wpAny (bo prog w) A (forIn B true λc r=>if r=true then do let ok<-isTrue c env (eval c env);pure (dE ok) else pure (dE r)) (λok b=>
            if ok=true then wpAny (bo prog w) A (eval E env) (λx g=>
              wpAny (bo prog w) A (call (.builtin "list.append") [acc,x]) (λ_ f=>∃m,m<n/\I m f) (λ_ _=>False) g) (λ_ _=>False) b
            else∃m,m<n/\I m b) (λ_ _=>False) d) (λ_ _=>False) s₀) (λ_ _=>False) s₁) (λ_ _=>False) s)
    (n:Nat) (h:I n s):
    codeAny (bo prog w) A (.compLoop (.ListComp E [⟨a,l,B,0⟩] scope pos) 0 it acc env) R s:=by
  refine codeAny_loop rfl I (λn s hI=>?_) n h;show wpAny _ A ((compTurn (.ListComp E [⟨a,l,B,0⟩] scope pos) 0 it acc env).onRaise (λx=>do noteFrame x env;theTreesLotGoes x)) _ _ s;refine wpAny_noted ?_;rw[compTurn_list];refine ae (ng (ae (fm (L n s hI) (λr s₁ h₁=>?_) λ_ _ h'=>h'.elim)));cases r with
  |none=>exact aw h₁
  | some v =>
    refine ae (fm h₁ (λ_ s₀ h₀=>?_) λ_ _ h'=>h'.elim);refine ae (fm h₀ (λ_ d i=>ae (fm i (λok b e=>?_) λ_ _ h'=>h'.elim)) λ_ _ h'=>h'.elim);cases ok with
    |false=>exact aw ⟨rfl,e⟩
    | true =>
      exact ae (ae (fm e (λx g j=>ae (fm j (λ_ f k=>aw (aw ⟨rfl,k⟩)) λ_ _ h'=>h'.elim)) λ_ _ h'=>h'.elim))
end
section
variable{X:Cx}
def M0{E l:eM}{B:List eM}{pos':Pos}{F:TI} {Q:VK} {QQ:ar->au->Prop}
    (ok:cy X.env.scope X.N scope N mp) (hc:X.calm=true) (hi:PI X tg l F)
    (hb:∀C s₀ H₀ fp,PG (kq X scope C N s₀ H₀ fp) tg g/\wz (kq X scope C N s₀ H₀ fp) B tc/\PE (kq X scope C N s₀ H₀ fp) E te)
    (hs:∀x,hV l X.env x=pure x) (I:Inv X pins σ H s) (h:jW F g tc te mp σ H Q)
    (fin:∀acc C H' s' m,Inv X pins σ H' s'->jG X pins H' C->s'.heap.Ns C m->Q (.ref acc) H'->DJ (bo X.prog X.w) X.A X.xe use QQ (.ref acc) C (.ok .next) s'):
    wpAny (bo X.prog X.w) X.A (comprehension (.ListComp E [⟨tg,l,B,0⟩] scope pos) scope X.env pos' (A5 []) false (eval l X.env) use) QQ X.xe s:=by
  have f:∀x∈scope.names,x.2= .free->∃a,X.env.cells.lookup x.1=some a:=λx hx e=>I.ok.has x.1 (ok.free x hx e);refine wpAny_comprehension_free (use:=use) rfl hs (Zt f) ok.kind ok.names (aQ (hi pins s σ H _ I h) λv s1 h1=>aQ h1 λitv s2 h2=>?_);obtain⟨it,fp,tn,J,H2,e,I2,T,st2,U,hW⟩:=h2;subst e;refine ec (wpAny_newFunctionEnv ok.cell (by intro y hy;simp at hy) (λh₁ HC C7=>?_) ok.kind);dsimp only at HC C7⊢;have I3:=I2.L5 (its:=[]) (ys:=[]) (t':=s2.toks) .nil (eT _);have hW:=hW s2.heap.objs.size I2.fresh;obtain⟨W,⟨Z,w0⟩,L⟩:=hW;generalize GP:s2.heap.push {cls:= .type "list",dict:=none,data:= .seq ([]:List ar).toArray}=D at HC C7⊢;have I3:Inv X pins σ (upd H2 s2.heap.objs.size (.lst [])) {s2 with heap:=D}:=by rw[<-GP];exact I3
  generalize T7:upd H2 s2.heap.objs.size (.lst [])=H3 at I3 w0;have hC:D.objs.size=s2.heap.objs.size+1:=by rw[<-GP,mP]
  have old:∀b o,D.get? b=some o->h₁.get? b=some o:=λb o e=>C7.extBut b o (eS (cD e)) (cJ _ e);have m7:∀b∈fp,b<s2.heap.objs.size:=λb hb=>by
    obtain⟨o,e,_⟩:=T.obj 0 _ st2 b hb;exact cD e
  have fH3:∀b∈fp,H3 b=none:=λb hb=>by
    rw[<-T7,br (eS (m7 b hb))];exact(U b hb).1
  have tT:∀{x:Str} {c:ax},(j4 X.env.cells scope.names []).lookup x=some c->X.env.cells.lookup x=some c:=λ{x c} e=>Fw (λy d q=>by simp at q) e;have BP:(kq X scope D.objs.size N {s2 with heap:=D} H3 fp).Ok:=by
    refine⟨I2.ok.mod,ok.kind,I2.ok.glob,I2.ok.blt,aH _,λx y c e1 e2=>I2.ok.inj x y c (tT e1) (tT e2),λx hx=>?_,(λx c e=>absurd (show false=true from e) ⋯),I2.ok.hd,I2.ok.frames, .inl rfl,λb hb=>?_,I3.bs,eu I3.ok.pH I3.sz,λb o e hb=>?_,λb hb hz=>?_,I3.stack,I3.MM⟩
    · have M:scope.names.lookup x=some .free:=by
        rcases hx with hx|hx
        · exact Dz ok.cell hx (.inl rfl)
        · exact Dz ok.cell hx (.inr rfl)
      have hm:=p5 M;obtain⟨a,ha⟩:=f _ hm rfl;exact⟨a,SX hm ha⟩
    · refine⟨λz=>?_,λx c e=>(U b hb).2.2.2.2.1 x c (tT e)⟩
      have z':b=D.objs.size:=z;have q:=m7 b hb;rw[z',hC] at q;exact absurd q (Nat.not_lt.mpr (sf _))
    · rcases(U b hb).2.2.2.1 with z|z
      · exact I2.ok.vj b o e z
      · exact absurd (fJ (cD (I2.ok.bs b o e).1) z) (kE _)
    · rcases aK.mp (I2.Hf b hz) with z|z
      · exact(U b hb).2.1 z
      · exact(U b hb).2.2.1 z
  have IY:Inv (kq X scope D.objs.size N {s2 with heap:=D} H3 fp) [] (fV mp σ) H3 {s2 with heap:=h₁,toks:=s2.toks+([]:List (Str×ar)).length}:=by
    refine⟨BP,rfl,I2.bare,Un.kept old,⟨_,HC,λi x v e1 e2 e3=>?_⟩,λx c e=>?_,I3.hok.fresh (aH _),λx c e=>I3.lQ x c (tT e),λp hp=>absurd (show p∈([]:List (ax×Obj)) from hp) (by simp),I3.hok.kept old,?_⟩
    · have hj:∃j,mp[i]?=some (some j)/\σ[j]?=some (some v):=by
        unfold fV at e2;rw[cS] at e2;cases q:mp[i]? with
        |none=>rw[q] at e2;cases e2
        | some o =>
          rw[q] at e2;cases o with
          |none=>cases e2
          | some j =>
            refine⟨j,rfl,?_⟩;have e2:(match σ[j]? with|some v=>v|none=>none)=some v:=iI e2;cases r:σ[j]? with
            |none=>rw[r] at e2;cases e2
            | some u =>
              rw[r] at e2;have e2:u=some v:=e2;rw[e2]
      obtain⟨j,hj1,hj2⟩:=hj;obtain⟨O,G⟩:=ok.look i j x hj1 e1;have hm:=p5 G;have kx:=ok.free _ hm rfl;obtain⟨mm,_,hl⟩:=I3.loc;obtain⟨u,ru,lk⟩:=hl j x v O hj2 (kx.elim (λz=> .inr (.inl z)) λz=> .inr (.inr z));refine⟨u,ru, .inr ⟨SW G,?_⟩⟩;rcases lk with ⟨k,_⟩|⟨_,c,e,z⟩
      · exfalso
        have k':X.env.scope.names.lookup x=some .local:=k;rcases kx with kx|kx
        · rw[k'] at kx;cases kx
        · rw[k'] at kx;cases kx
      · refine⟨c,SX hm e,?_⟩
        obtain⟨o,ho,hd⟩:=z;exact⟨o,old c o ho,hd⟩
    · obtain⟨v,o,ho,hd⟩:=I3.cell x c (tT e)
      exact⟨v,o,old c o ho,hd⟩
    · show(fV mp σ).length=N.length
      unfold fV;rw[ak,ok.len]
  have pA:∀{H':Hp},(∀b∈fp,H' b=none)->∀b∈fp,jG (kq X scope D.objs.size N {s2 with heap:=D} H3 fp) [] H' b:=λ{H'} hn b hb=>
    ⟨hn b hb,(BP.Bt b hb).1,BP.tZ b hb, .inl hb,(BP.Bt b hb).2,λp hp=>absurd (show p∈([]:List (ax×Obj)) from hp) (by simp)⟩
  have Nh:tn 0 h₁:=T.keep 0 _ _ st2 λb hb o e=>old b o (by rw[<-GP];exact cJ _ e)
  have loop:codeAny (bo X.prog X.w) X.A (.compLoop (.ListComp E [⟨tg,l,B,0⟩] scope pos) 0 (.ref it) (.ref s2.heap.objs.size) (DD scope (j4 X.env.cells scope.names []) D.objs.size X.env))
      (DJ (bo X.prog X.w) X.A X.xe use QQ (.ref s2.heap.objs.size) D.objs.size) {s2 with heap:=h₁,toks:=s2.toks+([]:List (Str×ar)).length}:=by
    obtain⟨hg,ht,he⟩:=hb D.objs.size {s2 with heap:=D} H3 fp;generalize S:kq X scope D.objs.size N {s2 with heap:=D} H3 fp=Y at hg ht he IY pA;have yp:Y.prog=X.prog:=by rw[<-S];rfl
    have yw:Y.w=X.w:=by rw[<-S];rfl
    have yK:Y.K=X.K:=by rw[<-S];rfl
    have yA:Y.A=X.A:=by rw[<-S];rfl
    have yc:Y.calm=true:=by rw[<-S];exact hc
    have yx:Y.xe=λ_ _=>False:=by rw[<-S];rfl
    have OE:Y.env=DD scope (j4 X.env.cells scope.names []) D.objs.size X.env:=by rw[<-S];rfl
    rw[<-OE];refine ZD (λn s'=>∃i σ' H',Inv Y [] σ' H' s'/\tn i s'.heap/\(∀b∈fp,H' b=none)/\W i n σ' H') ?_ Z ⟨0,_,H3,IY,Nh,fH3,w0⟩;rintro n s3 ⟨i,σ3,H4,I4,st3,fr3,w3⟩;rcases L i n σ3 H4 w3 with ⟨stop,qn⟩|⟨go,Nx,hN,step⟩
    · have q0:=T.done Y yp yw yK yc i [] s3 σ3 H4 (λ_ _=>False) I4 (pA fr3) st3 stop
      rw[yA] at q0;refine aQ q0 λr s4 ⟨hr,V⟩=>?_;subst hr;show DJ (bo X.prog X.w) X.A X.xe use QQ (.ref s2.heap.objs.size) D.objs.size (.ok .next) s4;obtain⟨m,hm,_⟩:=id V.loc;have yl:Y.env.locals=D.objs.size:=by rw[OE];rfl
      rw[yl] at hm;have fC:H4 D.objs.size=none:=by have:=V.free;rw[yl] at this;exact this
      have ub:=V.base;have ub':Un (frs X.stack) fp H3 H4 D s4.heap:=by rw[<-S] at ub;exact ub
      have t:s4.os=s2.os:=by have:=V.os;rw[<-S] at this;exact this
      have aeO:ez X.prog X.w H4 s4.heap:=by have:=V.hok;rw[yp,yw] at this;exact this
      have IX:Inv X pins σ H4 s4:=I3.TB (ch:=fp) t ub' aeO V.bare λb hb=>⟨(U b hb).2.2.2.1,(U b hb).2.1,(U b hb).2.2.2.2.1,(U b hb).2.2.2.2.2⟩;exact fin _ _ H4 s4 m IX (I3.pR (aH _) fC) hm qn
    · have q0:=T.item Y yp yw yK yc i [] s3 σ3 H4 (λ_ _=>False) I4 (pA fr3) st3 go
      rw[yA] at q0;refine aQ q0 λr s4 ⟨u,hr,h4⟩=>?_;subst hr;refine aQ h4 λ_ s5 ⟨x,H5,V,r5,y5,qE,GO⟩=>?_;have DG:=V.pinned (pA GO) (T.obj _ _ qE);rw[<-yx,<-yp,<-yw,<-yA];refine aQ (hg _ s5 σ3 H5 x u _ DG r5 (step x H5 y5)) λ_ s6 ⟨vt,H6,I6,q6⟩=>?_;refine aQ (ht _ s6 vt H6 _ I6 q6) λb s7 ⟨H7,P,R⟩=>?_;have again:∀{tW:qr} {H8:Hp} {s8:au},Inv Y ([]++u9 fp s5.heap) tW H8 s8->Nx tW H8->∃m,m<n/\∃i σ' H',Inv Y [] σ' H' s8/\tn i s8.heap/\(∀b∈fp,H' b=none)/\W i m σ' H':=λ{tW H8 s8} I8 n8=>by
        obtain⟨m',hm,w8⟩:=hN tW H8 n8;refine⟨m',hm,i+1,tW,H8,I8.zy,T.keep _ _ _ qE λb hb o e=>(I8.pin (b,o) (kc _ (kc _ (Bd hb e)))).1,λb hb=>?_,w8⟩;obtain⟨o,e,d⟩:=T.obj _ _ qE b hb;exact(I8.pin (b,o) (kc _ (kc _ (Bd hb e)))).2.1
      cases b with
      | false =>
        rw[if_neg cC];rw[if_neg cC] at R;exact again P R
      | true =>
        rw[if_pos rfl];rw[if_pos rfl] at R;refine aQ (he _ s7 vt H7 _ P R) λv s8 ⟨y,H8,I8,r8,ys,e8,z8,n8⟩=>?_;refine aQ (vJ _ s8 vt H8 (.ref s2.heap.objs.size) [y] (.ref s2.heap.objs.size) [v] (λ_ H9=>H9=upd H8 s2.heap.objs.size (.lst (ys++[y]))) I8 rfl (.cons r8 .nil) ⟨_,ys,y,rfl,rfl,e8,z8,rfl⟩) λv9 s9 ⟨y9,H9,I9,r9,e9⟩=>?_;subst e9;exact again I9 n8
  refine codeAny_compStart_list loop (T.self _ _ _ _ _ Nh loop)
theorem jG.turned{pins:List (ax×Obj)}{s:au}{σ:qr}{H:Hp}{C:ax}{h':e6}(I:Inv X pins σ H s)(f:jG X pins H C)(hs:fw C s.heap h'):Inv X pins σ H {s with heap:=h'}:=
 I.turned (t':=s.toks) (λb o hb e=>(hs.2 b hb).trans e) f.1 f.2.1 f.2.2.2.1 f.2.2.2.2.1 f.2.2.2.2.2
def eK{E l:eM}{B:List eM}{F:TI}
  (ok:cy X.env.scope X.N scope N mp) (hi:PI X tg l F)
  (hb:∀C s₀ H₀ fp,PG (kq X scope C N s₀ H₀ fp) tg g/\wz (kq X scope C N s₀ H₀ fp) B tc/\PE (kq X scope C N s₀ H₀ fp) E te) (hc:X.calm=true:=by rfl)
  (hs:∀x,hV l X.env x=pure x:=by intro _;rfl):PE X (.ListComp E [⟨tg,l,B,0⟩] scope pos) (jW F g tc te mp):=by
 intro pins s σ H Q I h;rw[eval_ListComp];refine M0 (use:=none) ok hc hi hb hs I h λacc C H' s' m b f hn q=>?_;exact⟨m,hn,λh' d=>⟨.ref acc,H',f.turned b d,rfl,q⟩⟩
def Jf(i:Nat)(t:TE):TS:=λD σ H=>t σ H λv H'=>D.nx (σ.set i (some v)) H'
def nK{E l:eM}{B:List eM}{c j:Pos}{F:TI}{y:Str}
  (hN:X.N.Nodup) (hy:X.N[i]?=some y) (hk:X.env.kindOf y=some .local)
  (ok:cy X.env.scope X.N scope N mp) (hi:PI X tg l F)
  (hb:∀C s₀ H₀ fp,PG (kq X scope C N s₀ H₀ fp) tg g/\wz (kq X scope C N s₀ H₀ fp) B tc/\PE (kq X scope C N s₀ H₀ fp) E te) (hc:X.calm=true:=by rfl)
  (k:rA (.ListComp E [⟨tg,l,B,0⟩] scope pos) (some (.Name y j)) c.line X.env=pure true:=by rfl)
  (hs:∀x,hV l X.env x=pure x:=by intro _;rfl):PS X (.Assign [.Name y j] (.ListComp E [⟨tg,l,B,0⟩] scope pos) c) (Jf i (jW F g tc te mp)):=by
 intro pins s σ H D I h;rw[exec_Assign_Name_used _ _ _ _ k];refine ae (ng (ae ?_));show wpAny _ X.A (do let _<-comprehension (.ListComp E [⟨tg,l,B,0⟩] scope pos) scope X.env _ (A5 []) false (eval l X.env) (some (vy (.Name y j) X.env))) _ _ s;refine ae (fm (M0 (use:=some (vy (.Name y j) X.env)) (QQ:=λ_ s'=>SP X pins D .next s') ok hc hi hb hs I h λacc C H' s' m b f hn q=>?_) (λ_ s' hq=>aw (aw hq)) λ_ _ e=>e);refine oo (RN (v:= .ref acc) b hN hy (.inl hk) rfl (λs2 I2 ⟨a,sb,ha⟩=>?_) (.inr hk));have T:C≠a:=by
  rcases ha with z|z
  .rw[z];exact f.2.1
  .exact λe=>f.2.2.2.2.1 y a z e.symm
 exact⟨m,hn.sameBut sb T,λh' d=>⟨_,H',f.turned I2 d,q⟩⟩
end
def Sm(i:Int):Prop:= -(2^300)<i/\i<2^300
theorem Dk{i:Int}(h:Sm i):jX i<=2^20:=by
 obtain⟨h1,h2⟩:=h;unfold jX;split;·exact eT _
 .rename_i h0
  have hn:i.natAbs≠0:=by
   intro e;apply h0;simp;omega
  have h3:i.natAbs<2^300:=∅
  have h4:i.natAbs.log2<300:=(IZ hn).mpr h3;have:(2:Nat)^20=1048576:=⋯
  omega
theorem Qb{x y:Int}(h:Sm y):Builtin.divisionGoesByPylong x y=false:=by
 refine PyProof.noPylong_of_log2 ?_;obtain⟨h1,h2⟩:=h;by_cases h0:y.natAbs=0;·rw[h0];decide+kernel
 .have h3:y.natAbs<2^300:=∅
  have h4:y.natAbs.log2<300:=(IZ h0).mpr h3;omega
section
variable{X:Cx}
theorem uX:c9 X (iC .FloorDiv) (rI (λ_ j=>0<j/\Sm j) λi j=> .int (i/j)):=AV λi j _ _ _ _ _ hc q=>
 floordiv_int ∅ (by rw[Int.fdiv_eq_ediv_of_nonneg _ ∅];exact q) (.inl (Qb hc.2))
def Uv:qI X "int.bit_length" (λx xs H Q=>∃i,x= .int i/\xs=[]/\Q (.int (jX i)) H):=by
 intro pins s σ H x xs v us Q I rx rv h;obtain⟨i,rfl,rfl,q⟩:=h;obtain⟨t,rfl⟩:=rx;cases rv;exact call_int_bit_length ⟨.int _,H,I.tok _,⟨_,rfl⟩,q⟩
def JK(K:PySem.W.Frag):List V->Hp->VK->Prop:=λxs H Q=>∃x T t b,xs=[x, .ty T]/\jA K H x t/\PySem.W.kitOne K t (.type T)=some b/\Q (.bl b) H
def Xj:fT X (.builtin "isinstance") (JK X.K):=by
 intro pins s σ H xs us Q I rv h;obtain⟨x,T,t,b,rfl,ty,e,q⟩:=h;obtain⟨u,v,rfl,ru,rv⟩:=rv.two;cases (show v=gT T from rv);exact Wm I ru ty e λtk=>⟨.bl b,H,I.tok tk,rfl,q⟩
def wQ:PyData->Key->Prop
 | .int i,k=>k= .inl i
 | .str x,k=>k= .inr x
 |_,_=>False
mutual
def ah(nb:ax->Prop)(H:Hp):PyData->V->Prop
 | .none,v=>v= .aL
 | .bool b,v=>v= .bl b
 | .int i,v=>v= .int i
 | .str x,v=>v= .str x
 | .list ds,v=>∃a xs,v= .ref a/\¬nb a/\H a=some (.lst xs)/\af nb H ds xs
 | .tuple ds,v=>∃a xs,v= .ref a/\¬nb a/\H a=some (.tup xs)/\af nb H ds xs
 | .dict kvs,v=>∃a ps,v= .ref a/\¬nb a/\Rd H a (.dK ps)/\aB nb H kvs ps
termination_by structural d=>d
def af(nb:ax->Prop)(H:Hp):List PyData->List V->Prop
 |[],xs=>xs=[]
 |d::ds,xs=>∃y ys,xs=y::ys/\ah nb H d y/\af nb H ds ys
termination_by structural d=>d
def aB(nb:ax->Prop)(H:Hp):List (PyData×PyData)->List (Key×V)->Prop
 |[],xs=>xs=[]
 |d::ds,xs=>∃p ys,xs=p::ys/\cX nb H d p/\aB nb H ds ys
termination_by structural d=>d
def cX(nb:ax->Prop)(H:Hp):PyData×PyData->Key×V->Prop
 |(k,d),p=>wQ k p.1/\ah nb H d p.2
termination_by structural d=>d
end
def bu(nb:ax->Prop)(H H':Hp):Prop:=∀a o,¬nb a->H a=some o->H' a=some o
def Nb(b:ax):ax->Prop:=λa=>a=b
section
variable{nb aP:ax->Prop}{H H1 H2 H':Hp}{a b c p:ax}{o:HO}{xs:List V}
def bu.refl(nb:ax->Prop)(H:Hp):bu nb H H:=λ_ _ _ h=>h
def bu.trans(x:bu nb H H1)(y:bu nb H1 H2):bu nb H H2:=λa o n h=>y a o n (x a o n h)
def bu.of(x:cT H H'):bu nb H H':=λa o _ h=>x a o h
def bu.set(h:nb p):bu nb H (upd H p o):=λa u n q=>by rw[br (λe=>n (by rw[e];exact h))];exact q
def bu.rd{u:HO}(x:bu nb H H')(n:¬nb a)(h:Rd H a u):Rd H' a u:=by
 rcases h with h|⟨o,h⟩
 .exact .inl (x _ _ n h)
 .exact .inr ⟨o,x _ _ n h⟩
end
mutual
theorem ah.keep{nb:ax->Prop}{H H':Hp}(x:bu nb H H'):∀{d:PyData} {v:V},ah nb H d v->ah nb H' d v
 | .none,_,h=>by unfold ah at h⊢;exact h
 | .bool _,_,h=>by unfold ah at h⊢;exact h
 | .int _,_,h=>by unfold ah at h⊢;exact h
 | .str _,_,h=>by unfold ah at h⊢;exact h
 | .list ds,_,h=>by unfold ah at h⊢;obtain⟨a,xs,e,n,s,r⟩:=h;exact⟨a,xs,e,n,x _ _ n s,af.keep x r⟩
 | .tuple ds,_,h=>by unfold ah at h⊢;obtain⟨a,xs,e,n,s,r⟩:=h;exact⟨a,xs,e,n,x _ _ n s,af.keep x r⟩
 | .dict kvs,_,h=>by unfold ah at h⊢;obtain⟨a,xs,e,n,s,r⟩:=h;exact⟨a,xs,e,n,x.rd n s,aB.keep x r⟩
theorem af.keep{nb:ax->Prop}{H H':Hp}(x:bu nb H H'):∀{ds:List PyData} {vs:List V},af nb H ds vs->af nb H' ds vs
 |[],_,h=>by unfold af at h⊢;exact h
 |d::ds,_,h=>by unfold af at h⊢;obtain⟨y,ys,e,h1,h2⟩:=h;exact⟨y,ys,e,ah.keep x h1,af.keep x h2⟩
theorem aB.keep{nb:ax->Prop}{H H':Hp}(x:bu nb H H'):∀{ds:List (PyData×PyData)} {vs:List (Key×V)},aB nb H ds vs->aB nb H' ds vs
 |[],_,h=>by unfold aB at h⊢;exact h
 |d::ds,_,h=>by unfold aB at h⊢;obtain⟨y,ys,e,h1,h2⟩:=h;exact⟨y,ys,e,cX.keep x h1,aB.keep x h2⟩
theorem cX.keep{nb:ax->Prop}{H H':Hp}(x:bu nb H H'):∀{d:PyData×PyData} {v:Key×V},cX nb H d v->cX nb H' d v
 |(k,d),_,h=>by unfold cX at h⊢;exact⟨h.1,ah.keep x h.2⟩
end
mutual
theorem ah.av{nb aP:ax->Prop}{H:Hp}(x:∀a,aP a->nb a):∀{d:PyData} {v:V},ah nb H d v->ah aP H d v
 | .none,_,h=>by unfold ah at h⊢;exact h
 | .bool _,_,h=>by unfold ah at h⊢;exact h
 | .int _,_,h=>by unfold ah at h⊢;exact h
 | .str _,_,h=>by unfold ah at h⊢;exact h
 | .list ds,_,h=>by unfold ah at h⊢;obtain⟨a,xs,e,n,s,r⟩:=h;exact⟨a,xs,e,λz=>n (x a z),s,af.av x r⟩
 | .tuple ds,_,h=>by unfold ah at h⊢;obtain⟨a,xs,e,n,s,r⟩:=h;exact⟨a,xs,e,λz=>n (x a z),s,af.av x r⟩
 | .dict kvs,_,h=>by unfold ah at h⊢;obtain⟨a,xs,e,n,s,r⟩:=h;exact⟨a,xs,e,λz=>n (x a z),s,aB.av x r⟩
theorem af.av{nb aP:ax->Prop}{H:Hp}(x:∀a,aP a->nb a):∀{ds:List PyData} {vs:List V},af nb H ds vs->af aP H ds vs
 |[],_,h=>by unfold af at h⊢;exact h
 |d::ds,_,h=>by unfold af at h⊢;obtain⟨y,ys,e,h1,h2⟩:=h;exact⟨y,ys,e,ah.av x h1,af.av x h2⟩
theorem aB.av{nb aP:ax->Prop}{H:Hp}(x:∀a,aP a->nb a):∀{ds:List (PyData×PyData)} {vs:List (Key×V)},aB nb H ds vs->aB aP H ds vs
 |[],_,h=>by unfold aB at h⊢;exact h
 |d::ds,_,h=>by unfold aB at h⊢;obtain⟨y,ys,e,h1,h2⟩:=h;exact⟨y,ys,e,cX.av x h1,aB.av x h2⟩
theorem cX.av{nb aP:ax->Prop}{H:Hp}(x:∀a,aP a->nb a):∀{d:PyData×PyData} {v:Key×V},cX nb H d v->cX aP H d v
 |(k,d),_,h=>by unfold cX at h⊢;exact⟨h.1,ah.av x h.2⟩
end
mutual
theorem ah.fresh{nb:ax->Prop}{H:Hp}{p:ax}(hp:H p=none):∀{d:PyData} {v:V},ah nb H d v->ah (λa=>nb a\/a=p) H d v
 | .none,_,h=>by unfold ah at h⊢;exact h
 | .bool _,_,h=>by unfold ah at h⊢;exact h
 | .int _,_,h=>by unfold ah at h⊢;exact h
 | .str _,_,h=>by unfold ah at h⊢;exact h
 | .list ds,_,h=>by unfold ah at h⊢;obtain⟨a,xs,e,n,s,r⟩:=h;exact⟨a,xs,e,λz=>z.elim n (ja s hp),s,af.fresh hp r⟩
 | .tuple ds,_,h=>by unfold ah at h⊢;obtain⟨a,xs,e,n,s,r⟩:=h;exact⟨a,xs,e,λz=>z.elim n (ja s hp),s,af.fresh hp r⟩
 | .dict kvs,_,h=>by unfold ah at h⊢;obtain⟨a,xs,e,n,s,r⟩:=h;exact⟨a,xs,e,λz=>z.elim n (s.elim (λs=>ja s hp) λ⟨_,s⟩=>ja s hp),s,aB.fresh hp r⟩
theorem af.fresh{nb:ax->Prop}{H:Hp}{p:ax}(hp:H p=none):∀{ds:List PyData} {vs:List V},af nb H ds vs->af (λa=>nb a\/a=p) H ds vs
 |[],_,h=>by unfold af at h⊢;exact h
 |d::ds,_,h=>by unfold af at h⊢;obtain⟨y,ys,e,h1,h2⟩:=h;exact⟨y,ys,e,ah.fresh hp h1,af.fresh hp h2⟩
theorem aB.fresh{nb:ax->Prop}{H:Hp}{p:ax}(hp:H p=none):∀{ds:List (PyData×PyData)} {vs:List (Key×V)},aB nb H ds vs->aB (λa=>nb a\/a=p) H ds vs
 |[],_,h=>by unfold aB at h⊢;exact h
 |d::ds,_,h=>by unfold aB at h⊢;obtain⟨y,ys,e,h1,h2⟩:=h;exact⟨y,ys,e,cX.fresh hp h1,aB.fresh hp h2⟩
theorem cX.fresh{nb:ax->Prop}{H:Hp}{p:ax}(hp:H p=none):∀{d:PyData×PyData} {v:Key×V},cX nb H d v->cX (λa=>nb a\/a=p) H d v
 |(k,d),_,h=>by unfold cX at h⊢;exact⟨h.1,ah.fresh hp h.2⟩
end
mutual
theorem ah.reads{pins:List (ax×Obj)}{σ:qr}{H:Hp}{s:au}{nb:ax->Prop}(I:Inv X pins σ H s):∀{d:PyData} {v:V} {u:ar},ah nb H d v->RelV v u->d.canLay0=true->∃as,Reads s.heap u d as
  | .none,_,_,h,r,_=>by unfold ah at h;subst h;cases r;exact⟨_, .none⟩
  | .bool _,_,_,h,r,_=>by unfold ah at h;subst h;cases r;exact⟨_, .bool _⟩
  | .int _,_,_,h,r,_=>by unfold ah at h;subst h;obtain⟨t,rfl⟩:=r;exact⟨_, .int _ _⟩
  | .str _,_,_,h,r,_=>by unfold ah at h;subst h;obtain⟨t,rfl⟩:=r;exact⟨_, .str _ _⟩
  | .list ds, _, _, h, r, e => by
    unfold ah at h;obtain⟨a,xs,rfl,n,s,q⟩:=h;cases r;obtain⟨its,rv,p,hz⟩:=I.list (bw.of s);obtain⟨as,ra⟩:=af.reads I q rv (by simpa only[ek] using e);obtain⟨o,ho,hc,m,hd⟩:=p.isList;exact⟨_, .list ho hc hd (by simpa using ra)⟩
  | .tuple ds, _, _, h, r, e => by
    unfold ah at h;obtain⟨a,xs,rfl,n,s,q⟩:=h;cases r;obtain⟨its,rv,p,hz⟩:=I.tuple (fE.of s);obtain⟨as,ra⟩:=af.reads I q rv (by simpa only[ek] using e);obtain⟨o,ho,hc,m,hd⟩:=p;exact⟨_, .tuple ho hc hd (by simpa using ra)⟩
  | .dict _,_,_,h,r,e=>by simp[ek] at e
theorem af.reads{pins:List (ax×Obj)}{σ:qr}{H:Hp}{s:au}{nb:ax->Prop}(I:Inv X pins σ H s):∀{ds:List PyData} {vs:List V} {us:List ar},af nb H ds vs->Vals vs us->df ds=true->∃as,ReadsAll s.heap us ds as
  |[],_,_,h,r,_=>by unfold af at h;subst h;cases r;exact⟨_, .nil⟩
  | d :: ds, _, _, h, r, hc0 => by
    rw[df,fQ] at hc0;unfold af at h;obtain⟨y,ys,rfl,h1,h2⟩:=h;cases r with
    | cons C Y =>
      obtain⟨as,J⟩:=ah.reads I h1 C hc0.1;obtain⟨bs,q2⟩:=af.reads I h2 Y hc0.2;exact⟨_, .cons J q2⟩
end
def Ga(neg:Bool):R2:=λx y H Q=>∃nb d e,ah nb H d x/\ah nb H e y/\ed d=true/\ed e=true/\Q (.bl (fo d e !=neg)) H
def Ds(hu:X.A.units+64<D3):c9 X (du .Eq) (Ga false):=by
 intro pins s σ H x y v u Q I rx ry h;obtain⟨nb,d,e,h1,h2,h3,h4,q⟩:=h;obtain⟨as,C⟩:=h1.reads I rx (yQ h3);obtain⟨bs,Y⟩:=h2.reads I ry (yQ h4);exact eq_dataH C Y h3 h4 hu ⟨.bl _,H,I,rfl,by simpa using q⟩
def Yw(hu:X.A.units+64<D3):c9 X (du .NotEq) (Ga true):=by
 intro pins s σ H x y v u Q I rx ry h;obtain⟨nb,d,e,h1,h2,h3,h4,q⟩:=h;obtain⟨as,C⟩:=h1.reads I rx (yQ h3);obtain⟨bs,Y⟩:=h2.reads I ry (yQ h4);exact ne_dataH C Y h3 h4 hu ⟨.bl _,H,I,rfl,by simpa using q⟩
end
structure Callee(P:cj)(w:dc)(K:PySem.W.Frag)(mg:Str->Option ar)(base:e6)(x:Str)(k:Nat)(ps:List Str)(sp:Sp):Prop where
 ex:∃f fd,aU P w K mg base bf k f fd ps sp/\Binds K fd ps []/\PySem.W.keepIn K (.ref f)=true/\mg x=some (.ref f)
def aI{k:Nat}{p:Pos}{es:List eM}(c:Callee X.prog X.w X.K X.mg X.base x k ps sp)(hr:eV k X.A)(ha:PA X (e::es) t)(hg:Gl X x:=by rfl)
  (a:(x==("__debug__":Str))=false:=by decide) (he:c6 (e::es) X.env=(false,eval e X.env)::c6 es X.env:=by rfl) (hpl:(lS pos (c6 es X.env)).any (·.1)=false:=by rfl):
  PE X (.Call (.Name x p) (e::es) [] pos) (gY sp [] E0 t):=by
 obtain⟨f,fd,F,b,kp,m⟩:=c.ex;exact aba F hr hg m kp b .nil z5 ha a he hpl
def Callee.mk'{P:cj}{K:PySem.W.Frag}{st:fb}{k:Nat}{f:ax}(F:bq K x x st f fd)(ok:aU P w K mg base bf k f fd ps sp)(b:Binds K fd ps [])
  (m:mg x=some (.ref f)):Callee P w K mg base x k ps sp:=⟨f,fd,ok,b,F.kp,m⟩
def aG(K:PySem.W.Frag)(x q:Str)(st:fb)(f:ax):Prop:=PySem.W.nsIn K cc x=some (some (.ref f))/\∃fd,bq K x q st f fd
def aG.mk{K:PySem.W.Frag}{q:Str}{st:fb}{f:ax}{od an:Option ax}{kV doc pm cdv ct:ar}(a:PySem.W.nsIn K cc x=some (some (.ref f)))(l:K.lookup f=some ⟨oc,od, .func (PySem.W.fnOf x q (lT st) (k7 st) (aE st) .none kV doc pm an cdv ct),osl⟩)
  (c:PySem.W.codeIn K cdv q=true) (k:PySem.W.keepIn K (.ref f)=true):aG K x q st f:=⟨a,_,sM l c k⟩
section
variable{X:Cx}
def jg:c9 X (iC .Mult) (rI (λi j=>zv i j\/(Sm i/\Sm j)) λi j=> .int (i*j)):=AV λ_ _ _ _ _ _ _ hc q=>mul_int q (by
 rcases hc with hc|hc
 .exact hc.ok
 .exact IntMulOk.of_bits (Dk hc.1) (Dk hc.2))
end
def fh(H:Hp)(b l:ax):Prop:=∃(ns:List Int) (i c st n:Int),H b=some (.lst [.ref l, .int i, .int c, .int st, .int n])/\H l=some (.lst (ns.map V.int))/\
 (∀x∈ns,0<=x/\x<10^60)/\ns.length<=63/\0<=i/\0<=c/\c<10^60/\0<=st/\st<2147483647
def Oz{l:ax}{i c st n:V}(h:H b=some (.lst [.ref l,i,c,st,n]))(h':H l=some (.lst (ns.map V.int))):l≠b:=by
 intro e;subst e;rw[h] at h';have e:=HO.lst.inj (iI h');cases ns with
 |nil=>cases e
 |cons x r=>rw[aZ] at e;cases (t7 e).1
def fh.put{l:ax}{i c st n:Int}(hl:l≠b)(h':H l=some (.lst (ns.map V.int)))(h1:∀x∈ns,0<=x/\x<10^60)(h2:ns.length<=63)
  (h3:0<=i) (h4:0<=c) (h5:c<10^60) (B:0<=st) (d:st<2147483647):fh (upd H b (.lst [.ref l, .int i, .int c, .int st, .int n])) b l:=
 ⟨ns,i,c,st,n,bB,by rw[br hl];exact h',h1,h2,h3,h4,h5,B,d⟩
def fh.put2{l p:ax}{o:HO}(h:fh H b l)(hp:p≠b/\p≠l):fh (upd H p o) b l:=by
 obtain⟨ns,i,c,st,n,h1,h2,r⟩:=h;exact⟨ns,i,c,st,n,by rw[br (cO hp.1)];exact h1,by rw[br (cO hp.2)];exact h2,r⟩
def fh.same{l:ax}(h:fh H b l)(s:cT H H'):fh H' b l:=by
 obtain⟨ns,i,c,st,n,h1,h2,r⟩:=h;exact⟨ns,i,c,st,n,s _ _ h1,s _ _ h2,r⟩
def mw:Sp:=λvs H Q _=>∃(b l:ax) (many:Int),vs=[.ref b, .int many]/\fh H b l/\0<many/\Sm many/\∀(r:Int) (H':Hp),0<=r->r<many->bu (Nb b) H H'->fh H' b l->Q (.int r) H'
def N9(K:PySem.W.Frag):Sp:=λvs H Q _=>∃(a:ax) (ns:List Int),vs=[.ref a]/\bw K H a (ns.map V.int)/\ns.length<=63/\∀(b l:ax) (H':Hp),cT H H'->H b=none->fh H' b l->Q (.ref b) H'
theorem j6{α:Type}{xs:List α}{i:Int}{v:α}(h0:0<=i)(h:xs[i.toNat]?=some v):bU xs i=some v:=by
 have e:i=((i.toNat:Nat):Int):=∅
 rw[e];exact VZ h
def dw{p:ax}{o:HO}(h:H p=none):cT H (upd H p o):=λb u q=>by rw[br (ja q h)];exact q
section
variable{nb:ax->Prop}{H H':Hp}
theorem af.length:∀{ds:List PyData} {xs:List V},af nb H ds xs->xs.length=ds.length
 |[],_,h=>by unfold af at h;subst h;rfl
 |d::ds,_,h=>by unfold af at h;obtain⟨y,ys,rfl,_,h2⟩:=h;simp[af.length h2]
theorem af.get:∀{ds:List PyData} {xs:List V} {i:Nat} {d:PyData},af nb H ds xs->ds[i]?=some d->∃x,xs[i]?=some x/\ah nb H d x
 |[],_,_,_,_,e=>by simp at e
 |d::ds,_,0,_,h,e=>by unfold af at h;obtain⟨y,ys,rfl,h1,h2⟩:=h;simp at e;subst e;exact⟨y,rfl,h1⟩
 |d::ds,_,i+1,_,h,e=>by unfold af at h;obtain⟨y,ys,rfl,h1,h2⟩:=h;simpa using af.get (i:=i) h2 (by simpa using e)
theorem af.snoc{d:PyData}{x:V}(hd:ah nb H d x):∀{ds:List PyData} {xs:List V},af nb H ds xs->af nb H (ds++[d]) (xs++[x])
 |[],_,h=>by unfold af at h;subst h;unfold af;exact⟨x,[],rfl,hd,by unfold af;rfl⟩
 |e::ds,_,h=>by unfold af at h;obtain⟨y,ys,rfl,h1,h2⟩:=h;show af nb H (e::(ds++[d])) _;unfold af;exact⟨y,ys++[x],rfl,h1,af.snoc hd h2⟩
theorem af.append:∀{ds es:List PyData} {xs ys:List V},af nb H ds xs->af nb H es ys->af nb H (ds++es) (xs++ys)
 |[],_,_,_,h,h'=>by unfold af at h;subst h;exact h'
 |e::ds,es,_,zs,h,h'=>by unfold af at h;obtain⟨y,ys,rfl,h1,h2⟩:=h;show af nb H (e::(ds++es)) _;unfold af;exact⟨y,ys++zs,rfl,h1,af.append h2 h'⟩
theorem af.take:∀{ds:List PyData} {xs:List V} (n:Nat),af nb H ds xs->af nb H (ds.take n) (xs.take n)
 |_,_,0,_=>by simp only[List.take_zero];unfold af;rfl
 |[],_,n+1,h=>by unfold af at h;subst h;simp only[List.take_nil];unfold af;rfl
 |d::ds,_,n+1,h=>by unfold af at h;obtain⟨y,ys,rfl,h1,h2⟩:=h;simp only[List.take_succ_cons];unfold af;exact⟨y,_,rfl,h1,af.take n h2⟩
theorem af.drop:∀{ds:List PyData} {xs:List V} (n:Nat),af nb H ds xs->af nb H (ds.drop n) (xs.drop n)
 |_,_,0,h=>h
 |[],_,n+1,h=>by unfold af at h;subst h;simp only[List.drop_nil];unfold af;rfl
 |d::ds,_,n+1,h=>by unfold af at h;obtain⟨y,ys,rfl,h1,h2⟩:=h;simp only[List.drop_succ_cons];exact af.drop n h2
def af.nil:af nb H [] []:=by unfold af;rfl
def af.cons{d:PyData}{x:V}{ds:List PyData}{xs:List V}(h1:ah nb H d x)(h2:af nb H ds xs):af nb H (d::ds) (x::xs):=by unfold af;exact⟨x,xs,rfl,h1,h2⟩
theorem ah.int(i:Int):ah nb H (.int i) (.int i):=by unfold ah;rfl
theorem ah.aL:ah nb H .none .aL:=by unfold ah;rfl
theorem ah.bl(b:Bool):ah nb H (.bool b) (.bl b):=by unfold ah;rfl
theorem ah.lst{a:ax}{ds:List PyData}{xs:List V}(n:¬nb a)(h:H a=some (.lst xs))(hd:af nb H ds xs):ah nb H (.list ds) (.ref a):=by unfold ah;exact⟨a,xs,rfl,n,h,hd⟩
theorem ah.tup{a:ax}{ds:List PyData}{xs:List V}(n:¬nb a)(h:H a=some (.tup xs))(hd:af nb H ds xs):ah nb H (.tuple ds) (.ref a):=by unfold ah;exact⟨a,xs,rfl,n,h,hd⟩
def ah.dZ{v:V}(h:ah nb H (.list ds) v):∃a xs,v= .ref a/\¬nb a/\H a=some (.lst xs)/\af nb H ds xs:=by unfold ah at h;exact h
def ah.ofT{v:V}(h:ah nb H (.tuple ds) v):∃a xs,v= .ref a/\¬nb a/\H a=some (.tup xs)/\af nb H ds xs:=by unfold ah at h;exact h
def ah.cV{v:V}{i:Int}(h:ah nb H (.int i) v):v= .int i:=by unfold ah at h;exact h
def ah.yu{v:V}(h:ah nb H .none v):v= .aL:=by unfold ah at h;exact h
end
def WM:Sp:=λvs H Q _=>∃i:Int,vs=[.int i]/\Q (.bl true) H
def yX(K:PySem.W.Frag):Sp:=λvs H Q _=>∃(a:ax) (ns:List Int),vs=[.ref a]/\bw K H a (ns.map V.int)/\ns.length<=63/\∀H',Q (.bl true) H'
def Hg(Q:VK):List V->Hp->Prop:=λxs H1=>xs.length<=sizeLine/\∀p,H1 p=none->Q (.ref p) (upd H1 p (.lst xs))
def nG(K:PySem.W.Frag):List V->Hp->VK->Prop:=λxs H Q=>∃p ys,xs=[.ref p]/\(bw K H p ys\/fE K H p ys)/\∀l,H l=none->Q (.ref l) (upd H l (.lst ys))
def ue:fT X (.type "list") (nG X.K):=OU
def Qu:R2:=λx y H Q=>y= .aL/\Q (.bl (decide (x= .aL))) H
def Bv:R2:=λx y H Q=>y= .aL/\Q (.bl (!decide (x= .aL))) H
def qG:c9 X (du .Is) Qu:=aga
def qA:c9 X (du .IsNot) Bv:=Xc
noncomputable def intOf:eM->Option Int
 | .Constant (.int i) _ _=>some i
 |_=>none
def IH{i:Int}(h:intOf e=some i):∃k p,e= .Constant (.int i) k p:=by
 unfold intOf at h;split at h;·cases h;exact⟨_,_,rfl⟩
 .cases h
noncomputable def qS:List eM->Option (List Int)
 |[]=>some []
 |e::r=>(intOf e).bind λi=>(qS r).map (i:: ·)
def Ce(is:List Int):TA:=λ_ H Q=>Q (is.map V.int) H
def Ft:∀{es:List eM} {is:List Int},qS es=some is->PA X es (Ce is):=by
  intro es;induction es with
  | nil =>
    intro is h;have e:is=[]:=by simpa[qS] using h.symm
    subst e;exact ai
  | cons e r ih =>
    intro is h;unfold qS at h;cases hi:intOf e with
    |none=>rw[hi] at h;cases h
    | some i =>
      rw[hi] at h;obtain⟨k,p,rfl⟩:=IH hi;obtain⟨a,hj,rfl⟩:=lH.mp (show(qS r).map (i:: ·)=some is from h);exact aa (te:=tC (.int i)) (t:=Ce a) aj (ih hj)
def aem{X:Cx}{i:Nat}{x:Str}{es:List eM}{is:List Int}{j p2 u:Pos}(hN:X.N.Nodup)(hi:X.N[i]?=some x)(hx:Loc X.env.scope x)(h:qS es=some is)(hf:X.fn x=true\/X.env.scope.names.lookup x=some .local):
  PS X (.Assign [.Name x j] (.List es p2) u) (gD (qw (Ce is)) (gZ i)):=aO hN hi hx (fc (Ft h)) rfl hf
namespace R
section
variable{σ:qr}{H:Hp}{Q:VK}{D:Ends}{ta tb te:TE}{K:PySem.W.Frag}
def seq{t u:TS}(h:t {D with nx:=u D} σ H):qW t u D σ H:=h
def asg(h:te σ H λx H1=>g x σ H1 D.nx):gD te g D σ H:=h
def pC{c:TT}{t u:TS}(h:c σ H λb H1=>if b=true then t D σ H1 else u D σ H1):JE c t u D σ H:=h
def ret(h:te σ H D.rt):nZ te D σ H:=h
def drop(h:te σ H λ_ H1=>D.nx σ H1):vI te D σ H:=h
def next(h:D.nx σ H):G6 D σ H:=h
def var{v:V}(e:σ[i]?=some (some v))(h:Q v H):dD i σ H Q:=⟨v,e,h⟩
def c{v:V}(h:Q v H):tC v σ H Q:=h
def op{r:R2}(h:ta σ H λx H1=>tb σ H1 λy H2=>r x y H2 Q):dP r ta tb σ H Q:=h
def test{q:Bool->Hp->Prop}(h:te σ H λx H'=>∃k,x= .bl k/\q k H'):A6 te σ H q:=h
theorem bl{P:Bool->Prop}{b:Bool}(h:P b):∃k,V.bl b= .bl k/\P k:=⟨b,rfl,h⟩
def and{t u:TT}{q:Bool->Hp->Prop}(h:t σ H λc H1=>if c=true then u σ H1 q else q false H1):Gz t u σ H q:=h
def cb{r:List V->Hp->VK->Prop}(h:t σ H λvs H1=>r vs H1 Q):gv r t σ H Q:=h
def call(h:t σ H λvs H1=>sp (vs++[]) H1 Q E0):gY sp [] E0 t σ H Q:=h
def nil{q:List V->Hp->Prop}(h:q [] H):cI σ H q:=h
def cons{t:TA}{q:List V->Hp->Prop}(h:ta σ H λx H1=>t σ H1 λxs H2=>q (x::xs) H2):bN ta t σ H q:=h
def lst{t:TA}(h:t σ H (Hg Q)):qw t σ H Q:=h
def sl{r:V->Option Int->Option Int->Hp->VK->Prop}{tl th:TO}(h:te σ H λx H1=>tl σ H1 λl H2=>th σ H2 λu H3=>r x l u H3 Q):rP r te tl th σ H Q:=h
def afs{q:Option Int->Hp->Prop}(h:q none H):E3 σ H q:=h
def part{q:Option Int->Hp->Prop}(h:te σ H λx H1=>∃i,x= .int i/\q (some i) H1):DK te σ H q:=h
def UA{P:Int->Prop}{i:Int}(h:P i):∃j,V.int i= .int j/\P j:=⟨i,rfl,h⟩
def Kx{r:V->List V->Hp->VK->Prop}(h:te σ H λx H1=>sW K T x H1/\r x [] H1 Q):SY K T r te σ H Q:=h
def bm{r:V->List V->Hp->VK->Prop}(h:te σ H λx H1=>sW K T x H1/\t σ H1 λxs H2=>r x xs H2 Q):oq K T r te t σ H Q:=h
def ZL{i:Int}{A:Prop}(h:A):sW K "int" (.int i) H/\A:=⟨rfl,h⟩
def OQ{v:V}(h:q (σ.set i (some v)) H):gZ i v σ H q:=h
def ag1{to c:TE}{t:Bp}{v:V}(h:to σ H λo H1=>c σ H1 λi H2=>t o i v H2 λH3=>q σ H3):qq to c t v σ H q:=h
def L9{t:TG}{u:jC}{v:V}{r:List V}(h:t v σ H λL H'=>u r L H' q):Er t u (v::r) σ H q:=⟨v,r,rfl,h⟩
def ahf(h:q σ H):Hr [] σ H q:=⟨rfl,h⟩
def VJ{t:jC}(hq:fE K H a xs)(hl:xs.length=n)(h:t xs σ H q):Ak K n t (.ref a) σ H q:=⟨a,xs,rfl,hq,hl,h⟩
def oG{q:Bool->Hp->Prop}(h:q true H):p9 σ H q:=h
theorem jz{g:Int->Int->V}{i j:Int}(h:Q (g i j) H):L2.jz g (.int i) (.int j) H Q:=⟨i,j,rfl,rfl,h⟩
theorem rI{C:Int->Int->Prop}{g:Int->Int->V}{i j:Int}(hc:C i j)(h:Q (g i j) H):L2.rI C g (.int i) (.int j) H Q:=⟨i,j,rfl,rfl,hc,h⟩
def FA{i j:Int}:decide (V.int i=V.int j)=decide (i=j):=by rw[lq];simp
def Pl{i j:Int}(h:Q (.bl (decide (i=j))) H):IF (.int i) (.int j) H Q:=⟨rfl,by rw[FA];exact h⟩
def Xn{i j:Int}(h:Q (.bl (decide (i≠j))) H):Hu (.int i) (.int j) H Q:=⟨rfl,by rw[FA,<-decide_not];exact h⟩
def Rv{i:Int}(h:Q (.bl true) H):Bv (.int i) .aL H Q:=⟨rfl,by rw[decide_eq_false (λe=>V.noConfusion e)];exact h⟩
def Mf(h:Q (.bl false) H):Bv .aL .aL H Q:=⟨rfl,by rw[decide_eq_true rfl];exact h⟩
def yi{p:ax}{i:Int}{v:V}(hp:H p=some (.lst xs))(e:bU xs i=some v)(h:Q v H):cB K (.ref p) (.int i) H Q:=⟨p,xs,i,v,rfl,rfl,bw.of hp,e,h⟩
def Pw{p:ax}{o:HO}{i:Int}{v:V}(e:bU xs i=some v)(h:Q v (upd H p (.lst xs))):cB K (.ref p) (.int i) (upd H p (.lst xs)) Q:=⟨p,xs,i,v,rfl,rfl,bw.of bB,e,h⟩
def setM{p:ax}{k:Int}{v:V}{q:Hp->Prop}(hp:H p=some (.lst xs))(e:iR xs.length k=some j)(h:q (upd H p (.lst (xs.set j v)))):v7 (.ref p) (.int k) v H q:=⟨p,xs,k,j,rfl,rfl,hp,e,h⟩
def WI{p:ax}{k:Int}{v:V}{q:Hp->Prop}(e:iR xs.length k=some j)(h:q (upd H p (.lst (xs.set j v)))):v7 (.ref p) (.int k) v (upd H p (.lst xs)) q:=
 ⟨p,xs,k,j,rfl,rfl,bB,e,by rw[EI];exact h⟩
def U3{p:ax}{P:List V->Prop}(hp:H p=some (.lst xs))(h:P xs):∃a ys,[V.ref p]=[.ref a]/\(bw K H a ys\/fE K H a ys)/\P ys:=⟨p,xs,rfl, .inl (bw.of hp),h⟩
def RS{p:ax}{lo hi:Option Int}(hp:bw K H p xs)(h:∀a,H a=none->Q (.ref a) (upd H a (.lst (mR xs lo hi)))):jZ K (.ref p) lo hi H Q:=⟨p,xs,rfl,hp,h⟩
def TK{a:Int}{P:Int->Prop}(h:P a):∃i,[V.int a]=[.int i]/\P i:=⟨a,rfl,h⟩
def bits{i:Int}{P:Int->Prop}(h:P i):∃j,V.int i= .int j/\([]:List V)=[]/\P j:=⟨i,rfl,rfl,h⟩
def T9(h:xs.length<=10000)(q:∀p H',cT H H'->H p=none->H' p=some (.lst xs)->Q (.ref p) H'):Hg Q xs H:=
 ⟨eu h ⋯,λp hp=>q p _ (dw hp) hp bB⟩
def gn{c A B:Prop}[Decidable c](h:c)(q:A):if c then A else B:=by rw[if_pos h];exact q
def KU{c A B:Prop}[Decidable c](h:¬c)(q:B):if c then A else B:=by rw[if_neg h];exact q
def dT{c:Prop}[Decidable c](h:c):decide c=true:=decide_eq_true h
def dF{c:Prop}[Decidable c](h:¬c):¬decide c=true:=by rw[decide_eq_false h];exact cC
def KS{c:Prop}[Decidable c](h:¬c):(!decide c)=true:=by rw[decide_eq_false h];rfl
def Rz{c:Prop}[Decidable c](h:c):¬(!decide c)=true:=by rw[decide_eq_true h];decide
def ZS{R:It->Hp->Prop}(h:t σ H λvs H1=>∃j:Int,vs=[.int j]/\ -(2^62)<=j/\j<2^62/\R (jI 0 j.toNat) H1):CB t σ H R:=h
def Vg{P:Int->Prop}{i:Int}(h1: -(2^62)<=i)(h2:i<2^62)(h:P i):∃j:Int,[V.int i]=[.int j]/\ -(2^62)<=j/\j<2^62/\P j:=⟨i,rfl,h1,h2,h⟩
def Qk{R:It->Hp->Prop}(h:t σ H λvs H1=>∃i j:Int,vs=[.int i, .int j]/\(-(2^62)<=i/\i<2^62/\ -(2^62)<=j/\j<2^62)/\R (jI i (j-i).toNat) H1):Nr t σ H R:=h
def Ws{P:Int->Int->Prop}{a b:Int}(h1: -(2^62)<=a/\a<2^62/\ -(2^62)<=b/\b<2^62)(h:P a b):∃i j:Int,[V.int a,V.int b]=[.int i, .int j]/\(-(2^62)<=i/\i<2^62/\ -(2^62)<=j/\j<2^62)/\P i j:=⟨a,b,rfl,h1,h⟩
def iL{R:It->Hp->Prop}(h:tl σ H λx H1=>∃a,x= .ref a/\(∃xs,bw K H1 a xs)/\R (qD K a) H1):oU K tl σ H R:=h
def xX{P:ax->Prop}{p:ax}(hp:bw K H p xs)(h:P p):∃a,V.ref p= .ref a/\(∃xs,bw K H a xs)/\P a:=⟨p,rfl,⟨xs,hp⟩,h⟩
def TC{F:TI}{tb:TS}(h:F σ H λJ H1=>∃W:Nat->Nat->qr->Hp->Prop,(∃m,W 0 m σ H1)/\∀i m σ H,W i m σ H->
 (J.stop i H/\D.nx σ H)\/(J.go i H/\∃N:qr->Hp->Prop,(∀L H',N L H'->∃m',m'<m/\W (i+1) m' L H')/\∀x H',J.qM i H x H'->g x σ H' λk H2=>tb {D with nx:=N,ct:=N,bk:=D.nx} k H2)):wX F g tb D σ H:=h
def comp{F:TI}(h:F σ H λJ H1=>∀acc,H1 acc=none->pB J g tc te acc (λH'=>Q (.ref acc) H') (fV mp σ) (upd H1 acc (.lst []))):jW F g tc te mp σ H Q:=h
end
theorem O2{lo:Int}(Pv:Nat->qr->Hp->Prop)(h0:Pv 0 σ H)
  (hs:∀i σ H,i<n->Pv i σ H->g (.int (lo+i)) σ H λk H2=>tc k H2 λb H3=>if b=true then te k H3 λv H4=>∃ys,H4 acc=some (.lst ys)/\ys.length<sizeLine/\Pv (i+1) k (upd H4 acc (.lst (ys++[v]))) else Pv (i+1) k H3)
  (hd:∀σ H,Pv n σ H->d H):pB (jI lo n) g tc te acc d σ H:=by
 refine⟨λi m σ H=>m=n-i/\i<=n/\Pv i σ H,⟨n,by simp,eT _,h0⟩,?_⟩;rintro i m σ H ⟨rfl,hi,p⟩;by_cases hlt:i<n
 .refine .inr ⟨hlt,Pv (i+1),λL H' j=>⟨n-(i+1),∅,rfl,hlt,j⟩,λx H' y=>?_⟩;obtain⟨e,y⟩:=y;subst e y;exact hs i σ _ hlt p
 .have e:i=n:=∅
  subst e;exact .inl ⟨aH _,hd σ H p⟩
theorem FZ{K:PySem.W.Frag}(Pv:Nat->qr->Hp->Prop)(h0:Pv 0 σ H)(hl:∀i σ H,i<=xs.length->Pv i σ H->bw K H a xs)
  (hs:∀i x σ H,xs[i]?=some x->Pv i σ H->g x σ H λk H2=>tc k H2 λb H3=>if b=true then te k H3 λv H4=>∃ys,H4 acc=some (.lst ys)/\ys.length<sizeLine/\Pv (i+1) k (upd H4 acc (.lst (ys++[v]))) else Pv (i+1) k H3)
  (hd:∀σ H,Pv xs.length σ H->d H):pB (qD K a) g tc te acc d σ H:=by
 refine⟨λi m σ H=>m=xs.length-i/\i<=xs.length/\Pv i σ H,⟨xs.length,by simp,eT _,h0⟩,?_⟩;rintro i m σ H ⟨rfl,hi,p⟩;have q:=hl i σ H hi p;by_cases hlt:i<xs.length
 .refine .inr ⟨⟨xs,xs[i],q,by simp[hlt]⟩,Pv (i+1),λL H' j=>⟨xs.length-(i+1),∅,rfl,hlt,j⟩,λx H' y=>?_⟩;obtain⟨e,y⟩:=y;subst e;exact hs i x σ _ (y xs q) p
 .have e:i=xs.length:=∅
  subst e;exact .inl ⟨⟨xs,q,aH _⟩,hd σ H p⟩
end R
@[reducible] noncomputable def F1(pr:Int×Int):PyData:= .tuple [.int pr.1, .int pr.2]
noncomputable def bJ:Option Int->PyData
 |none=> .none
 |some i=> .int i
noncomputable def kI:Option Int->V
 |none=> .aL
 |some i=> .int i
noncomputable def iS(wd:List (Option Int))(pr:Int×Int):Int:=match wd[pr.1.toNat]? with
 |some (some x)=>pr.2*x
 |_=>0
noncomputable def aT(prs:List (Int×Int))(wd:List (Option Int)):Int:=(prs.map (iS wd)).sum
def Na{prs:List (Int×Int)}{wd:List (Option Int)}(h:i<prs.length):aT (prs.take (i+1)) wd=aT (prs.take i) wd+iS wd prs[i]:=by
 unfold aT;rw[Dt,aS h,bh,HG];simp
def Pm{o:Option Int}{v:V}(h:ah nb H (bJ o) v):v=kI o:=by
 cases o with
 |none=>exact h.yu
 |some i=>exact h.cV
theorem IJ{nb:ax->Prop}{H:Hp}:∀{wd:List (Option Int)} {xs:List V},af nb H (wd.map bJ) xs->xs=wd.map kI
  |[],_,h=>by unfold cf af at h;exact h
  | o :: wd, _, h => by
    rw[aZ] at h;unfold af at h;obtain⟨y,ys,rfl,h1,h2⟩:=h;rw[aZ,Pm h1,IJ h2]
def U4{v:V}(h:ah nb H (F1 pr) v):∃t,v= .ref t/\¬nb t/\H t=some (.tup [.int pr.1, .int pr.2]):=by
 obtain⟨t,xs,rfl,n,ht,hd⟩:=h.ofT;unfold af at hd;obtain⟨y,ys,rfl,h1,h2⟩:=hd;unfold af at h2;obtain⟨z,zs,rfl,h3,h4⟩:=h2;unfold af at h4;subst h4;rw[h1.cV,h3.cV] at ht;exact⟨t,rfl,n,ht⟩
def Bj:Sp:=λvs H Q _=>∃(nb:ax->Prop) (p:Int) (d b:V) (prs:List (Int×Int)) (wd:List (Option Int)),vs=[.int p,d,b]/\ah nb H (.list (prs.map F1)) d/\ah nb H (.list (wd.map bJ)) b/\0<p/\
 (∀pr∈prs,0<=pr.1/\pr.1<wd.length/\Sm pr.2)/\(∀x,some x∈wd->Sm x)/\Q (.int (aT prs wd%p)) H
def Yd(wd:List (Option Int)):ee (wd.map bJ)=0/\df (wd.map bJ)=true:=by
 induction wd with
 |nil=>simp[ee,df]
 |cons a r ih=>cases a<;>simp[bJ,ee,il,df,ek,ih.2,ih.1]
def BI(r:Int):Prop:=∀d:Int,2<=d->d*d<=r->r%d≠0
noncomputable def B4:List Int:=[2,3,5,7,2,11,101,10007,65537,1000003,998244353,1000000007,2147483647,1000000000039,1000000000000000003,18446744073709551557,2305843009213693951,618970019642690137449562111,162259276829213363391578010288127,170141183460469231731687303715884105727,1000000000000000000000000000000000000003,9999999999999999999999999999999999999983]
def Gr:Sp:=λvs H Q _=>∃n:Int,vs=[.int n]/\2<=n/\n<=10002/\∀(r:Int) (H':Hp),cT H H'->2<=r->r<=10100->BI r->Q (.int r) H'
def zX(wd:List Int)(ld:List (Option Int)):Prop:=ld.length=wd.length/\∀(i:Nat) x,ld[i]?=some (some x)->wd[i]?=some x
theorem De{nb:ax->Prop}{H:Hp}:∀is:List Int,af nb H (is.map bj) (is.map V.int)
 |[]=>af.nil
 |i::is=>af.cons (.int i) (De is)
theorem LS:∀ds:List PyData,(∀(i:Nat) d,ds[i]?=some d->∃o:Option Int,d=bJ o)->∃ld:List (Option Int),ds=ld.map bJ
  |[],_=>⟨[],rfl⟩
  | d :: ds, h => by
    obtain⟨o,rfl⟩:=h 0 d rfl;obtain⟨ld,rfl⟩:=LS ds λi e he=>h (i+1) e (by simpa using he);exact⟨o::ld,rfl⟩
def ad0{wd:List Int}(ds:List PyData)(hl:ds.length=wd.length)(h:∀(i:Nat) d,ds[i]?=some d->d= .none\/∃x,wd[i]?=some x/\d= .int x):∃ld:List (Option Int),ds=ld.map bJ/\zX wd ld:=by
 obtain⟨ld,rfl⟩:=LS ds λi d hd=>by
  rcases h i d hd with e|⟨x,_,e⟩
  .exact⟨none,e⟩
  .exact⟨some x,e⟩
 refine⟨ld,rfl,by simpa using hl,λi x hx=>?_⟩;rcases h i (.int x) (by rw[cS,hx];rfl) with e|⟨y,hy,e⟩
 .cases e
 .cases e;exact hy
theorem A8{nb:ax->Prop}{H:Hp}:∀{is:List Int} {xs:List V},af nb H (is.map bj) xs->xs=is.map V.int
  |[],_,h=>by unfold cf af at h;exact h
  | i :: is, _, h => by
    rw[aZ] at h;unfold af at h;obtain⟨y,ys,rfl,h1,h2⟩:=h;rw[aZ,h1.cV,A8 h2]
def Qr{wd:List Int}{ld:List (Option Int)}(h:zX wd ld){x:Int}(hx:some x∈ld):x∈wd:=by
 obtain⟨i,hi⟩:=jS hx;exact bP (h.2 i x hi)
noncomputable abbrev Bg:=Option (ax×ax)
def NB(B:Bg)(a:ax):Prop:=∀b l,B=some (b,l)->a≠b
def kJ(B:Bg)(H:Hp):Prop:=∀b l,B=some (b,l)->fh H b l
def iX(nb:ax->Prop)(H:Hp):Prop:=∀a,nb a->H a≠none
structure Kp(S:ax->Prop)(F:List ax)(H H':Hp):Prop where
 own:∀a∈F,∀o,H a=some o->H' a=some o
 lst:∀a xs,¬S a->H a=some (.lst xs)->H' a=some (.lst xs)
 tup:∀a xs,¬S a->H a=some (.tup xs)->H' a=some (.tup xs)
 cE:∀a ps,¬S a->Rd H a (.dK ps)->Rd H' a (.dK ps)
def Kp.of{S:ax->Prop}{F:List ax}(h:∀a o,(¬S a\/a∈F)->H a=some o->H' a=some o):Kp S F H H':=
 ⟨λa ha o e=>h a o (.inr ha) e,λa xs n e=>h a _ (.inl n) e,λa xs n e=>h a _ (.inl n) e,λa ps n e=>e.elim (λe=> .inl (h a _ (.inl n) e)) λ⟨o,e⟩=> .inr ⟨o,h a _ (.inl n) e⟩⟩
mutual
theorem ah.kp{S:ax->Prop}{F:List ax}{H H':Hp}(m:Kp S F H H'):∀{d:PyData} {v:V},ah S H d v->ah S H' d v
 | .none,_,h=>by unfold ah at h⊢;exact h
 | .bool _,_,h=>by unfold ah at h⊢;exact h
 | .int _,_,h=>by unfold ah at h⊢;exact h
 | .str _,_,h=>by unfold ah at h⊢;exact h
 | .list ds,_,h=>by unfold ah at h⊢;obtain⟨a,xs,e,n,s,r⟩:=h;exact⟨a,xs,e,n,m.lst _ _ n s,af.kp m r⟩
 | .tuple ds,_,h=>by unfold ah at h⊢;obtain⟨a,xs,e,n,s,r⟩:=h;exact⟨a,xs,e,n,m.tup _ _ n s,af.kp m r⟩
 | .dict kvs,_,h=>by unfold ah at h⊢;obtain⟨a,xs,e,n,s,r⟩:=h;exact⟨a,xs,e,n,m.cE _ _ n s,aB.kp m r⟩
theorem af.kp{S:ax->Prop}{F:List ax}{H H':Hp}(m:Kp S F H H'):∀{ds:List PyData} {vs:List V},af S H ds vs->af S H' ds vs
 |[],_,h=>by unfold af at h⊢;exact h
 |d::ds,_,h=>by unfold af at h⊢;obtain⟨y,ys,e,h1,h2⟩:=h;exact⟨y,ys,e,ah.kp m h1,af.kp m h2⟩
theorem aB.kp{S:ax->Prop}{F:List ax}{H H':Hp}(m:Kp S F H H'):∀{ds:List (PyData×PyData)} {vs:List (Key×V)},aB S H ds vs->aB S H' ds vs
 |[],_,h=>by unfold aB at h⊢;exact h
 |d::ds,_,h=>by unfold aB at h⊢;obtain⟨y,ys,e,h1,h2⟩:=h;exact⟨y,ys,e,cX.kp m h1,aB.kp m h2⟩
theorem cX.kp{S:ax->Prop}{F:List ax}{H H':Hp}(m:Kp S F H H'):∀{d:PyData×PyData} {v:Key×V},cX S H d v->cX S H' d v
 |(k,d),_,h=>by unfold cX at h⊢;exact⟨h.1,ah.kp m h.2⟩
end
structure Cu where
 v:V
 F:List ax
 f:Bool
 P:(ax->Prop)->Hp->Prop
 keep:∀{S:ax->Prop} {H H':Hp},Kp S F H H'->P S H->P S H'
 av:∀{S S':ax->Prop} {H:Hp},(∀a,S' a->S a)->P S H->P S' H
 fresh:∀{S:ax->Prop} {H:Hp} {p:ax},H p=none->P S H->P (λa=>S a\/a=p) H
inductive HD where
 |d (x:PyData)|fz (o:Obj) (ps:List (Key×V))|th (c:Cu)
def gR(S:ax->Prop)(H:Hp):HD->V->Prop
 | .d x,v=>ah S H x v
 | .fz o ps,v=>∃a,v= .ref a/\¬S a/\H a=some (.iJ o (.dK ps))
 | .th c,v=>v=c.v/\(∀a∈c.F,¬S a/\H a≠none)/\c.P S H
theorem gR.keep{S:ax->Prop}{H H':Hp}{x:HD}{v:V}(h:gR S H x v)(b:bu S H H'):gR S H' x v:=by
  cases x with
  |d x=>exact ah.keep b h
  |fz o ps=>obtain⟨a,e,n,q⟩:=h;exact⟨a,e,n,b _ _ n q⟩
  | th c =>
    obtain⟨e,n,q⟩:=h;refine⟨e,λa m=>⟨(n a m).1,?_⟩,c.keep (.of λa o m q=>b a o (m.elim id λm=>(n a m).1) q) q⟩;cases z:H a with
    |none=>exact absurd z (n a m).2
    |some o=>rw[b a o (n a m).1 z];exact gy _
theorem gR.av{S S':ax->Prop}{H:Hp}{x:HD}{v:V}(h:gR S H x v)(b:∀a,S' a->S a):gR S' H x v:=by
 cases x with
 |d x=>exact ah.av b h
 |fz o ps=>obtain⟨a,e,n,q⟩:=h;exact⟨a,e,λz=>n (b a z),q⟩
 |th c=>obtain⟨e,n,q⟩:=h;exact⟨e,λa m=>⟨λz=>(n a m).1 (b a z),(n a m).2⟩,c.av b q⟩
theorem gR.fresh{S:ax->Prop}{H:Hp}{x:HD}{v:V}{p:ax}(h:gR S H x v)(hp:H p=none):gR (λa=>S a\/a=p) H x v:=by
 cases x with
 |d x=>exact ah.fresh hp h
 |fz o ps=>obtain⟨a,e,n,q⟩:=h;exact⟨a,e,λz=>z.elim n (ja q hp),q⟩
 |th c=>obtain⟨e,n,q⟩:=h;exact⟨e,λa m=>⟨λz=>z.elim (n a m).1 λy=>(n a m).2 (by rw[y];exact hp),(n a m).2⟩,c.fresh hp q⟩
structure Gx where
 B:Bg
 H0:Hp
 A:ax->Prop
 hold:List (Bool×HD×V):=[]
inductive Sl where
 |no|d (f:Bool) (d:PyData)|own (a:ax) (f:Bool) (ds:List PyData)|az|raw (v:V)|cE (a:ax) (f:Bool) (ks:List (Int×PyData))|cu (c:Cu)
noncomputable def Sl.adr:Sl->List ax
 | .own a _ _=>[a]
 | .cE a _ _=>[a]
 | .cu c=>c.F
 |_=>[]
@[reducible] noncomputable def jn(p:Int×PyData):PyData×PyData:=(.int p.1,p.2)
noncomputable abbrev Rh:=List Sl
def Gx.S(G:Gx)(nb:ax->Prop)(f:Bool):ax->Prop:=λa=>nb a\/G.A a\/¬NB G.B a\/(f=true/\G.H0 a≠none)
def qy(G:Gx)(nb:ax->Prop)(H:Hp)(x:Option V):Sl->Prop
 | .no=>True
 | .d f d=>∃v,x=some v/\ah (G.S nb f) H d v
 | .own a f ds=>x=some (.ref a)/\nb a/\NB G.B a/\∃xs,H a=some (.lst xs)/\af (G.S nb f) H ds xs
 | .az=>∃b l,G.B=some (b,l)/\x=some (.ref b)
 | .raw v=>x=some v
 | .cE a f ks=>x=some (.ref a)/\nb a/\NB G.B a/\∃ps,H a=some (.dK ps)/\aB (G.S nb f) H (ks.map jn) ps
 | .cu c=>x=some c.v/\(∀a∈c.F,nb a/\NB G.B a)/\c.P (G.S nb c.f) H
structure Wd(G:Gx)(nb:ax->Prop)(ρ:Rh)(σ:qr)(H:Hp):Prop where
 az:kJ G.B H
 live:iX nb H
 old:∀a o,NB G.B a->G.H0 a=some o->H a=some o
 dY:∀a,nb a->NB G.B a->G.H0 a=none
 gA:iX G.A G.H0
 len:σ.length=ρ.length
 gB:kJ G.B G.H0
 fL:∀h∈G.hold,gR (G.S nb h.1) H h.2.1 h.2.2
 ok:∀(i:Nat) (s:Sl),ρ[i]?=some s->∃x,σ[i]?=some x/\qy G nb H x s
 apart:∀(i j:Nat) a f as c g cs,i≠j->ρ[i]?=some (.own a f as)->ρ[j]?=some (.own c g cs)->a≠c
 g9:∀(i j:Nat) a f as c g cs,i≠j->ρ[i]?=some (.cE a f as)->ρ[j]?=some (.cE c g cs)->a≠c
 fu:∀(i j:Nat) c s,i≠j->ρ[i]?=some (.cu c)->ρ[j]?=some s->∀a∈c.F,a∉s.adr
def Step(B:Bg)(H H':Hp):Prop:=(∀a o,NB B a->H a=some o->H' a=some o)/\kJ B H'
section
variable{G:Gx}{B:Bg}{nb:ax->Prop}{ρ:Rh}{σ:qr}{H H1 H2 H':Hp}{f g:Bool}{d:PyData}{ds:List PyData}{v:V}{xs:List V}{a p:ax}
def Step.refl(h:kJ B H):Step B H H:=⟨λ_ _ _ e=>e,h⟩
def Step.trans(x:Step B H H1)(y:Step B H1 H2):Step B H H2:=⟨λa o n e=>y.1 a o n (x.1 a o n e),y.2⟩
theorem kJ.same(h:kJ B H)(s:cT H H'):kJ B H':=λb l e=>(h b l e).same s
theorem Step.same(h:kJ B H)(s:cT H H'):Step B H H':=⟨λa o _ e=>s a o e,h.same s⟩
def Step.but(s:Step B H H')(h:∀a,¬NB B a->aP a):bu aP H H':=λa o n e=>s.1 a o (jm λz=>n (h a z)) e
def Step.dX(s:Step G.B H H'):bu (G.S nb f) H H':=s.but λa h=> .inr (.inr (.inl h))
def cW(h:g=true->f=true){aP:ax->Prop}(hn:∀a,nb a->aP a):∀a,G.S nb g a->G.S aP f a:=by
 intro a z;rcases z with z|z|z|⟨z,q⟩
 .exact .inl (hn a z)
 .exact .inr (.inl z)
 .exact .inr (.inr (.inl z))
 .exact .inr (.inr (.inr ⟨h z,q⟩))
def NB.oX(h:kJ B H)(n:¬NB B a):H a≠none:=by
 intro e;apply n;intro b l hb z;subst z;obtain⟨_,_,_,_,_,h1,_⟩:=h _ _ hb;rw[h1] at e;cases e
def Wd.gF(W:Wd G nb ρ σ H):iX (G.S nb f) H:=by
 intro a z;rcases z with z|z|z|⟨_,z⟩
 .exact W.live a z
 .by_cases n:NB G.B a
  .cases e:G.H0 a with
   |none=>exact absurd e (W.gA a z)
   |some o=>rw[W.old a o n e];exact gy _
  .exact NB.oX W.az n
 .exact NB.oX W.az z
 .by_cases n:NB G.B a
  .cases e:G.H0 a with
   |none=>exact absurd e z
   |some o=>rw[W.old a o n e];exact gy _
  .exact NB.oX W.az n
def Wd.fresh(W:Wd G nb ρ σ H)(hp:H p=none):¬G.S nb f p:=λz=>W.gF p z hp
def qy.step{x:Option V}{s:Sl}(st:Step G.B H H')(h:qy G nb H x s):qy G nb H' x s:=by
  cases s with
  |no=>trivial
  |d f d=>obtain⟨v,e,h⟩:=h;exact⟨v,e,h.keep st.dX⟩
  |own a f ds=>obtain⟨e,n,q,xs,hx,hd⟩:=h;exact⟨e,n,q,xs,st.1 _ _ q hx,hd.keep st.dX⟩
  |az=>exact h
  |raw v=>exact h
  |cE a f ks=>obtain⟨e,n,q,xs,hx,hd⟩:=h;exact⟨e,n,q,xs,st.1 _ _ q hx,hd.keep st.dX⟩
  | cu c =>
    obtain⟨e,n,p⟩:=h;refine⟨e,n,c.keep (.of λa o ha e=>st.1 a o ?_ e) p⟩;rcases ha with ha|ha
    · exact jm λz=>ha (.inr (.inr (.inl z)))
    · exact(n a ha).2
def X2(n:NB B a)(st:Step B H H')(h:H a≠none):H' a≠none:=by
 cases e:H a with
 |none=>exact absurd e h
 |some o=>rw[st.1 a o n e];exact gy _
theorem Wd.step(W:Wd G nb ρ σ H)(st:Step G.B H H'):Wd G nb ρ σ H' where
 az:=st.2
 live:=λa n=>by
  by_cases q:NB G.B a;·exact X2 q st (W.live a n)
  .exact NB.oX st.2 q
 old:=λa o n e=>st.1 a o n (W.old a o n e)
 dY:=W.dY
 gA:=W.gA
 len:=W.len
 gB:=W.gB
 fL:=λh m=>(W.fL h m).keep st.dX
 ok:=λi s e=>by
  obtain⟨x,e1,h⟩:=W.ok i s e;exact⟨x,e1,h.step st⟩
 apart:=W.apart
 g9:=W.g9
 fu:=W.fu
theorem Wd.set{i:Nat}{s:Sl}{x:Option V}(W:Wd G nb ρ σ H)(h:qy G nb H x s)(hs:∀a f ds,s= .own a f ds->∀j c g cs,j≠i->ρ[j]?=some (.own c g cs)->a≠c)(hd:∀a f ds,s= .cE a f ds->∀j c g cs,j≠i->ρ[j]?=some (.cE c g cs)->a≠c:=by intro _ _ _ z;cases z)(d:∀a∈s.adr,∀j t,j≠i->ρ[j]?=some t->(∃c,s= .cu c)\/(∃c,t= .cu c)->a∉t.adr:=by intro _ z;cases z):Wd G nb (ρ.set i s) (σ.set i x) H where
 az:=W.az
 live:=W.live
 old:=W.old
 dY:=W.dY
 gA:=W.gA
 len:=by rw[jx,jx];exact W.len
 gB:=W.gB
 fL:=W.fL
 ok:=λj t e=>by
  by_cases hij:i=j
  .subst hij;have hl:i<ρ.length:=by have:=(bV.mp e).1;rwa[jx] at this
   rw[dB hl] at e;cases e;exact⟨x,dB (by rw[W.len];exact hl),h⟩
  .rw[bO hij] at e⊢;exact W.ok j t e
 apart:=λj k a f as c g cs b e1 e2=>by
  by_cases hj:i=j
  .subst hj;have hl:i<ρ.length:=by have:=(bV.mp e1).1;rwa[jx] at this
   rw[dB hl] at e1;cases e1;rw[bO b] at e2;exact hs a f as rfl k c g cs (cO b) e2
  .by_cases hk:i=k
   .subst hk;have hl:i<ρ.length:=by have:=(bV.mp e2).1;rwa[jx] at this
    rw[dB hl] at e2;cases e2;rw[bO hj] at e1;exact(hs c g cs rfl j a f as b e1).symm
   .rw[bO hj] at e1;rw[bO hk] at e2;exact W.apart j k a f as c g cs b e1 e2
 g9:=λj k a f as c g cs b e1 e2=>by
  by_cases hj:i=j
  .subst hj;have hl:i<ρ.length:=by have:=(bV.mp e1).1;rwa[jx] at this
   rw[dB hl] at e1;cases e1;rw[bO b] at e2;exact hd a f as rfl k c g cs (cO b) e2
  .by_cases hk:i=k
   .subst hk;have hl:i<ρ.length:=by have:=(bV.mp e2).1;rwa[jx] at this
    rw[dB hl] at e2;cases e2;rw[bO hj] at e1;exact(hd c g cs rfl j a f as b e1).symm
   .rw[bO hj] at e1;rw[bO hk] at e2;exact W.g9 j k a f as c g cs b e1 e2
 fu:=λj k c t b e1 e2 a ha=>by
  by_cases hj:i=j
  .subst hj;have hl:i<ρ.length:=by have:=(bV.mp e1).1;rwa[jx] at this
   rw[dB hl] at e1;cases e1;rw[bO b] at e2;exact d a ha k t (cO b) e2 (.inl ⟨c,rfl⟩)
  .by_cases hk:i=k
   .subst hk;have hl:i<ρ.length:=by have:=(bV.mp e2).1;rwa[jx] at this
    rw[dB hl] at e2;cases e2;rw[bO hj] at e1;exact λz=>d a z j (.cu c) b e1 (.inr ⟨c,rfl⟩) ha
   .rw[bO hj] at e1;rw[bO hk] at e2;exact W.fu j k c t b e1 e2 a ha
def Wd.pU(W:Wd G nb ρ σ H)(h:ah (G.S nb f) H d v):Wd G nb (ρ.set i (.d f d)) (σ.set i (some v)) H:=W.set ⟨v,rfl,h⟩ λ_ _ _ e=>by cases e
inductive Wk:Rh->Rh->Prop
 |nil:Wk [] []
 |no {s:Sl} {r r':Rh} (h:Wk r r'):Wk (.no::r) (s::r')
 |eq {s:Sl} {r r':Rh} (h:Wk r r'):Wk (s::r) (s::r')
theorem Wk.at:∀{r r':Rh} {i:Nat} {s:Sl},Wk r r'->r[i]?=some s->s= .no/\(∃t,r'[i]?=some t)\/r'[i]?=some s
 |_,_,_,_, .nil,e=>by simp at e
 |_,_,0,_, .no h,e=>by simp at e;subst e;exact .inl ⟨rfl,_,rfl⟩
 |_,_,0,_, .eq h,e=>by simp at e;subst e;exact .inr rfl
 |_,_,i+1,_, .no h,e=>by simpa using Wk.at (i:=i) h (by simpa using e)
 |_,_,i+1,_, .eq h,e=>by simpa using Wk.at (i:=i) h (by simpa using e)
def Wk.len{r r':Rh}(h:Wk r r'):r.length=r'.length:=by
 induction h with
 |nil=>rfl
 |no _ ih=>simp[ih]
 |eq _ ih=>simp[ih]
def Wd.wk{C:Rh}(W:Wd G nb C σ H)(h:Wk ρ C):Wd G nb ρ σ H where
 az:=W.az
 live:=W.live
 old:=W.old
 dY:=W.dY
 gA:=W.gA
 len:=by rw[h.len];exact W.len
 gB:=W.gB
 fL:=W.fL
 ok:=λi s e=>by
  rcases h.at e with ⟨rfl,t,e'⟩|e'
  .obtain⟨x,e1,_⟩:=W.ok i t e';exact⟨x,e1,trivial⟩
  .exact W.ok i s e'
 apart:=λi j a f as c g cs hij e1 e2=>by
  rcases h.at e1 with ⟨z,_⟩|nH
  .cases z
  rcases h.at e2 with ⟨z,_⟩|e2'
  .cases z
  exact W.apart i j a f as c g cs hij nH e2'
 g9:=λi j a f as c g cs hij e1 e2=>by
  rcases h.at e1 with ⟨z,_⟩|nH
  .cases z
  rcases h.at e2 with ⟨z,_⟩|e2'
  .cases z
  exact W.g9 i j a f as c g cs hij nH e2'
 fu:=λi j c s hij e1 e2 a ha=>by
  rcases h.at e1 with ⟨z,_⟩|nH
  .cases z
  rcases h.at e2 with ⟨z,_⟩|e2'
  .subst z;exact λz=>by cases z
  exact W.fu i j c s hij nH e2' a ha
def Wd.more(W:Wd G nb ρ σ H)(hp:H p=none){o:HO}:Wd G (λa=>nb a\/a=p) ρ σ (upd H p o):=by
 have M:cT H (upd H p o):=dw hp;have hN:NB G.B p:=λb l e z=>by
  subst z;obtain⟨_,_,_,_,_,h1,_⟩:=W.az _ _ e;rw[h1] at hp;cases hp
 have W':=W.step (Step.same W.az M);have hA:∀f a,G.S (λa=>nb a\/a=p) f a->(G.S nb f a\/a=p):=λf a z=>by
  rcases z with (z|z)|z|z|z
  .exact .inl (.inl z)
  .exact .inr z
  .exact .inl (.inr (.inl z))
  .exact .inl (.inr (.inr (.inl z)))
  .exact .inl (.inr (.inr (.inr z)))
 refine⟨W'.az,λa n=>?_,W'.old,λa n q=>?_,W.gA,W.len,W.gB,λh m=>(((W.fL h m).fresh hp).av (hA h.1)).keep (bu.of M),λi s e=>?_,W.apart,W.g9,W.fu⟩
 .rcases n with n|n
  .exact W'.live a n
  .subst n;rw[bB];exact gy _
 .rcases n with n|n
  .exact W.dY a n q
  .subst n;cases e:G.H0 a with
   |none=>rfl
   |some o=>rw[W.old a o q e] at hp;cases hp
 .obtain⟨x,e1,h⟩:=W.ok i s e;refine⟨x,e1,?_⟩;cases s with
  |no=>trivial
  |d f d=>obtain⟨v,e,h⟩:=h;exact⟨v,e,((h.fresh hp).av (hA f)).keep (bu.of M)⟩
  |own a f ds=>obtain⟨e,n,q,xs,hx,hd⟩:=h;exact⟨e, .inl n,q,xs,M _ _ hx,((hd.fresh hp).av (hA f)).keep (bu.of M)⟩
  |az=>exact h
  |raw v=>exact h
  |cE a f ds=>obtain⟨e,n,q,xs,hx,hd⟩:=h;exact⟨e, .inl n,q,xs,M _ _ hx,((hd.fresh hp).av (hA f)).keep (bu.of M)⟩
  |cu c=>obtain⟨e,n,q⟩:=h;exact⟨e,λa ha=>⟨.inl (n a ha).1,(n a ha).2⟩,c.keep (.of λa o _ e=>M a o e) (c.av (hA c.f) (c.fresh hp q))⟩
def Wd.write(W:Wd G nb ρ σ H){o:HO}(hp:nb p)(hN:NB G.B p)(ho:∀(i:Nat) a f ds,ρ[i]?=some (.own a f ds)->a≠p)(g:∀(i:Nat) a f ds,ρ[i]?=some (.cE a f ds)->a≠p)(t:∀(i:Nat) c,ρ[i]?=some (.cu c)->p∉c.F):Wd G nb ρ σ (upd H p o):=by
  have hl:∀b l,G.B=some (b,l)->p≠l:=λb l e z=>by
    obtain⟨_,_,_,_,_,_,h2,_⟩:=W.gB b l e;rw[<-z,W.dY p hp hN] at h2;cases h2
  have O:kJ G.B (upd H p o):=λb l e=>(W.az b l e).put2 ⟨hN b l e,hl b l e⟩;have bt:∀f,bu (G.S nb f) H (upd H p o):=λf=>bu.set (.inl hp);refine⟨O,λa n=>?_,λa o' n e=>?_,W.dY,W.gA,W.len,W.gB,λh m=>(W.fL h m).keep (bt h.1),λi s e=>?_,W.apart,W.g9,W.fu⟩
  · by_cases z:a=p
    · subst z;rw[bB];exact gy _
    · rw[br z];exact W.live a n
  · have z:a≠p:=λz=>by subst z;rw[W.dY a hp n] at e;cases e
    rw[br z];exact W.old a o' n e
  · obtain⟨x,e1,h⟩:=W.ok i s e
    refine⟨x,e1,?_⟩;cases s with
    |no=>trivial
    |d f d=>obtain⟨v,e,h⟩:=h;exact⟨v,e,h.keep (bt f)⟩
    |own a f ds=>obtain⟨e',n,q,xs,hx,hd⟩:=h;exact⟨e',n,q,xs,by rw[br (ho i a f ds e)];exact hx,hd.keep (bt f)⟩
    |az=>exact h
    |raw v=>exact h
    |cE a f ds=>obtain⟨e',n,q,xs,hx,hd⟩:=h;exact⟨e',n,q,xs,by rw[br (g i a f ds e)];exact hx,hd.keep (bt f)⟩
    | cu c =>
      obtain⟨e',n,q⟩:=h;refine⟨e',n,c.keep (.of λa o' ha j=>?_) q⟩;rw[br];· exact j
      · rintro rfl
        rcases ha with ha|ha
        · exact ha (.inl hp)
        · exact t i c e ha
end
abbrev Pd:=Bool->PyData->Prop
def Ev(G:Gx)(ρ:Rh)(te:TE)(Φ:Pd):Prop:=∀nb σ H (Q:VK),Wd G nb ρ σ H->(∀f v H' d,Φ f d->Step G.B H H'->ah (G.S nb f) H' d v->Q v H')->te σ H Q
def aq(G:Gx)(ρ:Rh)(te:TE)(Φ:Bool->List PyData->Prop):Prop:=∀nb σ H (Q:VK),Wd G nb ρ σ H->
 (∀f a xs H' ds,Φ f ds->Step G.B H H'->H a=none->H' a=some (.lst xs)->af (λx=>G.S nb f x\/x=a) H' ds xs->Q (.ref a) H')->te σ H Q
def Tv(G:Gx)(ρ:Rh)(tt:TT)(Φ:Bool->Prop):Prop:=∀nb σ H (Q:Bool->Hp->Prop),Wd G nb ρ σ H->(∀b H',Φ b->Step G.B H H'->Q b H')->tt σ H Q
def Ov(G:Gx)(ρ:Rh)(to:TO)(Φ:Option Int->Prop):Prop:=∀nb σ H (Q:Option Int->Hp->Prop),Wd G nb ρ σ H->(∀o H',Φ o->Step G.B H H'->Q o H')->to σ H Q
noncomputable abbrev Fd:=Bool×PyData
def lg(G:Gx)(nb:ax->Prop)(H:Hp):List Fd->List V->Prop
 |[],vs=>vs=[]
 |e::es,vs=>∃v ws,vs=v::ws/\ah (G.S nb e.1) H e.2 v/\lg G nb H es ws
def Av(G:Gx)(ρ:Rh)(ta:TA)(Φ:List Fd->Prop):Prop:=∀nb σ H (Q:List V->Hp->Prop),Wd G nb ρ σ H->(∀es vs H',Φ es->Step G.B H H'->lg G nb H' es vs->Q vs H')->ta σ H Q
def Gv(G:Gx)(ρ:Rh)(g:TG)(f:Bool)(d:PyData)(Φ:Rh->Prop):Prop:=∀nb σ H v (Q:qr->Hp->Prop),Wd G nb ρ σ H->ah (G.S nb f) H d v->(∀L C,Φ C->Wd G nb C L H->Q L H)->g v σ H Q
def nN(G:Gx)(ρ:Rh)(g:jC)(f:Bool)(ds:List PyData)(Φ:Rh->Prop):Prop:=∀nb σ H vs (Q:qr->Hp->Prop),Wd G nb ρ σ H->af (G.S nb f) H ds vs->(∀L C,Φ C->Wd G nb C L H->Q L H)->g vs σ H Q
structure DE where
 nx:Rh->Prop
 rt:Pd
 bk:Rh->Prop:=λ_=>False
 ct:Rh->Prop:=λ_=>False
 rw:(ax->Prop)->Rh->V->Hp->Prop:=λ_ _ _ _=>False
structure JY(G:Gx)(E:DE)(D:Ends):Prop where
 nx:∀nb ρ σ H,E.nx ρ->Wd G nb ρ σ H->D.nx σ H
 bk:∀nb ρ σ H,E.bk ρ->Wd G nb ρ σ H->D.bk σ H
 ct:∀nb ρ σ H,E.ct ρ->Wd G nb ρ σ H->D.ct σ H
 rt:∀nb ρ σ f v H d,E.rt f d->Wd G nb ρ σ H->ah (G.S (λ_=>False) f) H d v->D.rt v H
 rw:∀nb ρ σ v H,E.rw nb ρ v H->Wd G nb ρ σ H->D.rt v H
def Sv(G:Gx)(ρ:Rh)(b:TS)(E:DE):Prop:=∀nb σ H D,Wd G nb ρ σ H->JY G E D->b D σ H
noncomputable def iV:PyData->Bool
 | .none=>true| .bool _=>true| .int _=>true| .str _=>true|_=>false
noncomputable def toV:PyData->V
 | .bool b=> .bl b| .int i=> .int i| .str x=> .str x|_=> .aL
section
variable{nb aP:ax->Prop}{H H':Hp}{d e:PyData}{v:V}
def ah.sc(h:iV d=true):ah nb H d (toV d):=by
 cases d<;>first|(cases h;done)|(unfold ah;rfl)
def ah.aaj(h:iV d=true)(q:ah nb H d v):v=toV d:=by
 cases d<;>first|(cases h;done)|(unfold ah at q;exact q)
def ah.jj(h:iV d=true)(q:ah nb H d v):ah aP H' d v:=by
 rw[q.aaj h];exact .sc h
theorem af.jj:∀{ds:List PyData} {xs:List V},ds.all iV=true->af nb H ds xs->af aP H' ds xs
  |[],_,_,q=>by unfold af at q⊢;exact q
  | d :: ds, _, h, q => by
    rw[oJ,fQ] at h;unfold af at q⊢;obtain⟨y,ys,e,h1,h2⟩:=q;exact⟨y,ys,e,h1.jj h.1,af.jj h.2 h2⟩
end
section
variable{G:Gx}{ρ:Rh}{Φ Ψ:Pd}{ta tb te:TE}{t:TA}{i:Nat}{f g:Bool}{d e:PyData}{ds es:List PyData}{K:PySem.W.Frag}
def Ev.mono(h:Ev G ρ te Ψ)(q:∀f d,Ψ f d->Φ f d):Ev G ρ te Φ:=λnb σ H Q W z=>h nb σ H Q W λf v H' d p=>z f v H' d (q f d p)
def aq.ev(h:aq G ρ te λf ds=>Φ f (.list ds)):Ev G ρ te Φ:=λnb σ H Q W z=>h nb σ H Q W λf a xs H' ds p st n e hd=>
 z f _ H' _ p st (.lst (W.fresh n) e (hd.av λ_ x=> .inl x))
namespace Ev
def var(e:ρ[i]?=some (.d f d))(h:Φ f d):Ev G ρ (dD i) Φ:=λnb σ H Q W z=>by
 obtain⟨x,e1,v,rfl,hd⟩:=W.ok i _ e;exact⟨v,e1,z f v H d h (.refl W.az) hd⟩
theorem int{n:Int}(h:Φ true (.int n)):Ev G ρ (tC (.int n)) Φ:=λnb σ H Q W z=>z true _ H _ h (.refl W.az) (.int n)
theorem bl{b:Bool}(h:Φ true (.bool b)):Ev G ρ (tC (.bl b)) Φ:=λnb σ H Q W z=>z true _ H _ h (.refl W.az) (.bl b)
theorem aL(h:Φ true .none):Ev G ρ (tC .aL) Φ:=λnb σ H Q W z=>z true _ H _ h (.refl W.az) .aL
def lZ{r:R2}(h:Ev G ρ ta λf x=>Ev G ρ tb λg y=>∀nb σ H u v (Q:VK),Wd G nb ρ σ H->ah (G.S nb f) H x u->ah (G.S nb g) H y v->(∀f w H' d,Φ f d->Step G.B H H'->ah (G.S nb f) H' d w->Q w H')->r u v H Q):Ev G ρ (dP r ta tb) Φ:=λnb σ H Q W z=>
 h nb σ H _ W λf t H1 d1 j s1 J=>j nb σ H1 _ (W.step s1) λg n H2 d2 p2 s2 q2=>p2 nb σ H2 _ _ _ ((W.step s1).step s2) (J.keep s2.dX) q2 λf w H' d p st q=>z f w H' d p (s1.trans (s2.trans st)) q
theorem rI{C:Int->Int->Prop}{k:Int->Int->Int}(h:Ev G ρ ta λ_ x=>∃i,x= .int i/\Ev G ρ tb λ_ y=>∃j,y= .int j/\C i j/\Φ true (.int (k i j))):Ev G ρ (dP (L2.rI C λi j=> .int (k i j)) ta tb) Φ:=
 lZ (h.mono λf x ⟨i,ex,q⟩=>q.mono λg y ⟨j,o,hc,p⟩ nb σ H u v Q W hu hv z=>by
  subst ex o;exact⟨i,j,hu.cV,hv.cV,hc,z true _ H _ p (.refl W.az) (.int _)⟩)
theorem jz{k:Int->Int->Int}(h:Ev G ρ ta λ_ x=>∃i,x= .int i/\Ev G ρ tb λ_ y=>∃j,y= .int j/\Φ true (.int (k i j))):Ev G ρ (dP (L2.jz λi j=> .int (k i j)) ta tb) Φ:=
 lZ (h.mono λf x ⟨i,ex,q⟩=>q.mono λg y ⟨j,o,p⟩ nb σ H u v Q W hu hv z=>by
  subst ex o;exact⟨i,j,hu.cV,hv.cV,z true _ H _ p (.refl W.az) (.int _)⟩)
def J8{k:Int->Int->Bool}(h:Ev G ρ ta λ_ x=>∃i,x= .int i/\Ev G ρ tb λ_ y=>∃j,y= .int j/\Φ true (.bool (k i j))):Ev G ρ (dP (L2.jz λi j=> .bl (k i j)) ta tb) Φ:=
 lZ (h.mono λf x ⟨i,ex,q⟩=>q.mono λg y ⟨j,o,p⟩ nb σ H u v Q W hu hv z=>by
  subst ex o;exact⟨i,j,hu.cV,hv.cV,z true _ H _ p (.refl W.az) (.bl _)⟩)
def un{r:V->Hp->VK->Prop}(h:Ev G ρ ta λf x=>∀nb σ H u (Q:VK),Wd G nb ρ σ H->ah (G.S nb f) H x u->(∀f w H' d,Φ f d->Step G.B H H'->ah (G.S nb f) H' d w->Q w H')->r u H Q):Ev G ρ (Je r ta) Φ:=λnb σ H Q W z=>
 h nb σ H _ W λf t H1 d1 j s1 J=>j nb σ H1 _ _ (W.step s1) J λf w H' d p st q=>z f w H' d p (s1.trans st) q
theorem rU{k:Int->Int}(h:Ev G ρ ta λ_ x=>∃i,x= .int i/\Φ true (.int (k i))):Ev G ρ (Je (L2.rU λi=> .int (k i)) ta) Φ:=
 un (h.mono λf x ⟨i,ex,p⟩ nb σ H u Q W hu z=>by subst ex;exact⟨i,hu.cV,z true _ H _ p (.refl W.az) (.int _)⟩)
end Ev
inductive jc:PyData->PyData->Bool->Prop
 |ii (i j:Int):jc (.int i) (.int j) (decide (i=j))
 |ni (i:Int):jc .none (.int i) false
 |i_n (i:Int):jc (.int i) .none false
 |nn:jc .none .none true
 |bb (a b:Bool):jc (.bool a) (.bool b) (a==b)
 |ss (x:Str):jc (.str x) (.str x) true
 |sd (x y:Str):jc (.str x) (.str y) (decide (x=y))
theorem jc.v{nb aP:ax->Prop}{H:Hp}{x y:PyData}{b:Bool}{u v:V}(h:jc x y b)(hu:ah nb H x u)(hv:ah aP H y v):JA u v=true/\decide (u=v)=b:=by
 cases h<;>(unfold ah at hu hv;subst hu hv;refine⟨rfl,?_⟩);·exact R.FA
 .rfl
 .rfl
 .rfl
 .rename_i a b;cases a<;>cases b<;>rfl
 .exact decide_eq_true rfl
 .rename_i x y
  by_cases c:x=y;·subst c;rw[decide_eq_true rfl,decide_eq_true rfl]
  .rw[decide_eq_false c,decide_eq_false (λz=>c (V.str.inj z))]
def jc.self{d:PyData}(h:iV d=true):jc d d true:=by
 cases d<;>first|(cases h;done)|skip
 .exact .nn
 .rename_i b;have:=jc.bb b b;rwa[beq_self_eq_true] at this
 .rename_i i;have:=jc.ii i i;rwa[decide_eq_true rfl] at this
 .exact .ss _
namespace Ev
def eq(h:Ev G ρ ta λ_ x=>Ev G ρ tb λ_ y=>∃b,jc x y b/\Φ true (.bool b)):Ev G ρ (dP IF ta tb) Φ:=
 lZ (h.mono λf x q=>q.mono λg y ⟨b,e,p⟩ nb σ H u v Q W hu hv z=>by
  obtain⟨h1,h2⟩:=e.v hu hv;exact⟨h1,by rw[h2];exact z true _ H _ p (.refl W.az) (.bl _)⟩)
def ne(h:Ev G ρ ta λ_ x=>Ev G ρ tb λ_ y=>∃b,jc x y b/\Φ true (.bool !b)):Ev G ρ (dP Hu ta tb) Φ:=
 lZ (h.mono λf x q=>q.mono λg y ⟨b,e,p⟩ nb σ H u v Q W hu hv z=>by
  obtain⟨h1,h2⟩:=e.v hu hv;exact⟨h1,by rw[h2];exact z true _ H _ p (.refl W.az) (.bl _)⟩)
def ZZ{b:Bool}(h:Ev G ρ ta λ_ x=>Ev G ρ tb λ_ y=>ed x=true/\ed y=true/\Φ true (.bool (fo x y !=b))):Ev G ρ (dP (Ga b) ta tb) Φ:=
 lZ (h.mono λf x q=>q.mono λg y ⟨h1,h2,p⟩ nb σ H u v Q W hu hv z=>
  ⟨G.S nb false,x,y,hu.av (cW (λz=>by cases z) λ_ z=>z),hv.av (cW (λz=>by cases z) λ_ z=>z),h1,h2,z true _ H _ p (.refl W.az) (.bl _)⟩)
end Ev
noncomputable def uF:PyData->Bool
 | .none=>true
 |_=>false
def SE{d:PyData}{v:V}(h:ah nb H d v):decide (v= .aL)=uF d:=by
 cases d<;>unfold ah at h
 all_goals first
  |(subst h;rfl)
  |(obtain⟨a,xs,rfl,_⟩:=h;rfl)
  |exact h.elim
namespace Ev
def is(h:Ev G ρ ta λ_ x=>Φ true (.bool (uF x))):Ev G ρ (dP Qu ta (tC .aL)) Φ:=
 lZ (h.mono λf x p=>Ev.aL λnb σ H u v Q W hu hv z=>⟨hv.yu,by rw[SE hu];exact z true _ H _ p (.refl W.az) (.bl _)⟩)
def W6(h:Ev G ρ ta λ_ x=>Φ true (.bool !uF x)):Ev G ρ (dP Bv ta (tC .aL)) Φ:=
 lZ (h.mono λf x p=>Ev.aL λnb σ H u v Q W hu hv z=>⟨hv.yu,by rw[SE hu];exact z true _ H _ p (.refl W.az) (.bl _)⟩)
end Ev
theorem af.bU{nb:ax->Prop}{H:Hp}{ds:List PyData}{xs:List V}{k:Int}{e:PyData}(h:af nb H ds xs)(q:L2.bU ds k=some e):∃v,L2.bU xs k=some v/\ah nb H e v:=by
 unfold L2.bU at q⊢;rw[h.length];cases z:iR ds.length k with
 |none=>rw[z] at q;cases q
 |some j=>rw[z] at q;exact h.get q
namespace Ev
def Lr(h:Ev G ρ ta λf x=>∃ds,x= .list ds/\Ev G ρ tb λ_ y=>∃k,y= .int k/\∃e,bU ds k=some e/\Φ f e):Ev G ρ (dP (cB K) ta tb) Φ:=
 lZ (h.mono λf x ⟨ds,ex,q⟩=>q.mono λg y ⟨k,o,e,he,p⟩ nb σ H u v Q W hu hv z=>by
  subst ex o;obtain⟨a,xs,rfl,n,hx,hd⟩:=hu.dZ;obtain⟨w,hw,N⟩:=hd.bU he;exact⟨a,xs,k,w,rfl,hv.cV, .of hx,hw,z f _ H _ p (.refl W.az) N⟩)
def p8(h:Ev G ρ ta λf x=>∃ds,x= .tuple ds/\Ev G ρ tb λ_ y=>∃k,y= .int k/\∃e,bU ds k=some e/\Φ f e):Ev G ρ (dP (bG K) ta tb) Φ:=
 lZ (h.mono λf x ⟨ds,ex,q⟩=>q.mono λg y ⟨k,o,e,he,p⟩ nb σ H u v Q W hu hv z=>by
  subst ex o;obtain⟨a,xs,rfl,n,hx,hd⟩:=hu.ofT;obtain⟨w,hw,N⟩:=hd.bU he;exact⟨a,xs,k,w,rfl,hv.cV, .of hx,hw,z f _ H _ p (.refl W.az) N⟩)
def Lm(e:ρ[i]?=some (.own a f ds))(h:Ev G ρ tb λ_ y=>∃k,y= .int k/\∃e,bU ds k=some e/\Φ f e):Ev G ρ (dP (cB K) (dD i) tb) Φ:=λnb σ H Q W z=>by
 obtain⟨x,e1,h1,h2,h3,xs,hx,hd⟩:=W.ok i _ e;subst h1;refine⟨.ref a,e1,h nb σ H _ W λg w H1 y ⟨k,o,e',he,p⟩ s1 hv=>?_⟩;subst o;obtain⟨u,hu,N⟩:=(hd.keep s1.dX).bU he;exact⟨a,xs,k,u,rfl,hv.cV, .of (s1.1 _ _ h3 hx),hu,z f _ H1 _ p s1 N⟩
def QH(h:Ev G ρ ta λ_ x=>∃b,x= .bool b/\if b=true then Ev G ρ tb Φ else Φ true (.bool false)):Ev G ρ (RQ ta tb) Φ:=λnb σ H Q W z=>
 h nb σ H _ W λf v H1 d ⟨b,e,q⟩ s1 hv=>by
  subst e;refine⟨b,by unfold ah at hv;exact hv,?_⟩;cases b with
  |true=>rw[if_pos rfl] at q⊢;exact q nb σ H1 _ (W.step s1) λf v H' d p st=>z f v H' d p (s1.trans st)
  |false=>rw[if_neg cC] at q⊢;exact z true _ H1 _ q s1 (.bl false)
def ve{c:TT}(h:Tv G ρ c λb=>if b=true then Ev G ρ ta Φ else Ev G ρ tb Φ):Ev G ρ (zw c ta tb) Φ:=λnb σ H Q W z=>
 h nb σ H _ W λb H1 q s1=>by
  cases b with
  |true=>rw[if_pos rfl] at q⊢;exact q nb σ H1 _ (W.step s1) λf v H' d p st=>z f v H' d p (s1.trans st)
  |false=>rw[if_neg cC] at q⊢;exact q nb σ H1 _ (W.step s1) λf v H' d p st=>z f v H' d p (s1.trans st)
end Ev
namespace Tv
variable{Θ:Bool->Prop}{t u:TT}
def test(h:Ev G ρ te λ_ x=>∃b,x= .bool b/\Θ b):Tv G ρ (A6 te) Θ:=λnb σ H Q W z=>
 h nb σ H _ W λf v H1 d ⟨b,e,q⟩ s1 hv=>by subst e;exact⟨b,by unfold ah at hv;exact hv,z b H1 q s1⟩
def and(h:Tv G ρ t λb=>if b=true then Tv G ρ u Θ else Θ false):Tv G ρ (Gz t u) Θ:=λnb σ H Q W z=>
 h nb σ H _ W λb H1 q s1=>by
  cases b with
  |true=>rw[if_pos rfl] at q⊢;exact q nb σ H1 _ (W.step s1) λb H' p st=>z b H' p (s1.trans st)
  |false=>rw[if_neg cC] at q⊢;exact z false H1 q s1
def or(h:Tv G ρ t λb=>if b=true then Θ true else Tv G ρ u Θ):Tv G ρ (K8 t u) Θ:=λnb σ H Q W z=>
 h nb σ H _ W λb H1 q s1=>by
  cases b with
  |false=>rw[if_neg cC] at q⊢;exact q nb σ H1 _ (W.step s1) λb H' p st=>z b H' p (s1.trans st)
  |true=>rw[if_pos rfl] at q⊢;exact z true H1 q s1
def not(h:Tv G ρ t λb=>Θ (!b)):Tv G ρ (QT t) Θ:=λnb σ H Q W z=>h nb σ H _ W λb H1 q s1=>z _ H1 q s1
def oG(h:Θ true):Tv G ρ p9 Θ:=λnb σ H Q W z=>z true H h (.refl W.az)
end Tv
def Rn(K:PySem.W.Frag)(ta:TE):TT:=λσ H Q=>ta σ H λx H1=>∃k,DW K x H1 k/\Q k H1
def Tv.z4{Θ:Bool->Prop}(h:Ev G ρ te λ_ x=>∃b,x= .bool b/\Θ b):Tv G ρ (Rn K te) Θ:=λnb σ H Q W z=>
 h nb σ H _ W λf v H1 d ⟨b,e,q⟩ s1 hv=>by subst e;exact⟨b,by unfold ah at hv;subst hv;rfl,z b H1 q s1⟩
namespace Av
variable{Θ:List Fd->Prop}
def nil(h:Θ []):Av G ρ cI Θ:=λnb σ H Q W z=>z [] [] H h (.refl W.az) rfl
def cons(h:Ev G ρ te λf d=>Av G ρ t λes=>Θ ((f,d)::es)):Av G ρ (bN te t) Θ:=λnb σ H Q W z=>
 h nb σ H _ W λf v H1 d j s1 J=>j nb σ H1 _ (W.step s1) λes vs H2 p2 s2 q2=>z _ _ H2 p2 (s1.trans s2) ⟨v,vs,rfl,J.keep s2.dX,q2⟩
def Xe{is:List Int}(h:Θ (is.map λi=>(true, .int i))):Av G ρ (Ce is) Θ:=λnb σ H Q W z=>z _ _ H h (.refl W.az) (by
 clear h;induction is with
 |nil=>rfl
 |cons i r ih=>exact⟨_,_,rfl, .int i,ih⟩)
end Av
noncomputable def gX(es:List Fd):Bool:=es.all (·.1)
theorem lg.all{nb:ax->Prop}{H:Hp}:∀{es:List Fd} {vs:List V} {f:Bool},lg G nb H es vs->(f=true->gX es=true)->af (G.S nb f) H (es.map (·.2)) vs
  |[],_,_,h,_=>by unfold lg at h;subst h;exact .nil
  | e :: es, _, f, h, hf => by
    obtain⟨v,ws,rfl,h1,h2⟩:=h;refine .cons (h1.av (cW (λz=>?_) λ_ z=>z)) (h2.all λz=>?_);· have:=hf z;simp only[gX,oJ,fQ] at this;exact this.1
    · have:=hf z;simp only[gX,oJ,fQ] at this;exact this.2
def lg.len{es:List Fd}(h:lg G nb H es vs):vs.length=es.length:=by
 have:=(h.all (f:=false) (λz=>by cases z)).length;simpa using this
def aq.lst{Φ:Bool->List PyData->Prop}(h:Av G ρ t λes=>es.length<=10000/\Φ (gX es) (es.map (·.2))):aq G ρ (qw t) Φ:=λnb σ H Q W z=>
  h nb σ H _ W λes vs H1 ⟨hl,p⟩ s1 J=>⟨eu (by rw[J.len];exact hl) ⋯,λa ha=>by
    have W1:=W.step s1;refine z _ a vs _ _ p (s1.trans (.same W1.az (dw ha))) ?_ bB (((J.all λz=>z).fresh ha).keep (bu.of (dw ha)));cases e:H a with
    |none=>rfl
    | some o =>
      by_cases n:NB G.B a;· rw[s1.1 a o n e] at ha;cases ha
      · exact absurd ha (NB.oX s1.2 n)⟩
theorem Ev.lst(h:Av G ρ t λes=>es.length<=10000/\Φ (gX es) (.list (es.map (·.2)))):Ev G ρ (qw t) Φ:=(aq.lst (Φ:=λf ds=>Φ f (.list ds)) h).ev
end
def iP(K:PySem.W.Frag):List V->Hp->VK->Prop:=λxs H Q=>∃p ys,xs=[.ref p]/\(bw K H p ys\/fE K H p ys)/\Q (.int ys.length) H
def jM:fT X (.builtin "len") (iP X.K):=Lw
def OC:List V->Hp->VK->Prop:=λxs H Q=>∃i j,xs=[.int i, .int j]/\Q (.int (if j<i then j else i)) H
def Mc:List V->Hp->VK->Prop:=λxs H Q=>∃i j,xs=[.int i, .int j]/\Q (.int (if j>i then j else i)) H
def Li:List V->Hp->VK->Prop:=λxs H Q=>(∃i,xs=[.int i]/\Q (.int i) H)\/∃k,xs=[.bl k]/\Q (.int (if k then 1 else 0)) H
def Um(hc:X.calm=true):fT X (.builtin "min") OC:=abP hc
def ZT(hc:X.calm=true):fT X (.builtin "max") Mc:=Xb hc
def OZ:fT X (.type "int") Li:=abX
noncomputable def iy(xs:List α)(lo hi:Option Int):List α:=(xs.drop (HT.fk xs.length 0 lo)).take (HT.fk xs.length xs.length hi-HT.fk xs.length 0 lo)
def af.cut{lo hi:Option Int}(h:af nb H ds xs):af nb H (iy ds lo hi) (mR xs lo hi):=by
 unfold iy mR;rw[h.length];exact(h.drop _).take _
noncomputable def gx(ds:List PyData):Bool:=ds.all iV
section
variable{G:Gx}{ρ:Rh}{Φ Ψ:Pd}{ta tb te:TE}{t:TA}{i:Nat}{f g:Bool}{d e:PyData}{ds es:List PyData}{K:PySem.W.Frag}
def Wd.none_of(W:Wd G nb ρ σ H)(s1:Step G.B H H1)(ha:H1 a=none):H a=none:=by
  cases e:H a with
  |none=>rfl
  | some o =>
    by_cases n:NB G.B a;· rw[s1.1 a o n e] at ha;cases ha
    · exact absurd ha (NB.oX s1.2 n)
def aq.fin{Q:VK}{Φ:Bool->List PyData->Prop}(W:Wd G nb ρ σ H)(s1:Step G.B H H1)(ha:H1 a=none)(hd:af (G.S nb f) H1 ds xs)(p:Φ (f||gx ds) ds)
  (z:∀f a xs H' ds,Φ f ds->Step G.B H H'->H a=none->H' a=some (.lst xs)->af (λx=>G.S nb f x\/x=a) H' ds xs->Q (.ref a) H'):Q (.ref a) (upd H1 a (.lst xs)):=by
 refine z _ a xs _ ds p (s1.trans (.same s1.2 (dw ha))) (W.none_of s1 ha) bB ?_;cases hs:gx ds with
 |true=>exact af.jj hs hd
 |false=>rw[tU];exact(hd.fresh ha).keep (bu.of (dw ha))
namespace Ov
variable{Θ:Option Int->Prop}
theorem none(h:Θ none):Ov G ρ E3 Θ:=λnb σ H Q W z=>z _ H h (.refl W.az)
theorem some(h:Ev G ρ te λ_ x=>∃k,x= .int k/\Θ (some k)):Ov G ρ (DK te) Θ:=λnb σ H Q W z=>
 h nb σ H _ W λf v H1 d ⟨k,e,q⟩ s1 hv=>by subst e;exact⟨k,hv.cV,z _ H1 q s1⟩
end Ov
namespace aq
variable{Θ:Bool->List PyData->Prop}
def sl{tl th:TO}(h:Ev G ρ te λf x=>∃ds,x= .list ds/\Ov G ρ tl λlo=>Ov G ρ th λhi=>Θ (f||gx (iy ds lo hi)) (iy ds lo hi)):aq G ρ (rP (jZ K) te tl th) Θ:=λnb σ H Q W z=>
 h nb σ H _ W λf v H1 d ⟨ds,e,q⟩ s1 hv=>q nb σ H1 _ (W.step s1) λlo H2 q2 s2=>q2 nb σ H2 _ ((W.step s1).step s2) λhi H3 U s3=>by
  subst e;obtain⟨a,xs,rfl,n,hx,hd⟩:=((hv.keep s2.dX).keep s3.dX).dZ;exact⟨a,xs,rfl, .of hx,λp hp=>aq.fin W (s1.trans (s2.trans s3)) hp hd.cut U z⟩
def listOf(h:Ev G ρ te λf x=>∃ds,(x= .list ds\/x= .tuple ds)/\Θ (f||gx ds) ds):aq G ρ (gv (nG K) (bN te cI)) Θ:=λnb σ H Q W z=>
 h nb σ H _ W λf v H1 d ⟨ds,e,q⟩ s1 hv=>by
  rcases e with e|e
  .subst e;obtain⟨a,xs,rfl,n,hx,hd⟩:=hv.dZ;exact⟨a,xs,rfl, .inl (.of hx),λp hp=>aq.fin W s1 hp hd q z⟩
  .subst e;obtain⟨a,xs,rfl,n,hx,hd⟩:=hv.ofT;exact⟨a,xs,rfl, .inr (.of hx),λp hp=>aq.fin W s1 hp hd q z⟩
def cat(h:Ev G ρ ta λf x=>∃ds,x= .list ds/\Ev G ρ tb λg y=>∃es,y= .list es/\ds.length+es.length<=10000/\Θ ((f && g)||gx (ds++es)) (ds++es)):aq G ρ (dP Gn ta tb) Θ:=λnb σ H Q W z=>
 h nb σ H _ W λf v H1 d ⟨ds,e,q⟩ s1 hv=>q nb σ H1 _ (W.step s1) λg u H2 d2 ⟨es,e2,hl,p⟩ s2 hu=>by
  subst e e2;obtain⟨a,xs,rfl,n,hx,hd⟩:=(hv.keep s2.dX).dZ;obtain⟨c,ys,rfl,m,hy,hc⟩:=hu.dZ;refine⟨a,c,xs,ys,rfl,rfl,hx,hy,eu (by rw[hd.length,hc.length];exact hl) ⋯,λj hp=>aq.fin (f:=f && g) W (s1.trans s2) hp ?_ p z⟩;exact af.append (hd.av (cW (λz=>(fQ _ _▸z).1) λ_ z=>z)) (hc.av (cW (λz=>(fQ _ _▸z).2) λ_ z=>z))
end aq
namespace Ev
theorem sl{tl th:TO}(h:Ev G ρ te λf x=>∃ds,x= .list ds/\Ov G ρ tl λlo=>Ov G ρ th λhi=>Φ (f||gx (iy ds lo hi)) (.list (iy ds lo hi))):Ev G ρ (rP (jZ K) te tl th) Φ:=(aq.sl (Θ:=λf ds=>Φ f (.list ds)) h).ev
theorem listOf(h:Ev G ρ te λf x=>∃ds,(x= .list ds\/x= .tuple ds)/\Φ (f||gx ds) (.list ds)):Ev G ρ (gv (nG K) (bN te cI)) Φ:=(aq.listOf (Θ:=λf ds=>Φ f (.list ds)) h).ev
theorem cat(h:Ev G ρ ta λf x=>∃ds,x= .list ds/\Ev G ρ tb λg y=>∃es,y= .list es/\ds.length+es.length<=10000/\Φ ((f && g)||gx (ds++es)) (.list (ds++es))):Ev G ρ (dP Gn ta tb) Φ:=(aq.cat (Θ:=λf ds=>Φ f (.list ds)) h).ev
def min2(h:Ev G ρ ta λ_ x=>∃i,x= .int i/\Ev G ρ tb λ_ y=>∃j,y= .int j/\Φ true (.int (if j<i then j else i))):Ev G ρ (gv OC (bN ta (bN tb cI))) Φ:=λnb σ H Q W z=>
 h nb σ H _ W λf v H1 d ⟨i,e,q⟩ s1 hv=>q nb σ H1 _ (W.step s1) λg u H2 d2 ⟨j,e2,p⟩ s2 hu=>by
  subst e e2;exact⟨i,j,by rw[hv.cV,hu.cV],z true _ H2 _ p (s1.trans s2) (.int _)⟩
def max2(h:Ev G ρ ta λ_ x=>∃i,x= .int i/\Ev G ρ tb λ_ y=>∃j,y= .int j/\Φ true (.int (if j>i then j else i))):Ev G ρ (gv Mc (bN ta (bN tb cI))) Φ:=λnb σ H Q W z=>
 h nb σ H _ W λf v H1 d ⟨i,e,q⟩ s1 hv=>q nb σ H1 _ (W.step s1) λg u H2 d2 ⟨j,e2,p⟩ s2 hu=>by
  subst e e2;exact⟨i,j,by rw[hv.cV,hu.cV],z true _ H2 _ p (s1.trans s2) (.int _)⟩
def YC(h:Ev G ρ ta λ_ x=>∃b,x= .bool b/\Φ true (.int (if b then 1 else 0))):Ev G ρ (gv Li (bN ta cI)) Φ:=λnb σ H Q W z=>
 h nb σ H _ W λf v H1 d ⟨b,e,q⟩ s1 hv=>by subst e;unfold ah at hv;subst hv;exact .inr ⟨b,rfl,z true _ H1 _ q s1 (.int _)⟩
end Ev
abbrev DF:=List PyData->Pd->Prop
def aM(n:Nat)(F:DF):Sp:=λvs H Q _=>vs.length=n/\∃(nb:ax->Prop) (ds:List PyData),iX nb H/\af nb H ds vs/\F ds λf d=>∀v H',cT H H'->ah (λa=>nb a\/(f=true/\H a≠none)) H' d v->Q v H'
def ir(n:Nat)(F:DF):Sp:=λvs H Q _=>vs.length=n/\∃(b l:ax) (ws:List V) (nb:ax->Prop) (ds:List PyData),vs= .ref b::ws/\fh H b l/\iX nb H/\nb b/\af nb H ds ws/\
 F ds λf d=>∀v H',bu (Nb b) H H'->fh H' b l->ah (λa=>nb a\/(f=true/\H a≠none)) H' d v->Q v H'
def bW(F:DF):Prop:=∀ds (Φ Ψ:Pd),F ds Φ->(∀f d,Φ f d->Ψ f d)->F ds Ψ
def Ev.cg{F:DF}(hm:bW F)(h:Av G ρ t λes=>es.length=n/\F (es.map (·.2)) λf d=>Φ (f||gX es) d):Ev G ρ (gY (aM n F) [] E0 t) Φ:=λnb σ H Q W z=>
 h nb σ H _ W λes vs H1 ⟨hl,p⟩ s1 J=>by
  have W1:=W.step s1;rw[fW];refine⟨by rw[J.len,hl],G.S nb (gX es),es.map (·.2),W1.gF,J.all λz=>z,hm _ _ _ p λf d hp v H' sm hd=>z _ v H' d hp (s1.trans (.same W1.az sm)) (hd.av λa q=>?_)⟩;cases f with
  |false=>rw[vX] at q;exact .inl q
  |true=>exact .inr ⟨rfl,W1.gF a q⟩
def Step.B7{l:ax}(O:G.B=some (b,l))(bt:bu (Nb b) H H')(c:fh H' b l):Step G.B H H':=
 ⟨λa o n e=>bt a o (n b l O) e,λA k e=>by rw[O] at e;cases e;exact c⟩
def Wd.Ct(W:Wd G nb ρ σ H)(e:ρ[i]?=some .az):∃b l,G.B=some (b,l)/\σ[i]?=some (some (.ref b))/\fh H b l:=by
 obtain⟨x,e1,b,l,O,rfl⟩:=W.ok i _ e;exact⟨b,l,O,e1,W.az b l O⟩
def Ev.mO{F:DF}(hm:bW F)(e:ρ[i]?=some .az)(h:Av G ρ t λes=>es.length+1=n/\F (es.map (·.2)) λf d=>Φ (f||gX es) d):Ev G ρ (gY (ir n F) [] E0 (bN (dD i) t)) Φ:=λnb σ H Q W z=>by
 obtain⟨b,l,O,e1,B⟩:=W.Ct e;refine⟨.ref b,e1,h nb σ H _ W λes vs H1 ⟨hl,p⟩ s1 J=>?_⟩;have W1:=W.step s1;show ir n F ((V.ref b::vs)++[]) H1 Q E0;rw[fW];have hb:∀f,G.S nb f b:=λf=> .inr (.inr (.inl λn=>n b l O rfl));refine⟨by rw[cZ,J.len,hl],b,l,vs,G.S nb (gX es),es.map (·.2),rfl,W1.az b l O,W1.gF,hb _,J.all λz=>z,hm _ _ _ p λf d hp v H' bt c hd=>z _ v H' d hp (s1.trans (.B7 O bt c)) (hd.av λa q=>?_)⟩;cases f with
 |false=>rw[vX] at q;exact .inl q
 |true=>exact .inr ⟨rfl,W1.gF a q⟩
def Ev.draw(e:ρ[i]?=some .az)(h:Ev G ρ te λ_ x=>∃m:Int,x= .int m/\0<m/\Sm m/\∀r:Int,0<=r->r<m->Φ true (.int r)):Ev G ρ (gY mw [] E0 (bN (dD i) (bN te cI))) Φ:=λnb σ H Q W z=>by
 obtain⟨b,l,O,e1,B⟩:=W.Ct e;refine⟨.ref b,e1,h nb σ H _ W λf v H1 d ⟨m,a,h1,h2,p⟩ s1 hv=>?_⟩;subst a;exact⟨b,l,m,by rw[hv.cV];rfl,s1.2 b l O,h1,h2,λr H' C Y bt c=>z true _ H' _ (p r C Y) (s1.trans (.B7 O bt c)) (.int r)⟩
def Ev.total(h:Av G ρ t λes=>∃(p:Int) (prs:List (Int×Int)) (wd:List (Option Int)),es.map (·.2)=[.int p, .list (prs.map F1), .list (wd.map bJ)]/\0<p/\(∀pr∈prs,0<=pr.1/\pr.1<wd.length/\Sm pr.2)/\(∀x,some x∈wd->Sm x)/\Φ true (.int (aT prs wd%p))):
  Ev G ρ (gY Bj [] E0 t) Φ:=λnb σ H Q W z=>
 h nb σ H _ W λes vs H1 ⟨p,prs,wd,e,h1,h2,h3,q⟩ s1 J=>by
  have hd:=J.all (f:=false) (λz=>by cases z);rw[e] at hd;unfold af at hd;obtain⟨y,ys,rfl,d1,hd⟩:=hd;unfold af at hd;obtain⟨d,ys,rfl,d2,hd⟩:=hd;unfold af at hd;obtain⟨a,ys,rfl,c,hd⟩:=hd;unfold af at hd;subst hd;exact⟨G.S nb false,p,d,a,prs,wd,by rw[d1.cV];rfl,d2,c,h1,h2,h3,z true _ H1 _ q s1 (.int _)⟩
def Ev.whole(h:Ev G ρ te λ_ x=>∃n,x= .int n/\Φ true (.bool true)):Ev G ρ (gY WM [] E0 (bN te cI)) Φ:=λnb σ H Q W z=>
 h nb σ H _ W λf v H1 d ⟨n,e,q⟩ s1 hv=>by subst e;exact⟨n,by rw[hv.cV];rfl,z true _ H1 _ q s1 (.bl _)⟩
namespace Gv
variable{Θ:Rh->Prop}
def name(h:Θ (ρ.set i (.d f d))):Gv G ρ (gZ i) f d Θ:=λnb σ H v Q W hv z=>z _ _ h (W.pU hv)
def Zp(h:Θ (ρ.set i (.d true d))):Gv G ρ (gZ i) true d Θ:=name h
def pD(h:Θ (ρ.set i (.d false d))):Gv G ρ (gZ i) f d Θ:=λnb σ H v Q W hv z=>z _ _ h (W.pU (hv.av (cW (λz=>by cases z) λ_ z=>z)))
def E8(hs:iV d=true)(h:Θ (ρ.set i (.d true d))):Gv G ρ (gZ i) f d Θ:=λnb σ H v Q W hv z=>z _ _ h (W.pU (hv.jj hs))
def rR{n:Int}(h:Θ (ρ.set i (.d true (.int n)))):Gv G ρ (gZ i) f (.int n) Θ:=E8 rfl h
def Zi{n:Bool}(h:Θ (ρ.set i (.d true (.bool n)))):Gv G ρ (gZ i) f (.bool n) Θ:=E8 rfl h
def abz(h:Θ (ρ.set i (.d true .none))):Gv G ρ (gZ i) f .none Θ:=E8 rfl h
def tup{n:Nat}{u:jC}(hl:ds.length=n)(h:nN G ρ u f ds Θ):Gv G ρ (Ak K n u) f (.tuple ds) Θ:=λnb σ H v Q W hv z=>by
 obtain⟨a,xs,rfl,m,hx,hd⟩:=hv.ofT;exact⟨a,xs,rfl, .of hx,by rw[hd.length];exact hl,h nb σ H xs Q W hd z⟩
def We(h:Θ ρ):nN G ρ Hr f [] Θ:=λnb σ H vs Q W hv z=>by unfold af at hv;exact⟨hv,z _ _ h W⟩
def ac0{u:TG}{us:jC}(h:Gv G ρ u f d λm=>nN G m us f ds Θ):nN G ρ (Er u us) f (d::ds) Θ:=λnb σ H vs Q W hv z=>by
 unfold af at hv;obtain⟨y,ys,rfl,h1,h2⟩:=hv;exact⟨y,ys,rfl,h nb σ H y _ W h1 λL C q W'=>q nb L H ys Q W' h2 z⟩
end Gv
namespace Sv
variable{E:DE}{s u:TS}
def seq(h:Sv G ρ s {E with nx:=λm=>Sv G m u E}):Sv G ρ (qW s u) E:=λnb σ H D W K=>h nb σ H _ W ⟨λaP C L H' q W'=>q aP L H' D W' K,K.bk,K.ct,K.rt,K.rw⟩
def next(h:E.nx ρ):Sv G ρ G6 E:=λnb σ H D W K=>K.nx nb ρ σ H h W
def brk(h:E.bk ρ):Sv G ρ afZ E:=λnb σ H D W K=>K.bk nb ρ σ H h W
def cont(h:E.ct ρ):Sv G ρ WW E:=λnb σ H D W K=>K.ct nb ρ σ H h W
def asg{g:TG}(h:Ev G ρ te λf d=>Gv G ρ g f d E.nx):Sv G ρ (gD te g) E:=λnb σ H D W K=>h nb σ H _ W λf v H1 d q s1 hv=>q nb σ H1 v _ (W.step s1) hv λL C p W'=>K.nx nb C L H1 p W'
def setC(h:Ev G ρ te λf d=>E.nx (ρ.set i (.d f d))):Sv G ρ (Jf i te) E:=λnb σ H D W K=>h nb σ H _ W λf v H1 d q s1 hv=>K.nx nb _ _ H1 q ((W.step s1).pU hv)
def agZ(h:Ev G ρ te λ_ d=>E.nx (ρ.set i (.d false d))):Sv G ρ (Jf i te) E:=λnb σ H D W K=>h nb σ H _ W λf v H1 d q s1 hv=>K.nx nb _ _ H1 q ((W.step s1).pU (hv.av (cW (λz=>by cases z) λ_ z=>z)))
def drop(h:Ev G ρ te λ_ _=>E.nx ρ):Sv G ρ (vI te) E:=λnb σ H D W K=>h nb σ H _ W λf v H1 d q s1 hv=>K.nx nb ρ σ H1 q (W.step s1)
def ret(h:Ev G ρ te E.rt):Sv G ρ (nZ te) E:=λnb σ H D W K=>h nb σ H _ W λf v H1 d q s1 hv=>K.rt nb ρ σ f v H1 d q (W.step s1) (hv.av (cW (λz=>z) λ_ z=>z.elim))
def pC{c:TT}(h:Tv G ρ c λb=>if b=true then Sv G ρ s E else Sv G ρ u E):Sv G ρ (JE c s u) E:=λnb σ H D W K=>h nb σ H _ W λb H1 q s1=>by
 cases b with
 |true=>rw[if_pos rfl] at q⊢;exact q nb σ H1 D (W.step s1) K
 |false=>rw[if_neg cC] at q⊢;exact q nb σ H1 D (W.step s1) K
def R8(W:Wd G nb ρ σ H)(s1:Step G.B H H1)(ha:H a=none)(e:H1 a=some (.lst xs))(hd:af (λx=>G.S nb f x\/x=a) H1 ds xs):
    Wd G (λx=>nb x\/x=a) (ρ.set i (.own a f ds)) (σ.set i (some (.ref a))) H1:=by
  have hN:NB G.B a:=λb l e z=>by
    subst z;obtain⟨_,_,_,_,_,h1,_⟩:=W.az _ _ e;rw[h1] at ha;cases ha
  have hA:∀f x,G.S (λx=>nb x\/x=a) f x->(G.S nb f x\/x=a):=λf x z=>by
    rcases z with (z|z)|z|z|z
    · exact .inl (.inl z)
    · exact .inr z
    · exact .inl (.inr (.inl z))
    · exact .inl (.inr (.inr (.inl z)))
    · exact .inl (.inr (.inr (.inr z)))
  have W1:=W.step s1;have W2:Wd G (λx=>nb x\/x=a) ρ σ H1:=by
    refine⟨W1.az,λx n=>?_,W1.old,λx n q=>?_,W.gA,W.len,W.gB,λh m=>(((W.fL h m).fresh ha).keep (s1.but λx z=> .inl (.inr (.inr (.inl z))))).av (hA h.1),λj s e'=>?_,W.apart,W.g9,W.fu⟩
    · rcases n with n|n
      · exact W1.live x n
      · subst n;rw[e];exact gy _
    · rcases n with n|n
      · exact W.dY x n q
      · subst n
        cases z:G.H0 x with
        |none=>rfl
        |some o=>rw[W.old x o q z] at ha;cases ha
    · obtain⟨x,e1,h⟩:=W.ok j s e'
      refine⟨x,e1,?_⟩;cases s with
      |no=>trivial
      |d f d=>obtain⟨v,e,h⟩:=h;exact⟨v,e,((h.fresh ha).keep (s1.but λx z=> .inl (.inr (.inr (.inl z))))).av (hA f)⟩
      |own c f es=>obtain⟨e,n,q,xs,hx,hd⟩:=h;exact⟨e, .inl n,q,xs,s1.1 _ _ q hx,((hd.fresh ha).keep (s1.but λx z=> .inl (.inr (.inr (.inl z))))).av (hA f)⟩
      |az=>exact h
      |raw v=>exact h
      |cE c f es=>obtain⟨e,n,q,xs,hx,hd⟩:=h;exact⟨e, .inl n,q,xs,s1.1 _ _ q hx,((hd.fresh ha).keep (s1.but λx z=> .inl (.inr (.inr (.inl z))))).av (hA f)⟩
      | cu c =>
        obtain⟨e,n,q⟩:=h;refine⟨e,λa ha=>⟨.inl (n a ha).1,(n a ha).2⟩,c.av (hA c.f) (c.keep (.of λx o hx e=>s1.1 x o ?_ e) (c.fresh ha q))⟩;rcases hx with hx|hx
        · exact jm λz=>hx (.inl (.inr (.inr (.inl z))))
        · exact(n x hx).2
  refine W2.set ⟨rfl, .inr rfl,hN,xs,e,hd.av (hA f)⟩ ?_ (λ_ _ _ z=>by cases z) (λx hx j t hj ht hc=>?_)
  rotate_left
  · have hx:x=a:=aY.mp hx
    subst hx;rcases hc with ⟨c,z⟩|⟨c,rfl⟩
    · cases z
    · exact λz=>W.live x ((W.ok j _ ht).choose_spec.2.2.1 x z).1 ha
  rintro a' f' ds' ⟨rfl,rfl,rfl⟩ j c g cs hj hc z;subst z;obtain⟨x,e1,h1,h2,h3,ys,hy,_⟩:=W.ok j _ hc;rw[hy] at ha;cases ha
def vf(h:aq G ρ te λf ds=>∀a,E.nx (ρ.set i (.own a f ds))):Sv G ρ (gD te (gZ i)) E:=λnb σ H D W K=>h nb σ H _ W λf a xs H1 ds q s1 ha e hd=>K.nx _ _ _ H1 (q a) (R8 W s1 ha e hd)
def Jq(W:Wd G nb ρ σ H)(e:ρ[i]?=some (.own a f ds))(hd:af (G.S nb g) H es xs):Wd G nb (ρ.set i (.own a g es)) σ (upd H a (.lst xs)):=by
  obtain⟨x,e1,h1,h2,h3,ys,hy,_⟩:=W.ok i _ e;subst h1;have hil:i<ρ.length:=(bV.mp e).1;have W0:Wd G nb (ρ.set i .no) (σ.set i (some (.ref a))) H:=W.set trivial λ_ _ _ z=>by cases z
  have W1:Wd G nb (ρ.set i .no) (σ.set i (some (.ref a))) (upd H a (.lst xs)):=W0.write h2 h3 (λj c d cs hc=>by
    by_cases hij:i=j;· subst hij;rw[dB hil] at hc;cases hc
    · rw[bO hij] at hc
      exact(W.apart i j _ _ _ _ _ _ hij e hc).symm
   ) (λj c d cs hc z => by
      subst z;have hij:i≠j:=λz=>by subst z;rw[dB hil] at hc;cases hc
      rw[bO hij] at hc;obtain⟨_,_,_,_,_,ps,hp,_⟩:=W.ok j _ hc;rw[hy] at hp;cases hp) (λj c hc z=>by
      have hij:i≠j:=λz=>by subst z;rw[dB hil] at hc;cases hc
      rw[bO hij] at hc;exact W.fu j i c _ (cO hij) hc e a z (aY.mpr rfl))
  have W2:=W1.set (i:=i) (s:= .own a g es) (x:=some (.ref a)) ⟨rfl,h2,h3,xs,bB,hd.keep (bu.set (.inl h2))⟩ (by
    rintro a' d ds' ⟨rfl,rfl,rfl⟩ j c g' cs hj hc;rw[bO (cO hj)] at hc;exact W.apart i j _ _ _ _ _ _ (cO hj) e hc) (λ_ _ _ z=>by cases z) (λx hx j t hj ht hc z=>by
    rw[bO (cO hj)] at ht;have hx:x=a:=aY.mp hx;subst hx;rcases hc with ⟨c,q⟩|⟨c,rfl⟩
    · cases q
    · exact W.fu j i c _ hj ht e x z (aY.mpr rfl))
  rw[mS,mS] at W2;have:σ.set i (some (.ref a))=σ:=by
    apply pG;intro j;by_cases hij:i=j;· subst hij;rw[dB (by rw[W.len];exact hil),e1]
    · rw[bO hij]
  rwa[this] at W2
def append(e:ρ[i]?=some (.own a f ds))(h:Ev G ρ te λg d=>ds.length<10000/\E.nx (ρ.set i (.own a (f && g) (ds++[d])))):Sv G ρ (vI (oq K "list" Nn (dD i) (bN te cI))) E:=λnb σ H D W KK=>by
 obtain⟨x,e1,h1,h2,h3,xs,hx,hd⟩:=W.ok i _ e;subst h1;refine⟨.ref a,e1, .inl ⟨rfl,_,bw.of hx⟩,h nb σ H _ W λg v H1 d ⟨hl,q⟩ s1 hv=>?_⟩;have W1:=W.step s1;have o4:=s1.1 _ _ h3 hx;refine⟨a,xs,v,rfl,rfl,o4,fJ (by rw[hd.length];exact hl) ⋯,KK.nx nb _ _ _ q (Jq W1 e ?_)⟩;exact af.snoc (hv.av (cW (λz=>(fQ _ _▸z).2) λ_ z=>z)) ((hd.keep s1.dX).av (cW (λz=>(fQ _ _▸z).1) λ_ z=>z))
theorem af.set'{nb:ax->Prop}{H:Hp}{x:V}(hd:ah nb H d x):∀{ds:List PyData} {xs:List V} (j:Nat),af nb H ds xs->af nb H (ds.set j d) (xs.set j x)
 |[],_,j,h=>by unfold af at h;subst h;exact .nil
 |e::ds,_,0,h=>by unfold af at h;obtain⟨y,ys,rfl,h1,h2⟩:=h;exact .cons hd h2
 |e::ds,_,j+1,h=>by unfold af at h;obtain⟨y,ys,rfl,h1,h2⟩:=h;exact .cons h1 (af.set' hd j h2)
def LJ(e:ρ[i]?=some (.own a f ds))(h:Ev G ρ te λg d=>Ev G ρ tb λ_ y=>∃k j,y= .int k/\iR ds.length k=some j/\E.nx (ρ.set i (.own a (f && g) (ds.set j d)))):Sv G ρ (gD te (qq (dD i) tb v7)) E:=λnb σ H D W KK=>
 h nb σ H _ W λg v H1 d q s1 hv=>by
  obtain⟨x,e1,h1,h2,h3,xs,hx,hd⟩:=(W.step s1).ok i _ e;subst h1;refine⟨.ref a,e1,q nb σ H1 _ (W.step s1) λg' u H2 y ⟨k,j,o,hj,p⟩ s2 hu=>?_⟩;subst o;have W2:=(W.step s1).step s2;refine⟨a,xs,k,j,rfl,hu.cV,s2.1 _ _ h3 hx,by rw[hd.length];exact hj,KK.nx nb _ _ _ p (Jq W2 e ?_)⟩;exact af.set' ((hv.keep s2.dX).av (cW (λz=>(fQ _ _▸z).2) λ_ z=>z)) j ((hd.keep s2.dX).av (cW (λz=>(fQ _ _▸z).1) λ_ z=>z))
def share(W:Wd G nb ρ σ H)(e:ρ[i]?=some (.own a f ds)):Wd G (λx=>nb x/\x≠a) (ρ.set i (.d f (.list ds))) σ H:=by
  obtain⟨x,e1,h1,h2,h3,xs,hx,hd⟩:=W.ok i _ e;subst h1;have hil:i<ρ.length:=(bV.mp e).1;have W0:Wd G nb (ρ.set i .no) (σ.set i (some (.ref a))) H:=W.set trivial λ_ _ _ z=>by cases z
  have W1:Wd G (λx=>nb x/\x≠a) (ρ.set i .no) (σ.set i (some (.ref a))) H:=by
    refine⟨W0.az,λx n=>W0.live x n.1,W0.old,λx n=>W0.dY x n.1,W0.gA,W0.len,W0.gB,λh m=>(W0.fL h m).av (cW (λz=>z) λ_ z=>z.1),λj s e'=>?_,W0.apart,W0.g9,W0.fu⟩;obtain⟨x,nH,h⟩:=W0.ok j s e';refine⟨x,nH,?_⟩;have hij:s≠ .no->i≠j:=λn z=>by subst z;rw[dB hil] at e';cases e';exact n rfl
    cases s with
    |no=>trivial
    |d f d=>obtain⟨v,e,h⟩:=h;exact⟨v,e,h.av (cW (λz=>z) λ_ z=>z.1)⟩
    | own c f es =>
      obtain⟨e2,n,q,xs,hx,hd⟩:=h;have hij:=hij (by intro z;cases z);rw[bO hij] at e';exact⟨e2,⟨n,(W.apart i j _ _ _ _ _ _ hij e e').symm⟩,q,xs,hx,hd.av (cW (λz=>z) λ_ z=>z.1)⟩
    |az=>exact h
    |raw v=>exact h
    | cE c f es =>
      obtain⟨e2,n,q,ps,hp,hd⟩:=h;have p:c≠a:=λz=>by subst z;rw[hx] at hp;cases hp
      exact⟨e2,⟨n,p⟩,q,ps,hp,hd.av (cW (λz=>z) λ_ z=>z.1)⟩
    | cu c =>
      obtain⟨e2,n,q⟩:=h;have hij:=hij (by intro z;cases z);rw[bO hij] at e';exact⟨e2,λx hx=>⟨⟨(n x hx).1,λz=>W.fu j i c _ (cO hij) e' e x hx (by rw[z];exact aY.mpr rfl)⟩,(n x hx).2⟩,c.av (cW (λz=>z) λ_ z=>z.1) q⟩
  have W2:=W1.pU (i:=i) (f:=f) (d:= .list ds) (v:= .ref a) (.lst (λz=>by
    rcases z with z|z|z|z
    · exact z.2 rfl
    · exact W.gA a z (W.dY a h2 h3)
    · exact z h3
    · exact z.2 (W.dY a h2 h3)) hx (hd.av (cW (λz=>z) λ_ z=>z.1)))
  rw[mS,mS] at W2;have:σ.set i (some (.ref a))=σ:=by
    apply pG;intro j;by_cases hij:i=j;· subst hij;rw[dB (by rw[W.len];exact hil),e1]
    · rw[bO hij]
  rwa[this] at W2
def tL(i:Nat)(e:ρ[i]?=some (.own a f ds))(h:Sv G (ρ.set i (.d f (.list ds))) s E):Sv G ρ s E:=λnb σ H D W K=>h _ σ H D (share W e) K
theorem wk{C:Rh}(w:Wk C ρ)(h:Sv G C s E):Sv G ρ s E:=λnb σ H D W K=>h nb σ H D (W.wk w) K
end Sv
end
noncomputable abbrev Gx.hd(G:Gx)(f:Bool)(d:PyData)(v:V):Gx:={G with hold:=(f, .d d,v)::G.hold}
section
variable{G:Gx}{ρ bM:Rh}{Φ Ψ:Pd}{ta tb te:TE}{t:TA}{i:Nat}{f g:Bool}{d e:PyData}{ds es:List PyData}{K:PySem.W.Frag}
theorem Wd.hd{nb:ax->Prop}{σ:qr}{H:Hp}{v:V}(W:Wd G nb ρ σ H)(h:ah (G.S nb f) H d v):Wd (G.hd f d v) nb ρ σ H:=
 ⟨W.az,W.live,W.old,W.dY,W.gA,W.len,W.gB,λx m=>by
  rcases aK.mp m with e|m
  .subst e;exact h
  .exact W.fL x m,λi s e=>by
   obtain⟨x,e1,h⟩:=W.ok i s e;refine⟨x,e1,?_⟩;cases s<;>exact h,W.apart,W.g9,W.fu⟩
def Wd.nL{v:V}(W:Wd (G.hd f d v) nb ρ σ H):Wd G nb ρ σ H/\ah (G.S nb f) H d v:=
 ⟨⟨W.az,W.live,W.old,W.dY,W.gA,W.len,W.gB,λx m=>W.fL x (cF _ m),λi s e=>by
   obtain⟨x,e1,h⟩:=W.ok i s e;refine⟨x,e1,?_⟩;cases s<;>exact h,W.apart,W.g9,W.fu⟩,W.fL _ (cP ..)⟩
namespace Sv
variable{E:DE}{s:TS}{gt:TG}
def EL(G:Gx)(ρ:Rh)(n:Nat)(it:Nat->PyData->Prop)(fi:Bool)(gt:TG)(s:TS)(E:DE):Prop:=
 ∃I:Nat->Rh->Prop,I 0 ρ/\(∀i d C,it i d->I i C->Gv G C gt fi d λg=>Sv G g s {nx:=I (i+1),rt:=E.rt,bk:=E.nx,ct:=I (i+1),rw:=E.rw})/\∀C,I n C->E.nx C
def J1{lo:Int}(W:Wd G nb ρ σ H)(KK:JY G E D)(h:EL G ρ n (λi d=>i<n/\d= .int (lo+i)) true gt s E):
  ∃W:Nat->Nat->qr->Hp->Prop,(∃m,W 0 m σ H)/\∀i m σ H,W i m σ H->
   ((jI lo n).stop i H/\D.nx σ H)\/((jI lo n).go i H/\∃N:qr->Hp->Prop,(∀L H',N L H'->∃m',m'<m/\W (i+1) m' L H')/\∀x H',(jI lo n).qM i H x H'->gt x σ H' λk H2=>s {D with nx:=N,ct:=N,bk:=D.nx} k H2):=by
 obtain⟨I,h0,ht,he⟩:=h;refine DO (λi σ H=>∃nb ρ',I i ρ'/\Wd G nb ρ' σ H) ⟨nb,ρ,h0,W⟩ ?_ ?_
 .rintro i σ H hi ⟨nb,ρ',hI,W⟩;refine ht i _ ρ' ⟨hi,rfl⟩ hI nb σ H _ _ W (.int _) λk g q W2=>q nb k H _ W2 ?_;exact⟨λnb ρ σ H q W=>⟨nb,ρ,q,W⟩,KK.nx,λnb ρ σ H q W=>⟨nb,ρ,q,W⟩,KK.rt,KK.rw⟩
 .rintro σ H ⟨nb,ρ',hI,W⟩;exact KK.nx nb ρ' σ H (he ρ' hI) W
def zM(h:Ev G ρ te λ_ x=>∃n:Int,x= .int n/\ -(2^62)<=n/\n<2^62/\EL G ρ n.toNat (λi d=>i<n.toNat/\d= .int (0+i)) true gt s E):Sv G ρ (wX (CB (bN te cI)) gt s) E:=λnb σ H D W KK=>
 h nb σ H _ W λf v H1 x ⟨n,ex,h1,h2,q⟩ s1 hv=>by
  subst ex;rw[hv.cV];exact⟨n,rfl,h1,h2,J1 (W.step s1) KK q⟩
theorem forL(h:Ev G ρ te λf x=>∃ds,x= .list ds/\∀v,EL (G.hd f (.list ds) v) ρ ds.length (λi d=>ds[i]?=some d) f gt s E):Sv G ρ (wX (oU K te) gt s) E:=λnb σ H D W KK=>
 h nb σ H _ W λf v H1 x ⟨ds,ex,q⟩ s1 hv=>by
  subst ex;obtain⟨I,h0,ht,he⟩:=q v;have W1:=(W.step s1).hd hv;obtain⟨a,xs,rfl,n,hx,hd⟩:=hv.dZ;have key:∀{nb C σ H},Wd (G.hd f (.list ds) (.ref a)) nb C σ H->∃xs,H a=some (.lst xs)/\af (G.S nb f) H ds xs:=λW=>by
   obtain⟨w,l,e',_,h',d'⟩:=W.nL.2.dZ;cases e';exact⟨l,h',d'⟩
  refine⟨a,rfl,⟨xs, .of hx⟩,?_⟩;refine⟨λi m σ H=>m=ds.length-i/\i<=ds.length/\∃nb C,I i C/\Wd (G.hd f (.list ds) (.ref a)) nb C σ H,⟨ds.length,by simp,eT _,nb,ρ,h0,W1⟩,?_⟩;rintro i m σ H ⟨rfl,hi,nb,C,hI,W⟩;obtain⟨ys,hy,N⟩:=key W;have hl:=N.length;by_cases hlt:i<ds.length
  .refine .inr ⟨⟨ys,ys[i]'∅, .of hy,aS _⟩,λσ H=>∃nb C,I (i+1) C/\Wd (G.hd f (.list ds) (.ref a)) nb C σ H,λL H' q=>⟨ds.length-(i+1),∅,rfl,hlt,q⟩,λx H' y=>?_⟩;obtain⟨e,y⟩:=y;subst e;have hx:=y ys (.of hy);obtain⟨J,M,dx⟩:=N.get (aS hlt);rw[hx] at M;cases M
   refine ht i _ C (aS hlt) hI nb σ _ _ _ W dx λk g q W2=>q nb k _ _ W2 ?_;exact⟨λnb ρ σ H q W=>⟨nb,ρ,q,W⟩,λnb ρ σ H q W=>KK.nx nb ρ σ H q W.nL.1,λnb ρ σ H q W=>⟨nb,ρ,q,W⟩,λnb ρ σ f v H d q W hv=>KK.rt nb ρ σ f v H d q W.nL.1 hv,λnb ρ σ v H q W=>KK.rw nb ρ σ v H q W.nL.1⟩
  .have e:i=ds.length:=∅
   subst e;exact .inl ⟨⟨ys, .of hy,∅⟩,KK.nx nb C σ H (he C hI) W.nL.1⟩
def Lu{c:TT}(I:Rh->Prop)(a:Rh->Nat)(h0:I ρ)(h:∀C,I C->Tv G C c λb=>if b=true then Sv G C s {nx:=λg=>I g/\a g<a C,rt:=E.rt,bk:=E.nx,ct:=λg=>I g/\a g<a C,rw:=E.rw} else E.nx C):Sv G ρ (GS c s) E:=λnb σ H D W KK=>by
  refine⟨λm σ H=>∃nb C,I C/\Wd G nb C σ H/\m=a C,⟨_,nb,ρ,h0,W,rfl⟩,?_⟩;rintro m σ H ⟨nb,C,hI,W,rfl⟩;refine h C hI nb σ H _ W λb H1 q s1=>?_;cases b with
  | true =>
    rw[if_pos rfl] at q⊢;refine⟨λL H'=>∃nb g,(I g/\a g<a C)/\Wd G nb g L H',λL H' ⟨nb,g,⟨J,q2⟩,W2⟩=>⟨a g,q2,nb,g,J,W2,rfl⟩,q nb σ H1 _ (W.step s1) ?_⟩;exact⟨λnb ρ σ H q W=>⟨nb,ρ,q,W⟩,KK.nx,λnb ρ σ H q W=>⟨nb,ρ,q,W⟩,KK.rt,KK.rw⟩
  |false=>rw[if_neg cC] at q⊢;exact KK.nx nb C σ H1 q (W.step s1)
end Sv
noncomputable def lz(mp:List (Option Nat))(ρ:Rh):Rh:=mp.map λo=>match o with|none=> .no|some j=>match ρ[j]? with|some s=>s|none=> .no
def ES(h:(mp.filterMap id).Nodup):∀{i j k:Nat},mp[i]?=some (some k)->mp[j]?=some (some k)->i=j:=by
  induction mp with
  |nil=>intro i j k e;simp at e
  | cons o r ih =>
    intro i j k e1 e2;have hr:(r.filterMap id).Nodup:=by
      cases o with
      |none=>simpa using h
      |some x=>rw[Nq (by rfl)] at h;exact(iT.mp h).2
    have hn:∀{m:Nat},r[m]?=some (some k)->o≠some k:=λ{m} hm e=>by
      subst e;rw[Nq (by rfl)] at h;exact(iT.mp h).1 (FL.mpr ⟨some k,bP hm,rfl⟩)
    cases i with
    | zero =>
      cases j with
      |zero=>rfl
      |succ j=>simp at e1 e2;exact absurd e1 (hn e2)
    | succ i =>
      cases j with
      |zero=>simp at e1 e2;exact absurd e2 (hn e1)
      |succ j=>simp at e1 e2;rw[ih hr e1 e2]
theorem Wd.fV{nb:ax->Prop}{σ:qr}{H:Hp}{mp:List (Option Nat)}(W:Wd G nb ρ σ H)(hm:(mp.filterMap id).Nodup):Wd G nb (lz mp ρ) (fV mp σ) H:=by
  have S:∀{i:Nat} {s:Sl},(lz mp ρ)[i]?=some s->s= .no\/∃k,mp[i]?=some (some k)/\ρ[k]?=some s:=λ{i s} e=>by
    unfold lz at e;rw[cS] at e;obtain⟨o,ho,e⟩:=lH.mp e;cases o with
    |none=>exact .inl e.symm
    | some k =>
      cases hk:ρ[k]? with
      |none=>simp only[hk] at e;exact .inl e.symm
      |some s'=>simp only[hk] at e;subst e;exact .inr ⟨k,ho,hk⟩
  refine⟨W.az,W.live,W.old,W.dY,W.gA,by unfold L2.fV lz;rw[ak,ak],W.gB,W.fL,λi s e=>?_,λi j a f as c g cs hij e1 e2=>?_,λi j a f as c g cs hij e1 e2=>?_,λi j c t hij e1 e2 a ha=>?_⟩
  · have hi:i<mp.length:=by have:=(bV.mp e).1;unfold lz at this;rwa[ak] at this
    rcases S e with rfl|⟨k,hk,hs⟩
    · exact⟨_,by unfold L2.fV;rw[cS,aS hi];rfl,trivial⟩
    · obtain⟨x,e1,h⟩:=W.ok k s hs
      refine⟨x,?_,h⟩;unfold L2.fV;rw[cS,hk];simp only[sh,e1]
  · rcases S e1 with z|⟨k,hk,hs⟩
    · cases z
    rcases S e2 with z|⟨k',hk',hs'⟩
    · cases z
    exact W.apart k k' a f as c g cs (λz=>by subst z;exact hij (ES hm hk hk')) hs hs'
  · rcases S e1 with z|⟨k,hk,hs⟩
    · cases z
    rcases S e2 with z|⟨k',hk',hs'⟩
    · cases z
    exact W.g9 k k' a f as c g cs (λz=>by subst z;exact hij (ES hm hk hk')) hs hs'
  · rcases S e1 with z|⟨k,hk,hs⟩
    · cases z
    rcases S e2 with z|⟨k',hk',hs'⟩
    · subst z;exact λz=>by cases z
    exact W.fu k k' c t (λz=>by subst z;exact hij (ES hm hk hk')) hs hs' a ha
def MB(ρ:Rh)(acc:ax):Prop:=(∀(j:Nat) a f ds,ρ[j]?=some (.own a f ds)->a≠acc)/\∀(j:Nat) c,ρ[j]?=some (.cu c)->acc∉c.F
def iH(G:Gx)(bM:Rh)(n:Nat)(it:Nat->PyData->Prop)(fi:Bool)(gt:TG)(tc:TT)(te:TE)(Θ:Bool->List PyData->Prop):Prop:=
 ∃(fl:Bool) (I:Nat->List PyData->Prop),I 0 []/\(∀i d ds,it i d->ds.length<=i->I i ds->Gv G bM gt fi d λm=>Wk bM m/\Tv G m tc λb=>if b=true then Ev G m te λf e=>(fl=true->f=true)/\I (i+1) (ds++[e]) else I (i+1) ds)/\
  ∀ds,ds.length<=n->I n ds->Θ (fl||gx ds) ds
theorem tQ{gt:TG}{x:V}{fi fl:Bool}{N:qr->Hp->Prop}{ds:List PyData}(hn:n<=10000)(hi:i<n)
    (W:Wd G nb bM σ H) (ha:nb acc) (hN:NB G.B acc) (hno:MB bM acc) (st:Step G.B H1 H) (g:H1 acc=none) (hx:H acc=some (.lst xs)) (hd:af (G.S nb fl) H ds xs) (hl:ds.length<=i) (s:ah (G.S nb fi) H d x)
    (h:Gv G bM gt fi d λm=>Wk bM m/\Tv G m tc λb=>if b=true then Ev G m te λf e=>(fl=true->f=true)/\I (i+1) (ds++[e]) else I (i+1) ds)
    (z:∀σ' H' ds' xs',Wd G nb bM σ' H'->Step G.B H1 H'->H' acc=some (.lst xs')->af (G.S nb fl) H' ds' xs'->ds'.length<=i+1->I (i+1) ds'->N σ' H'):
    gt x σ H λk H2=>tc k H2 λb H3=>if b=true then te k H3 λv H4=>∃ys,H4 acc=some (.lst ys)/\ys.length<sizeLine/\N k (upd H4 acc (.lst (ys++[v]))) else N k H3:=by
  refine h nb σ H x _ W s λk m ⟨wk,q⟩ W2=>q nb k H _ W2 λb H3 U s3=>?_;have P4:=s3.1 _ _ hN hx;have MI:=hd.keep (s3.dX (nb:=nb) (f:=fl));cases b with
  | false =>
    rw[if_neg cC] at U⊢;exact z k H3 ds xs ((W2.step s3).wk wk) (st.trans s3) P4 MI ∅ U
  | true =>
    rw[if_pos rfl] at U⊢;refine U nb k H3 _ (W2.step s3) λf v H4 e ⟨hf,hI⟩ s4 hv=>?_;have uf:=s4.1 _ _ hN P4;have hd4:=MI.keep (s4.dX (nb:=nb) (f:=fl));have hlen:=hd.length;refine⟨xs,uf,fJ (show xs.length<10001 by omega) ⋯,?_⟩;have W4:Wd G nb bM k H4:=((W2.step s3).step s4).wk wk;have bt:bu (G.S nb fl) H4 (upd H4 acc (.lst (xs++[v]))):=bu.set (.inl ha)
    have E:Wd G nb bM k (upd H4 acc (.lst (xs++[v]))):=W4.write ha hN hno.1 (λj a f ds e z=>by
      subst z;obtain⟨_,_,_,_,_,ps,hp,_⟩:=W4.ok j _ e;rw[uf] at hp;cases hp) hno.2
    refine z k _ (ds++[e]) (xs++[v]) E ⟨λa o n q=>?_,E.az⟩ bB (af.snoc ((hv.av (cW hf λ_ z=>z)).keep bt) (hd4.keep bt)) (by rw[cH,gQ];omega) hI;have T:a≠acc:=λz=>by subst z;rw[g] at q;cases q
    rw[br T];exact(st.trans (s3.trans s4)).1 a o n q
def rJ(W:Wd G nb ρ σ H)(ha:H a=none):MB ρ a:=by
 refine⟨λj c f ds e z=>?_,λj c e z=>?_⟩
 .subst z;obtain⟨x,e1,h1,h2,h3,ys,hy,_⟩:=W.ok j _ e;rw[hy] at ha;cases ha
 .obtain⟨x,e1,h1,h2,h3⟩:=W.ok j _ e;exact W.live a (h2 a z).1 ha
def ZA{f:Bool}:∀x,(G.S nb f x\/x=a)->G.S (λx=>nb x\/x=a) f x:=λx z=>by
 rcases z with (z|z|z|z)|z
 .exact .inl (.inl z)
 .exact .inr (.inl z)
 .exact .inr (.inr (.inl z))
 .exact .inr (.inr (.inr z))
 .exact .inl (.inr z)
def vA{Q:VK}{ds:List PyData}{fl:Bool}(W:Wd G nb ρ σ H)(s1:Step G.B H H1)(g:H1 acc=none)(s2:Step G.B H1 H')(hx:H' acc=some (.lst xs))(hd:af (G.S (λx=>nb x\/x=acc) fl) H' ds xs)(p:Θ (fl||gx ds) ds)
  (z:∀f a xs H' ds,Θ f ds->Step G.B H H'->H a=none->H' a=some (.lst xs)->af (λx=>G.S nb f x\/x=a) H' ds xs->Q (.ref a) H'):Q (.ref acc) H':=by
 refine z _ acc xs H' ds p (s1.trans s2) (W.none_of s1 g) hx ?_;cases hs:gx ds with
 |true=>exact af.jj hs hd
 |false=>rw[tU];exact hd.av ZA
def NB.new{B:Bg}(h:kJ B H)(ha:H a=none):NB B a:=jm λz=>NB.oX h z ha
namespace aq
variable{Θ:Bool->List PyData->Prop}{gt:TG}{tc:TT}{mp:List (Option Nat)}
def XM{lo:Int}{Q:VK}(W:Wd G nb ρ σ H)(s1:Step G.B H H1)(hm:(mp.filterMap id).Nodup)(r:lz mp ρ=bM)(hn:n<=10000)(h:iH G bM n (λi d=>i<n/\d= .int (lo+i)) true gt tc te Θ)
  (z:∀f a xs H' ds,Θ f ds->Step G.B H H'->H a=none->H' a=some (.lst xs)->af (λx=>G.S nb f x\/x=a) H' ds xs->Q (.ref a) H') (acc:ax) (g:H1 acc=none):pB (jI lo n) gt tc te acc (λH'=>Q (.ref acc) H') (fV mp σ) (upd H1 acc (.lst [])):=by
 obtain⟨fl,I,h0,ht,he⟩:=h;have W0:Wd G nb bM (L2.fV mp σ) H1:=by rw[<-r];exact(W.step s1).fV hm
 have W1:=W0.more g (o:= .lst []);have hN:=NB.new s1.2 g;have hno:=rJ W0 g;have aA:Step G.B H1 (upd H1 acc (.lst [])):= .same s1.2 (dw g);refine R.O2 (λi σ H=>∃ds xs,Wd G (λx=>nb x\/x=acc) bM σ H/\Step G.B H1 H/\H acc=some (.lst xs)/\af (G.S (λx=>nb x\/x=acc) fl) H ds xs/\ds.length<=i/\I i ds) ⟨[],[],W1,aA,bB, .nil,aH _,h0⟩ ?_ ?_
 .rintro i σ H hi ⟨ds,xs,W,st,hx,hd,hl,hI⟩;exact tQ hn hi W (.inr rfl) hN hno st g hx hd hl (.int _) (ht i _ ds ⟨hi,rfl⟩ hl hI) λL H' k l W' st' M j hl' s=>⟨k,l,W',st',M,j,hl',s⟩
 .rintro σ H' ⟨ds,xs,W',st,hx,hd,hl,hI⟩;exact vA W s1 g st hx hd (he ds hl hI) z
theorem qo(hm:(mp.filterMap id).Nodup)(r:lz mp ρ=bM)(h:Ev G ρ t0 λ_ x=>∃n:Int,x= .int n/\ -10000<=n/\n<=10000/\iH G bM n.toNat (λi d=>i<n.toNat/\d= .int (0+i)) true gt tc te Θ):aq G ρ (jW (CB (bN t0 cI)) gt tc te mp) Θ:=λnb σ H Q W z=>
 h nb σ H _ W λf v H1 x ⟨n,ex,h1,h2,q⟩ s1 hv=>by
  subst ex;rw[hv.cV];exact⟨n,rfl,∅,∅,XM W s1 hm r ∅ q z⟩
theorem e7(hm:(mp.filterMap id).Nodup)(r:lz mp ρ=bM)(h:Ev G ρ t0 λfi x=>∃es,x= .list es/\es.length<=10000/\∀v,iH (G.hd fi (.list es) v) bM es.length (λi d=>es[i]?=some d) fi gt tc te Θ):aq G ρ (jW (oU K t0) gt tc te mp) Θ:=λnb σ H Q W z=>
 h nb σ H _ W λfi v H1 x ⟨es,ex,hn,q⟩ s1 hv=>by
  subst ex;obtain⟨fl,I,h0,ht,he⟩:=q v;have W0:=(W.step s1).hd hv;obtain⟨a,xs,rfl,n,hx,hd⟩:=hv.dZ;refine⟨a,rfl,⟨xs, .of hx⟩,λacc g=>?_⟩;have t:Wd (G.hd fi (.list es) (.ref a)) nb bM (L2.fV mp σ) H1:=by rw[<-r];exact W0.fV hm
  have W1:=t.more g (o:= .lst []);have hN:=NB.new s1.2 g;have hno:=rJ t g;have aA:Step G.B H1 (upd H1 acc (.lst [])):= .same s1.2 (dw g);have A:NB G.B a:=jm λz=>n (.inr (.inr (.inl z)));refine R.FZ (xs:=xs) (λi σ H=>∃ds ys,Wd (G.hd fi (.list es) (.ref a)) (λx=>nb x\/x=acc) bM σ H/\Step G.B H1 H/\H acc=some (.lst ys)/\af (G.S (λx=>nb x\/x=acc) fl) H ds ys/\ds.length<=i/\I i ds) ⟨[],[],W1,aA,bB, .nil,aH _,h0⟩ ?_ ?_ ?_
  .rintro i σ H hi ⟨ds,ys,W,st,_⟩;exact .of (st.1 _ _ A hx)
  .rintro i x σ H hi ⟨ds,ys,W,st,hy,j,hl,hI⟩;obtain⟨w,l,e',_,h',d'⟩:=W.nL.2.dZ;cases e';rw[st.1 _ _ A hx] at h';cases h'
   have hil:i<es.length:=by have:=(bV.mp hi).1;have:=d'.length;omega
   obtain⟨J,M,dx⟩:=d'.get (aS hil);rw[hi] at M;cases M
   exact tQ (G:=G.hd fi (.list es) (.ref a)) hn hil W (.inr rfl) hN hno st g hy j hl dx (ht i _ ds (aS hil) hl hI) λL H' k l W' st' M j hl' s=>⟨k,l,W',st',M,j,hl',s⟩
  .rintro σ H' ⟨ds,ys,W',st,hy,j,hl,hI⟩;rw[hd.length] at hl hI;exact vA W s1 g st hy j (he ds hl hI) z
end aq
end
section
variable{ρ:Rh}{t:TS}{N:List Str}{vs:List V}{ds:List PyData}{nb:ax->Prop}{H:Hp}{Q:VK}{Φ:Pd}{b l:ax}
def l7(h:af nb H ds xs){i:Nat}{s:Sl}(e:(ds.map (Sl.d false))[i]?=some s):∃v d,xs[i]?=some v/\s= .d false d/\ah nb H d v:=by
 rw[cS] at e;obtain⟨d,hd,e⟩:=lH.mp e;obtain⟨v,hv,q⟩:=h.get hd;exact⟨v,d,hv,e.symm,q⟩
theorem Sv.dH(hl:iX nb H)(hd:af nb H ds vs)(D:∀f d v H',Φ f d->cT H H'->ah (λa=>nb a\/(f=true/\H a≠none)) H' d v->Q v H')
  (r:ρ=ds.map (Sl.d false)++cq (N.length-ds.length) .no) (h:Sv ⟨none,H,nb,[]⟩ ρ t {nx:=λ_=>Φ true .none,rt:=Φ}):t {nx:=λ_ H'=>Q .aL H',rt:=Q} (start N vs) H:=by
 have hlen:=hd.length;have sm:∀{aP C L H'},Wd ⟨none,H,nb,[]⟩ aP C L H'->cT H H':=λW a o e=>W.old a o (λ_ _ z=>(by cases z)) e;refine h (λ_=>False) _ H _ ⟨λ_ _ z=>(by cases z),λ_ z=>z.elim,λ_ _ _ e=>e,λ_ z=>z.elim,hl,?_,λ_ _ z=>(by cases z),λ_ m=>(by cases m),λi s e=>?_,?_,?_,?_⟩ ⟨λaP C L H' q W=>D _ _ _ _ q (sm W) .aL,λ_ _ _ _ q _=>q.elim,λ_ _ _ _ q _=>q.elim,λaP C L f v H' d q W hv=>D f d v H' q (sm W) (hv.av λa z=>?_),λ_ _ _ _ _ q _=>q.elim⟩;·rw[r];unfold start;simp[hlen]
 .rw[r] at e;unfold start;by_cases hi:i<ds.length
  .rw[gW (by rw[ak];exact hi)] at e;obtain⟨v,d,hv,rfl,q⟩:=l7 hd e;refine⟨some v,?_,v,rfl,q.av λa z=>?_⟩;·rw[gW (by rw[ak,hlen];exact hi),cS,hv];rfl
   .rcases z with z|z|z|z
    .exact z.elim
    .exact z
    .exact absurd (λ_ _ z=>(by cases z)) z
    .cases z.1
  .rw[iK (by rw[ak];omega),iF] at e;split at e
   .rename_i h'
    cases e;refine⟨none,?_,trivial⟩;rw[ak] at h';rw[iK (by rw[ak];omega),iF,if_pos (by rw[ak,hlen];exact h')]
   .cases e
 .intro i j a f as c g cs hij e1;rw[r] at e1;by_cases hi:i<ds.length
  .rw[gW (by rw[ak];exact hi)] at e1;obtain⟨_,_,_,z,_⟩:=l7 hd e1;cases z
  .rw[iK (by rw[ak];omega),iF] at e1;split at e1<;>cases e1
 .intro i j a f as c g cs hij e1;rw[r] at e1;by_cases hi:i<ds.length
  .rw[gW (by rw[ak];exact hi)] at e1;obtain⟨_,_,_,z,_⟩:=l7 hd e1;cases z
  .rw[iK (by rw[ak];omega),iF] at e1;split at e1<;>cases e1
 .intro i j c t hij e1;rw[r] at e1;by_cases hi:i<ds.length
  .rw[gW (by rw[ak];exact hi)] at e1;obtain⟨_,_,_,z,_⟩:=l7 hd e1;cases z
  .rw[iK (by rw[ak];omega),iF] at e1;split at e1<;>cases e1
 .rcases z with z|z
  .exact .inr (.inl z)
  .exact .inr (.inr (.inr z))
theorem Sv.qO(O:fh H b l)(hl:iX nb H)(hb:nb b)(hd:af nb H ds vs)(D:∀f d v H',Φ f d->bu (Nb b) H H'->fh H' b l->ah (λa=>nb a\/(f=true/\H a≠none)) H' d v->Q v H')
    (r:ρ= .az::ds.map (Sl.d false)++cq (N.length-(ds.length+1)) .no) (h:Sv ⟨some (b,l),H,nb,[]⟩ ρ t {nx:=λ_=>Φ true .none,rt:=Φ}):t {nx:=λ_ H'=>Q .aL H',rt:=Q} (start N (.ref b::vs)) H:=by
  have hlen:=hd.length;have u:∀a,a≠b->NB (some (b,l)) a:=λa n A k e=>by cases e;exact n
  have p:∀a,¬NB (some (b,l)) a->a=b:=λa n=>jm λz=>n (u a z);have bt:∀{aP C L H'},Wd ⟨some (b,l),H,nb,[]⟩ aP C L H'->bu (Nb b) H H':=λW a o n e=>W.old a o (u a n) e;have w:∀{aP C L H'},Wd ⟨some (b,l),H,nb,[]⟩ aP C L H'->fh H' b l:=λW=>W.az b l rfl;refine h (λ_=>False) _ H _ ⟨λA k e=>(by cases e;exact O),λ_ z=>z.elim,λ_ _ _ e=>e,λ_ z=>z.elim,hl,?_,λA k e=>(by cases e;exact O),λ_ m=>(by cases m),λi s e=>?_,?_,?_,?_⟩ ⟨λaP C L H' q W=>D _ _ _ _ q (bt W) (w W) .aL,λ_ _ _ _ q _=>q.elim,λ_ _ _ _ q _=>q.elim,λaP C L f v H' d q W hv=>D f d v H' q (bt W) (w W) (hv.av λa z=>?_),λ_ _ _ _ _ q _=>q.elim⟩;· rw[r];unfold start;simp[hlen]
  · rw[r] at e
    unfold start;cases i with
    |zero=>simp at e;subst e;exact⟨some (.ref b),by simp,b,l,rfl,rfl⟩
    | succ i =>
      simp only[jk,mV,aZ,cZ] at e⊢;by_cases hi:i<ds.length
      · rw[gW (by rw[ak];exact hi)] at e
        obtain⟨v,d,hv,rfl,q⟩:=l7 hd e;refine⟨some v,?_,v,rfl,q.av λa z=>?_⟩;· rw[gW (by rw[ak,hlen];exact hi),cS,hv];rfl
        · rcases z with z|z|z|z
          · exact z.elim
          · exact z
          · rw[p a z];exact hb
          · cases z.1
      · rw[iK (by rw[ak];omega),iF] at e
        split at e
        · rename_i h'
          cases e;refine⟨none,?_,trivial⟩;rw[ak] at h';rw[iK (by rw[ak];omega),iF,if_pos (by rw[ak,hlen];exact h')]
        · cases e
  · intro i j a f as c g cs hij e1
    rw[r] at e1;cases i with
    |zero=>simp at e1
    | succ i =>
      simp only[jk,mV] at e1;by_cases hi:i<ds.length
      · rw[gW (by rw[ak];exact hi)] at e1
        obtain⟨_,_,_,z,_⟩:=l7 hd e1;cases z
      · rw[iK (by rw[ak];omega),iF] at e1
        split at e1<;>cases e1
  · intro i j a f as c g cs hij e1
    rw[r] at e1;cases i with
    |zero=>simp at e1
    | succ i =>
      simp only[jk,mV] at e1;by_cases hi:i<ds.length
      · rw[gW (by rw[ak];exact hi)] at e1
        obtain⟨_,_,_,z,_⟩:=l7 hd e1;cases z
      · rw[iK (by rw[ak];omega),iF] at e1
        split at e1<;>cases e1
  · intro i j c t hij e1
    rw[r] at e1;cases i with
    |zero=>simp at e1
    | succ i =>
      simp only[jk,mV] at e1;by_cases hi:i<ds.length
      · rw[gW (by rw[ak];exact hi)] at e1
        obtain⟨_,_,_,z,_⟩:=l7 hd e1;cases z
      · rw[iK (by rw[ak];omega),iF] at e1
        split at e1<;>cases e1
  · rcases z with z|z
    · exact .inr (.inl z)
    · exact .inr (.inr (.inr z))
noncomputable def C9(b l:ax)(H:Hp):Gx:=⟨some (b,l),H,λ_=>False,[]⟩
def adB(O:fh H b l):Wd (C9 b l H) (λ_=>False) (.raw (.ref a):: .az::cq m .no) (some (.ref a)::some (.ref b)::cq m none) H:=by
  refine⟨λA k e=>(by cases e;exact O),λ_ z=>z.elim,λ_ _ _ e=>e,λ_ z=>z.elim,λ_ z=>z.elim,by simp,λA k e=>(by cases e;exact O),λ_ m=>(by cases m),λi s e=>?_,?_,?_,?_⟩
  · match i with
    |0=>simp at e;subst e;exact⟨_,rfl,rfl⟩
    |1=>simp at e;subst e;exact⟨some (.ref b),rfl,b,l,rfl,rfl⟩
    | i + 2 =>
      simp only[mV,iF] at e⊢;split at e;· rename_i h;cases e;exact⟨none,if_pos h,trivial⟩
      · cases e
  · intro i j a f as c g cs hij e1
    match i with
    |0=>simp at e1
    |1=>simp at e1
    | i + 2 =>
      simp only[mV,iF] at e1;split at e1<;>cases e1
  · intro i j a f as c g cs hij e1
    match i with
    |0=>simp at e1
    |1=>simp at e1
    | i + 2 =>
      simp only[mV,iF] at e1;split at e1<;>cases e1
  · intro i j c t hij e1
    match i with
    |0=>simp at e1
    |1=>simp at e1
    | i + 2 =>
      simp only[mV,iF] at e1;split at e1<;>cases e1
def ZU(h2:∀H,D.rt (.bl true) H):JY (C9 b l H) {nx:=λ_=>False,rt:=λ_ d=>d= .bool true} D:=
 ⟨λ_ _ _ _ q _=>q.elim,λ_ _ _ _ q _=>q.elim,λ_ _ _ _ q _=>q.elim,λ_ _ _ f v H d q _ hv=>by subst q;unfold ah at hv;subst hv;exact h2 H,λ_ _ _ _ _ q _=>q.elim⟩
end
namespace R
def di{P:Int->Prop}{i:Int}(h:P i):∃j,bj i= .int j/\P j:=⟨i,rfl,h⟩
def db{P:Bool->Prop}{i:Bool}(h:P i):∃j,lr i= .bool j/\P j:=⟨i,rfl,h⟩
def dl{P:List PyData->Prop}{i:List PyData}(h:P i):∃j,eA i= .list j/\P j:=⟨i,rfl,h⟩
def dt{P:List PyData->Prop}{i:List PyData}(h:P i):∃j,p0 i= .tuple j/\P j:=⟨i,rfl,h⟩
def NA{P:List PyData->Prop}{i:List PyData}(h:P i):∃j,(eA i= .list j\/eA i= .tuple j)/\P j:=⟨i, .inl rfl,h⟩
def afv{P:Bool->Prop}{i j:Int}(h:P (decide (i=j))):∃b,jc (.int i) (.int j) b/\P b:=⟨_, .ii i j,h⟩
def at_{k:Int}{e:PyData}{P:PyData->Prop}(h:bU ds k=some e)(q:P e):∃e,bU ds k=some e/\P e:=⟨e,h,q⟩
def acd{A:Prop}(q:A):([]:List Fd).length<=10000/\A:=⟨⋯,q⟩
def Hq{C A:Prop}(c:C)(q:A):C/\A:=⟨c,q⟩
end R
def dM{F:DF}{Q:VK}{E:XK}(h:aM n F vs H Q E):∃(nb:ax->Prop) (ds:List PyData) (Φ:Pd),iX nb H/\af nb H ds vs/\(∀f d v H',Φ f d->cT H H'->ah (λa=>nb a\/(f=true/\H a≠none)) H' d v->Q v H')/\F ds Φ:=by
 obtain⟨_,nb,ds,h1,h2,h3⟩:=h;exact⟨nb,ds,_,h1,h2,λf d v H' q=>q v H',h3⟩
def pV{F:DF}{Q:VK}{E:XK}(h:ir n F vs H Q E):∃(b l:ax) (ws:List V) (nb:ax->Prop) (ds:List PyData) (Φ:Pd),vs= .ref b::ws/\fh H b l/\iX nb H/\nb b/\af nb H ds ws/\(∀f d v H',Φ f d->bu (Nb b) H H'->fh H' b l->ah (λa=>nb a\/(f=true/\H a≠none)) H' d v->Q v H')/\F ds Φ:=by
 obtain⟨_,b,l,ws,nb,ds,e,O,h1,hb,h2,h3⟩:=h;exact⟨b,l,ws,nb,ds,_,e,O,h1,hb,h2,λf d v H' q=>q v H',h3⟩
noncomputable abbrev ao:=List (Int×Int)
noncomputable abbrev Wo:=List (Option Int)
noncomputable abbrev dW(prs:ao):PyData:= .list (prs.map F1)
noncomputable abbrev bI(wd:Wo):PyData:= .list (wd.map bJ)
noncomputable abbrev bR(p n:Int)(cs:List ao):PyData:= .tuple [.int p, .int n, .list (cs.map dW)]
def Ge(prs:ao)(wd:Wo):Prop:=∃pr∈prs,wd[pr.1.toNat]?=some none
noncomputable instance{prs:ao}{wd:Wo}:Decidable (Ge prs wd):=by unfold Ge;infer_instance
noncomputable def qp(p:Int)(prs:ao)(wd:Wo):Option Int:=if Ge prs wd then none else some (aT prs wd%p)
def nX(prs:ao)(m:Nat):Prop:=∀pr∈prs,0<=pr.1/\pr.1<m/\Sm pr.2
def dN(wd:Wo):Prop:=∀x,some x∈wd->Sm x
theorem rZ{c:Type}{xs:List α}(φ:α->c){k:Int}{m:Nat}(h0:0<=k)(h1:k<m)(hm:m=xs.length):∃x,xs[k.toNat]?=some x/\bU (xs.map φ) k=some (φ x):=by
 have hk:k.toNat<xs.length:=∅
 exact⟨xs[k.toNat],aS hk,j6 h0 (by rw[cS,aS hk];rfl)⟩
def cK{α c:Type}{xs:List α}{φ:α->c}{d:c}(h:(xs.map φ)[i]?=some d):∃x,xs[i]?=some x/\d=φ x:=by
 rw[cS] at h;obtain⟨x,hx,e⟩:=lH.mp h;exact⟨x,hx,e.symm⟩
def FX{α:Type}{xs:List α}{x:α}(h:xs[i]?=some x):xs.take (i+1)=xs.take i++[x]:=by
 rw[Dt,h];rfl
def nE(o:Option Int):uF (bJ o)=o.isNone:=by cases o<;>rfl
structure Eu(p b L lt r t:Int):Prop where
 l0:0<L
 r0:0<=r
 lp:L<=p
 rp:r<=p
 lc:∃k,L=lt*b+p*k
 rc:∃k,r=t*b+p*k
 dv:∀d,d∣L->d∣r->d∣p/\d∣b%p
 sz:(t.natAbs:Int)*L+(lt.natAbs:Int)*r<=p
theorem Eu.start{b:Int}(hp:2<=p):Eu p b p 0 (b%p) 1:=by
 have m1:=i7 b (show p≠0 by omega);have m2:=iY b (show 0<p by omega);refine⟨∅,m1,Int.le_refl _,∅,⟨1,by rw[se,Int.zero_add,Cp]⟩,⟨-(b/p),?_⟩,λd h1 h2=>⟨h1,h2⟩,?_⟩
 .have:=mD b p;rw[A9,Bh];omega
 .show(1:Int)*p+0*(b%p)<=p;rw[A9,se];omega
theorem Eu.tb{b L lt r t:Int}(h:Eu p b L lt r t): -p<=t/\t<=p:=by
 have h1:(t.natAbs:Int)*1<=(t.natAbs:Int)*L:=v5 (by have:=h.l0;omega) ∅;have h2:0<=(lt.natAbs:Int)*r:=tJ ∅ h.r0;have:=h.sz;omega
theorem Eu.next{b L lt r t:Int}(h:Eu p b L lt r t)(hr:0<r):Eu p b r t (L-L/r*r) (lt-L/r*t)/\L-L/r*r<r:=by
 have e:=mD L r;have m1:=i7 L (show r≠0 by omega);have m2:=iY L hr;have e':L-L/r*r=L%r:=by rw[mJ (L/r) r];omega
 have q0:0<=L/r:=zF (by have:=h.l0;omega) ∅;obtain⟨k1,c1⟩:=h.lc;obtain⟨k2,c2⟩:=h.rc;refine⟨⟨hr,∅,h.rp,by have:=h.rp;omega,h.rc,⟨k1-L/r*k2,?_⟩,λd d1 d2=>?_,?_⟩,∅⟩
 .rw[zC,m8];generalize L/r=q at*;have z:q*r=q*(t*b)+q*(p*k2):=by rw[<-Co,<-c2]
  have z1:q*(t*b)=q*t*b:=(ki q t b).symm;have z2:q*(p*k2)=p*(q*k2):=by rw[<-ki,mJ q p,ki]
  omega
 .have c:d∣L:=by
   have z:d∣(L-L/r*r)+L/r*r:=Int.dvd_add d2 (Int.dvd_mul_of_dvd_right d1);have z2:(L-L/r*r)+L/r*r=L:=∅
   rwa[z2] at z
  exact h.dv d c d1
 .generalize L/r=q at*;have a1:((lt-q*t).natAbs:Int)<=(lt.natAbs:Int)+q*(t.natAbs:Int):=by
   have b1:(lt-q*t).natAbs<=lt.natAbs+(q*t).natAbs:=∅
   have b2:((q*t).natAbs:Int)=q*(t.natAbs:Int):=by
    rw[JU];have:(q.natAbs:Int)=q:=∅
    rw[sk,this]
   omega
  have a2:((lt-q*t).natAbs:Int)*r<=((lt.natAbs:Int)+q*(t.natAbs:Int))*r:=KW a1 ∅;have g:((lt.natAbs:Int)+q*(t.natAbs:Int))*r=(lt.natAbs:Int)*r+q*(t.natAbs:Int)*r:=DV _ _ _;have a:(t.natAbs:Int)*(L-q*r)=(t.natAbs:Int)*L-q*(t.natAbs:Int)*r:=by
   rw[m8,<-ki,mJ (t.natAbs:Int) q]
  have:=h.sz;omega
def Qp{α:Type}{us:List α}(h:us.length=1):∃a,us=[a]:=by
  cases us with
  |nil=>cases h
  | cons a us =>
    cases us with
    |nil=>exact⟨a,rfl⟩
    |cons _ _=>cases h
def ln2{α:Type}{us:List α}(h:us.length=2):∃a b,us=[a,b]:=by
  cases us with
  |nil=>cases h
  | cons a us =>
    obtain⟨b,rfl⟩:=Qp (us:=us) (zd h);exact⟨a,b,rfl⟩
def LV{α:Type}{us:List α}(h:us.length=3):∃a b c,us=[a,b,c]:=by
  cases us with
  |nil=>cases h
  | cons a us =>
    obtain⟨b,c,rfl⟩:=ln2 (us:=us) (zd h);exact⟨a,b,c,rfl⟩
def Rj{α:Type}{us:List α}(h:us.length=4):∃a b c d,us=[a,b,c,d]:=by
  cases us with
  |nil=>cases h
  | cons a us =>
    obtain⟨b,c,d,rfl⟩:=LV (us:=us) (zd h);exact⟨a,b,c,d,rfl⟩
def XJ{α:Type}{us:List α}(h:us.length=5):∃a b c d e,us=[a,b,c,d,e]:=by
  cases us with
  |nil=>cases h
  | cons a us =>
    obtain⟨b,c,d,e,rfl⟩:=Rj (us:=us) (zd h);exact⟨a,b,c,d,e,rfl⟩
def lV(xs:Array Nat):Prop:=∀(i j x y:Nat),i<j->xs[i]?=some x->xs[j]?=some y->x<y
theorem abA{xs:Array Nat}{q:Nat}(hr:lV xs):∀(f lo hi:Nat),hi<=xs.size->lo<=hi->hi-lo<=f->(∀i x,i<lo->xs[i]?=some x->x<q)->(∀i x,hi<=i->xs[i]?=some x->q<=x)->
    lo<=fM xs q f lo hi/\fM xs q f lo hi<=hi/\(∀i x,i<fM xs q f lo hi->xs[i]?=some x->x<q)/\(∀i x,fM xs q f lo hi<=i->xs[i]?=some x->q<=x):=by
  intro f;induction f with
  | zero =>
    intro lo hi h1 h2 h3 h4 h5;have e:lo=hi:=∅
    subst e;exact⟨aH _,aH _,h4,h5⟩
  | succ f ih =>
    intro lo hi h1 h2 h3 h4 h5;unfold fM;by_cases hlt:lo<hi
    · rw[if_pos hlt]
      have hm:(lo+hi)/2<xs.size:=∅
      have hg:xs[(lo+hi)/2]?=some xs[(lo+hi)/2]:=mj hm;have b:xs.getD ((lo+hi)/2) q=xs[(lo+hi)/2]:=by rw[GV,hg];rfl
      dsimp only;rw[b];by_cases hc:xs[(lo+hi)/2]<q
      · rw[if_pos hc]
        obtain⟨a1,a2,g,a⟩:=ih ((lo+hi)/2+1) hi h1 ∅ ∅ (λi x c e=>by
          rcases xk i ((lo+hi)/2) with z|z
          · exact uT (hr i _ x _ z e hg) hc
          · have:i=(lo+hi)/2:=∅
            subst this;rw[hg] at e;cases e;exact hc) h5
        exact⟨∅,a2,g,a⟩
      · rw[if_neg hc]
        obtain⟨a1,a2,g,a⟩:=ih lo ((lo+hi)/2) ∅ ∅ ∅ h4 (λi x c e=>by
          rcases xk ((lo+hi)/2) i with z|z
          · exact eZ (yT (Ez hc) (hr _ i _ x z hg e))
          · have:i=(lo+hi)/2:=∅
            subst this;rw[hg] at e;cases e;exact Ez hc)
        exact⟨a1,∅,g,a⟩
    · rw[if_neg hlt]
      have e:lo=hi:=∅
      subst e;exact⟨aH _,aH _,h4,h5⟩
theorem below_at{xs:Array Nat}{q:Nat}(hr:lV xs):SetTable.below xs q<=xs.size/\(∀i x,i<SetTable.below xs q->xs[i]?=some x->x<q)/\(∀i x,SetTable.below xs q<=i->xs[i]?=some x->q<=x):=by
 obtain⟨_,h2,h3,h4⟩:=abA (q:=q) hr xs.size 0 xs.size (aH _) (eT _) ∅ (λi x h=>absurd h (Nat.not_lt_zero _)) (λi x h e=>by
  have:=(qX.mp e).1;omega)
 exact⟨h2,h3,h4⟩
theorem Ul{α:Type}{xs:Array α}{p:Nat}{x:α}(hp:p<=xs.size)(i:Nat):(kr xs p x)[i]?=if i<p then xs[i]? else if i=p then some x else xs[i-1]?:=by
 unfold kr;rw[Nc];have e1:((xs.extract 0 p).push x).size=p+1:=by rw[uC,gK];omega
 rw[e1];by_cases h1:i<p
 .rw[if_pos (show i<p+1 by omega),if_pos h1,Kv,if_neg (by rw[gK];omega),Qz ∅];simp
 .rw[if_neg h1];by_cases h2:i=p;·rw[if_pos (show i<p+1 by omega),if_pos h2,Kv,if_pos (by rw[gK];omega)]
  .rw[if_neg (show¬i<p+1 by omega),if_neg h2];by_cases h3:i-(p+1)<xs.size-p;·rw[Qz ∅,<-mj,show p+(i-(p+1))=i-1 by omega]
   .rw[EH (by rw[gK];omega),EH ∅]
theorem lV.insert{xs:Array Nat}{q:Nat}(hr:lV xs)(hq:xs[SetTable.below xs q]?≠some q):lV (kr xs (SetTable.below xs q) q):=by
 obtain⟨h1,h2,h3⟩:=below_at (q:=q) hr;have d:∀i x,SetTable.below xs q<=i->xs[i]?=some x->q<x:=λi x hi e=>by
  rcases En (h3 i x hi e) with z|z
  .exact z
  .subst z;rcases En hi with z|z
   .have hb:SetTable.below xs q<xs.size:=fJ z (eZ (qX.mp e).1);have hg:xs[SetTable.below xs q]?=some xs[SetTable.below xs q]:=mj hb;have:=hr _ i _ q z hg e;have:=h3 _ _ (aH _) hg;omega
   .rw[<-z] at e;exact absurd e hq
 intro i j x y hij ex o;rw[Ul h1] at ex o;by_cases a:i<SetTable.below xs q
 .rw[if_pos a] at ex;by_cases b:j<SetTable.below xs q;·rw[if_pos b] at o;exact hr i j x y hij ex o
  .rw[if_neg b] at o;by_cases c:j=SetTable.below xs q;·rw[if_pos c] at o;cases o;exact h2 i x a ex
   .rw[if_neg c] at o;exact hr i (j-1) x y ∅ ex o
 .rw[if_neg a] at ex;by_cases c:i=SetTable.below xs q
  .rw[if_pos c] at ex;cases ex
   rw[if_neg ∅,if_neg ∅] at o;exact d (j-1) y ∅ o
  .rw[if_neg c] at ex;rw[if_neg ∅,if_neg ∅] at o;exact hr (i-1) (j-1) x y ∅ ex o
def agP{t:eQ}{h:Int}:∀(f:Nat) (p:t2) (j:Nat) (a:Option Nat),(∀d,p.dummy=some d->t.slot d= .dummy)->kv t ha h f p=some (.empty j a)->t.slot j= .empty/\∀d,a=some d->t.slot d= .dummy:=by
  intro f;induction f with
  |zero=>intro p j a _ e;unfold kv at e;cases e
  | succ f ih =>
    intro p j a hd e;have b:∀p:t2,(t.advance p).dummy=p.dummy:=λp=>by unfold SetTable.advance;split<;>rfl
    unfold kv at e;cases hs:t.slot p.j with
    |empty=>rw[hs] at e;cases e;exact⟨hs,hd⟩
    |dummy=>rw[hs] at e;exact ih _ j a (λd h'=>by rw[b] at h';cases h';exact hs) e
    | live i =>
      rw[hs] at e;dsimp only at e;split at e;· cases e
      · exact ih _ j a (λd h'=>by rw[b] at h';exact hd d h') e
def Qm{t:eQ}{h:Int}{wd:Bool}(e:t.freeSlot h=some (j,wd)):∀i,t.slot j≠ .live i:=by
 unfold SetTable.freeSlot SetTable.probe at e;intro i z;split at e
 .rename_i j0 dm he
  obtain⟨h1,h2⟩:=agP (10*SetTable.turns t.mask) (t.probeStart h) j0 dm (λd h'=>by unfold SetTable.probeStart at h';cases h') he;cases dm with
  |none=>cases e;simp at z;rw[h1] at z;cases z
  |some d=>cases e;simp at z;rw[h2 d rfl] at z;cases z
 .cases e
structure fP(bt:Bool)(t:eQ):Prop where
 led:bt=false->t.led=true
 J6:t.plain=true->lV t.place
theorem fP.standIn{bt:Bool}{t:eQ}(h:fP bt t)(n:Nat):fP bt (t.standIn n):=⟨h.led,λz=>by cases z⟩
def fP.off{t:eQ}(h:fP bt t):fP bt {t with plain:=false}:=⟨h.led,λz=>by cases z⟩
theorem fP.put{bt:Bool}{t:eQ}{j:Nat}(h:fP bt t)(hj:∀i,t.slot j≠ .live i):fP bt (t.put j).1:=by
 refine⟨h.led,λz=>?_⟩;refine lV.insert (h.J6 z) λe=>hj (SetTable.below t.place j) ?_;unfold SetTable.slot;dsimp only;rw[if_pos (by rw[e];exact beq_self_eq_true _)]
theorem fP.layNew{bt:Bool}{t:eQ}{es:Array (Int×ar)}{h:Int}{x:ar}(ok:fP bt t):fP bt (layNew t es h x).2.1:=by
 unfold PySem.layNew;split
 .rename_i slot wd e
  dsimp only;unfold SetTable.orStandIn;split;·exact ok.put (Qm e)
  .exact(ok.put (Qm e)).standIn _
 .exact ok.standIn _
def ZF(n:Nat)(φ:Nat->Option Nat):lV (((cv n).filterMap λj=>(φ j).map (j,·)).map (·.1)).toArray:=by
  have hp:(((cv n).filterMap λj=>(φ j).map (j,·)).map (·.1)).Pairwise (· < ·):=by
    have hs:List.Sublist (((cv n).filterMap λj=>(φ j).map (j,·)).map (·.1)) (cv n):=by
      induction cv n with
      |nil=>simp
      | cons a r ih =>
        rw[r6];cases φ a with
        |none=>exact ih.cons a
        |some y=>exact ih.cons₂ a
    exact List.pairwise_lt_range.sublist hs
  intro i j x y hij ex ey;rw[L6] at ex ey;obtain⟨hi,rfl⟩:=bV.mp ex;obtain⟨hj,rfl⟩:=bV.mp ey;exact JD.mp hp i j hi hj hij
def fP.IV{t:eQ}(ok:fP bt t):fP bt (nz t es n).2.1:=by
  unfold nz;split
  · rename_i t' order e
    dsimp only;split
    · unfold SetTable.relaid SetTable.laid at e
      cases hl:SetTable.layClean (SetTable.sizeAbove n-1) (es.map (·.1)) with
      |none=>rw[hl] at e;cases e
      | some owner =>
        rw[hl] at e;cases e;exact⟨ok.led,λ_=>ZF _ _⟩
    · exact ok.standIn _
  · exact ok.standIn _
theorem fP.fresh{bt:Bool}:fP bt (.fresh 0 0 (!bt)):=⟨λh=>by rw[h];rfl,λ_ i j x y _ e=>by simp[SetTable.fresh] at e⟩
def iB(bt:Bool)(h:e6)(a:ax):Prop:=∀o es ep t,h.get? a=some o->o.data= .set es ep t->fP bt t
def iB.of{t:eQ}(e:h.get? a=some o)(d:o.data= .set es ep t)(k:fP bt t):iB bt h a:=λo' es' f t' e' d'=>by
 rw[e] at e';cases e';rw[d] at d';cases d';exact k
def iB.keep(k:iB bt h a)(e:h.get? a=some o)(e':h'.get? a=some o):iB bt h' a:=λo1 es ep t x d=>by
 rw[e'] at x;cases x;exact k o es ep t e d
section
variable{prog:cj}{w:dc}{A:c5}{E:ar->au->Prop}{s:au}{a:ax}{bt:Bool}
noncomputable abbrev IK(prog:cj)(w:dc):=intKind prog w
def QI{es':Array (Int×ar)}{t t':eQ}{T:Int->Bool}(g1:h.get? a=some o)(g2:o.ExactSet)(N:o.data= .set es ep t)(O:ElemsOf (IK prog w) es'.toList)
  (G:∀k,T k=true↔∃e∈es'.toList,(IK prog w).is k e.2=true) (r:es'.size<hF) (i:t'.fits es'.size=true) (tk:fP bt t'):
  (∃o',(h.update a (oy es' t')).get? a=some o'/\o'.ExactSet/\o'.data= .set es' (ep+1) t')/\(h.update a (oy es' t')).SetOf (IK prog w) a T es'.size/\iB bt (h.update a (oy es' t')) a:=by
 obtain⟨J,q2⟩:=SetOf_store (knd:=IK prog w) (es':=es') (t':=t') (S':=T) g1 g2 N O G r i;exact⟨⟨_,J,g2,rfl⟩,q2, .of J rfl tk⟩
def Pz{j:Bool->Sem Unit}(g:∀(b:Bool) (s₁:au) (Q₁:Unit->au->Prop),Q₁ () s₁->wpAny (bo prog w) A (j b) Q₁ E s₁){o:Obj}{es:Array (Int×ar)}{ep:Nat}{t:eQ}
    (g1:s.heap.get? a=some o) (g2:o.ExactSet) (N:o.data= .set es ep t) {d:Array (Int×ar)} {y:eQ} {T:Int->Bool} (O:ElemsOf (IK prog w) d.toList) (G:∀k,T k=true↔∃e∈d.toList,(IK prog w).is k e.2=true)
    (r:d.size<hF) (i:y.fits d.size=true) (tk:fP bt y) {wd:Bool} {R:Option Bool->au->Prop}
    (fin:∀h',fw a s.heap h'->h'.SetOf (IK prog w) a T d.size->iB bt h' a->R (some true) {s with heap:=h'}):
    wpAny (bo prog w) A (do storeSet a d y
                               if(!wd && y.tooFull)=true then do
                                 j (nz y d (fq d.size)).2.2
                                 storeSet a (nz y d (fq d.size)).1 (nz y d (fq d.size)).2.1
                                 pure (some true)
                               else pure (some true)) R E s:=by
  obtain⟨⟨o1,k1,k2,k3⟩,J,q2⟩:=QI (T:=T) g1 g2 N O G r i tk;have sb:=mI s.heap a (oy d y);refine ae (oC g1 N ?_ (hY r));by_cases c:(!wd && y.tooFull)=true
  · rw[if_pos c]
    have pp:=relayAll_perm y d (fq d.size);have pf:=relayAll_fits y d (fq d.size);have pt:=tk.IV (es:=d) (n:=fq d.size);generalize nz y d (fq d.size)=Z at pp pf pt⊢;obtain⟨h,V,l⟩:=Z;dsimp only at pp pf pt⊢;have sz:h.size=d.size:=by have:=pp.length_eq;rwa[dS,dS] at this
    have f:∀k,T k=true↔∃e∈h.toList,(IK prog w).is k e.2=true:=λk=>(G k).trans ⟨λ⟨e,m,z⟩=>⟨e,pp.mem_iff.mpr m,z⟩,λ⟨e,m,z⟩=>⟨e,pp.mem_iff.mp m,z⟩⟩;obtain⟨_,C,Y⟩:=QI (T:=T) k1 k2 k3 (O.perm pp) f (by rw[sz];exact r) pf pt;refine ae (g _ _ _ (ae (oC k1 k3 ?_ (hY (by rw[sz];exact r)))));rw[sz] at C;exact aw (fin _ (sb.trans (mI _ a _)) C Y)
  · rw[if_neg c]
    exact aw (fin _ sb J q2)
def WT{S:Int->Bool}{k:Int}{x:ar}{Q:Bool->au->Prop}(hx:(IK prog w).is k x=true)(sc:x.scannable=true)(M:s.heap.SetOf (IK prog w) a S n)(hT:iB bt s.heap a)(f:n+1<hF)
    (fin:∀h',fw a s.heap h'->h'.SetOf (IK prog w) a (λj=>S j||decide (j=k)) (if S k then n else n+1)->iB bt h' a->Q (!S k) {s with heap:=h'}):
    wpAny (bo prog w) A (setAddHashed a x ((IK prog w).hash k)) Q E s:=by
  obtain⟨o,es,ep,t,g1,g2,N,O,G,r,i,sz⟩:=M;have tk:=hT o es ep t g1 N;unfold setAddHashed setAddHashedIn;refine ej (ae (el g1 N i ?_));dsimp only;rw[if_pos (byScan_of sc r O)];unfold setAddByScan;refine ae (ae (gb (ae (wpAny_setScan_of hx g1 N i O ?_))));cases y:List.findIdx? (λe=>(IK prog w).is k e.2) es.toList with
  | some j =>
    obtain⟨hj,pj,_⟩:=List.findIdx?_eq_some_iff_getElem.mp y;have g:S k=true:=(G k).mpr ⟨_,fU hj,pj⟩
    have z:=fin s.heap (.refl a s.heap) ⟨o,es,ep,t,g1,g2,N,O,λj=>by
      rw[Bool.or_eq_true,decide_eq_true_eq,<-G j];exact⟨λq=>q.elim id λe=>e▸g, .inl⟩,r,i,by rw[if_pos g];exact sz⟩ hT
    rw[g] at z;exact aw (aw z)
  | none =>
    have no:S k=false:=by
      cases q:S k with
      |false=>rfl
      | true =>
        obtain⟨e,m,p⟩:=(G k).mp q;rw[List.findIdx?_eq_none_iff.mp y e m] at p;cases p
    have pp:=layNew_perm t es ((IK prog w).hash k) x;have pf:=layNew_fits t es ((IK prog w).hash k) x;have pt:=tk.layNew (es:=es) (h:=(IK prog w).hash k) (x:=x);dsimp only;generalize layNew t es ((IK prog w).hash k) x=Z at pp pf pt⊢;obtain⟨d,C,wd,l⟩:=Z;dsimp only at pp pf pt⊢;rw[l6] at pp;have u:d.size=n+1:=by have:=pp.length_eq;rw[cH,dS,dS,sz] at this;exact this
    have c:∀h',fw a s.heap h'->h'.SetOf (IK prog w) a (λj=>S j||decide (j=k)) d.size->iB bt h' a->Q true {s with heap:=h'}:=λh' x1 x2 x3=>by
      have:=fin h' x1;rw[no,if_neg cC] at this;rw[u] at x2;exact this x2 x3
    have v:∀(b:Bool) (s₁:au) (Q₁:Unit->au->Prop),Q₁ () s₁->wpAny (bo prog w) A (match b with|true=>rule "set.scan.the-table-gave-way" |false=>pure ()) Q₁ E s₁:=λb s₁ Q₁ q=>by
      cases b;· exact aw q
      · exact gb q
    refine ae (v _ _ _ ?_);have e1:=(O.push hx sc).perm pp;have e2:=mem_push_iff hx G pp;have e3:d.size<hF:=by rw[u];exact f
    by_cases pl:C.plain=true
    · rw[if_pos pl,hashByValue_scannable 8 sc]
      refine ae (aw ?_);refine Pz v g1 g2 N e1 e2 e3 ?_ ?_ λh' x1 x2 x3=>aw (c h' x1 x2 x3)
      · split
        · exact pf
        · exact SetTable.fits_plain_off pf
      · split
        · exact pt
        · exact pt.off
    · rw[if_neg pl]
      refine ae (aw ?_);rw[if_pos rfl];exact Pz v g1 g2 N e1 e2 e3 pf pt λh' x1 x2 x3=>aw (c h' x1 x2 x3)
end
section
variable{prog:cj}{w:dc}{A:c5}{R:Result->au->Prop}{I:ax}{fp wr:List ax}{G:Array rk->Array rk->Prop}{n:Nat}{P:Nat->ar->Prop}{qr:Nat->au->Prop}{bt:Bool}
noncomputable abbrev met(val:Nat->Int)(i:Nat):Int->Bool:=λk=>(hH val i).any (· ==k)
theorem Ta(W:WalksS prog w A.in1 I fp wr G n P qr)(C:ax)(u:C∉fp)(val:Nat->Int)(hv:∀i v,P i v->∃t,v= .int (val i) t)(f:n+1<hF)(a:Nat):
    ∀(i:Nat) (s:Shared),n-i=a->i<=n->qr i s->s.heap.SetOf (IK prog w) C (met val i) (firstMet val i).length->iB bt s.heap C->
      (∀s',Moved (C::wr) G s s'->s'.heap.SetOf (IK prog w) C (met val n) (hH val n).length->iB bt s'.heap C->R (.ok (.ret .none)) s')->
      codeAny (bo prog w) A (.builtin "set.update.loop" ⟨[.ref C, .ref I],[]⟩) R s:=by
  have p:C∉wr:=λz=>u (W.sub _ z);have up:∀b∈wr,b∈C::wr:=λb z=>cF _ z;have h:∀{s s':au} {T:Int->Bool} {m:Nat},Moved wr G s s'->s.heap.SetOf (IK prog w) C T m->iB bt s.heap C->s'.heap.SetOf (IK prog w) C T m/\iB bt s'.heap C:=λd q tt=>by
    obtain⟨o,es,ep,t,ho,r⟩:=q;exact⟨⟨o,es,ep,t,d.heap C _ p ho,r⟩,tt.keep ho (d.heap C _ p ho)⟩
  induction a with
  | zero =>
    intro i s e1 e2 st q tt fin;obtain rfl:i=n:=∅
    refine en lx ?_;rw[qm CU _];refine ae (W.done s _ _ st λs' d=>?_);exact aw (fin s' (d.mono up) (h d q tt).1 (h d q tt).2)
  | succ a ih =>
    intro i s e1 e2 st q tt fin;have lt:i<n:=∅
    refine en lx ?_;rw[qm CU _];refine ae (W.item i s _ _ lt st λv s' hP st' d=>?_);obtain⟨tok,rfl⟩:=hv i v hP;obtain⟨B,c⟩:=h d q tt;show wpAny _ A.in1 (holding [me (val i) tok] (setAdd C (.int (val i) tok))>>=_) _ _ s';unfold setAdd;refine ae (ej (ej (ae ((IK prog w).pyHash (k:=val i) (vL _ _ _ _) ?_))));refine WT (bt:=bt) (s:={s' with toks:=s'.toks+1}) (vL _ _ _ _) rfl B c (by have:=firstMet_length_le val i;omega) λh' sb q2 x=>?_;have U:h'.SetOf (IK prog w) C (met val (i+1)) (hH val (i+1)).length:=SetOf_congr q2 (λj=>by unfold met;rw[nC,step_any]) (by rw[nC,step_length]);refine aw ⟨hJ CU _,ih (i+1) _ ∅ lt (W.frame _ s' _ _ st' (sf _) λb hb o e=>?_) U x λs2 l D g=>?_⟩;· rw[sb.2 b λz:b=C=>u (z▸hb)];exact e
    · refine fin s2 (Moved.trans W.gtrans ((d.mono up).then_heap (sf _) λb o hb e=>?_) l) D g
      rw[sb.2 b λz:b=C=>hb (z▸cP)];exact e
end
section
variable{prog:cj}{w:dc}{A:c5}{E:ar->au->Prop}{s:au}
noncomputable abbrev gz(w:dc):Bool:=w.params.followText "set-order"
noncomputable abbrev m5(w:dc):Obj:={cls:= .type "set",dict:=none,data:= .set #[] 0 (.fresh 0 0 (!gz w))}
def aaf(a:ar){Q₁:ar->au->Prop}(fin:Q₁ (.ref s.heap.objs.size) {s with heap:=s.heap.push (m5 w)}):codeAny (bo prog w) A (.call (.builtin "set.__new__") ⟨[.type "set",a],[]⟩) (wants Q₁ E) s:=by
 refine so ?_;show wpAny _ A.in1 (do checkBuiltinCall "set.__new__" ⟨[.type "set",a],[]⟩;again (.builtin "set.__new__" ⟨[.type "set",a],[]⟩)) _ _ s;refine ae (wpAny_of_eq (F.newCall_set_1 a) (aw ⟨hJ sv _,en F.entry_set_new ?_⟩));rw[qm sv _];unfold j1.«set.__new__» tD;have hsub:=sub_set_self;obtain⟨hp,g,d,tk,os⟩:=s;dsimp only at fin⊢
 wp_walk
 refine fg (aw ?_);dsimp only;simp only[newObj];exact ae (wpAny_alloc (aw (aw fin)))
theorem O5{l:ax}(L:A.handled=none)(hl:s.heap.IsList l items)(hi:eI items.toList ns)(f:items.size+1<hF)
    (fin:∀(h':e6) (tk:Nat),h'.SetOf (IK prog w) s.heap.objs.size (met (λi=>ns.getD i 0) items.size) (hH (λi=>ns.getD i 0) items.size).length->iB (gz w) h' s.heap.objs.size->
      (∀b o,b<s.heap.objs.size->s.heap.get? b=some o->h'.get? b=some o)->Q (.ref s.heap.objs.size) {s with heap:=h',toks:=tk}):wpAny (bo prog w) A (call (.type "set") [.ref l]) Q E s:=by
  obtain⟨c,tl,y⟩:=o7.mro;have hmade:=o7.made;have hsub:=o7.sub;have h1:=o7.notType;have h2:=o7.canCreate;have hct:=F.typeCall_set_1 (.ref l);refine vF (so ?_);show wpAny _ _ (callAny (.type "set") _) _ _ _;refine aw ⟨Code.quiet_builtin _ (by decide+kernel),en F.entry_type_call ?_⟩;rw[Around.under_plain (weight_type_call_type "set" [.ref l] []) rfl]
  repeat (any_goals (first|assumption|wp_step))
  refine ik (aaf (.ref l) (E:=E) (Q₁:=λobj s₁=>obj= .ref s.heap.objs.size/\s₁={s with heap:=s.heap.push (m5 w)}) ⟨rfl,rfl⟩) λr s₁ hr=>?_;cases r with
  |error e=>exact hr
  | ok fl =>
    cases fl with
    | ret obj =>
      obtain⟨rfl,rfl⟩:=hr;have M:(s.heap.push (m5 w)).get? s.heap.objs.size=some (m5 w):=gf _ rfl;have hT:Shared.TypeIs {s with heap:=s.heap.push (m5 w)} (.ref s.heap.objs.size) "set":=⟨_,M,rfl⟩;have hli:=o7.init.lookup;have hbi:=o7.init.bind (.ref s.heap.objs.size)
      repeat (any_goals (first|assumption|wp_step))
      refine ik (codeAny_call_builtin (R:=wants (λr d=>r= .none/\∃h' tk,d={s with heap:=h',toks:=tk}/\h'.SetOf (IK prog w) s.heap.objs.size (met (λi=>ns.getD i 0) items.size) (hH (λi=>ns.getD i 0) items.size).length/\iB (gz w) h' s.heap.objs.size/\
          (∀b o,b<s.heap.objs.size->s.heap.get? b=some o->h'.get? b=some o)) E) o7.init.plain F.entry_set_init (check_set_init_1 hT ?_)) λh d m=>?_
      · obtain⟨D,X,hcl,p,n⟩:=hl
        obtain⟨B,t,G,x⟩:=D;simp only at hcl n;subst hcl;subst n;have af1:=cJ (m5 w) X;have aix:=F.sub_list_set;have aiz:=F.sub_list_frozenset;have T:(gT "list"==gT "dict")=false:=⋯
        have hl1:(s.heap.push (m5 w)).IsList l items:=⟨_,af1,rfl,p,rfl⟩;unfold j1.«set.__init__» noKeywords rl;generalize C:C2=PI
        wp_walk
        subst C;refine kn hl1 (ae (my ?_));have k:l<s.heap.objs.size:=cD X;have u:(s.heap.push (m5 w)).objs.size=s.heap.objs.size+1:=mP ..;have n1:l≠(s.heap.push (m5 w)).objs.size:=by rw[u];exact eS (pQ k)
        have n2:s.heap.objs.size∉[(s.heap.push (m5 w)).objs.size,l]:=by
          rw[u];intro z;rcases aK.mp z with z|z
          · exact absurd z (eS (pX _))
          · exact absurd (aY.mp z) (sr k)
        have h3:A.in1.in1.in1.handled=none:=by simp[L]
        have hS':=cJ ({cls:= .type "list_iterator",data:= .fields #[.ref l, .int 0 0]}:Obj) M
        refine Ta (bt:=gz w) ((EB h3 _ l n1 items).toS) s.heap.objs.size n2 (λi=>ns.getD i 0) (λi v e=>IntsAre.int_at hi i v (by rw[jK];exact e)) f (items.size-0) 0 _ ∅ (eT _)
          ⟨⟨_,gf _ rfl,rfl,rfl⟩,(hl1.push _)⟩ (SetOf_congr ((setObjOf_fresh (knd:=IK prog w) (!gz w)).setOf hS' (by unfold hF;omega)) (λ_=>rfl) rfl) (.of hS' rfl .fresh) ?_
        intro s' mo q tt;obtain⟨h',g',d',j,a⟩:=s';obtain rfl:g'=s.gens:=mo.gens;obtain rfl:d'=s.drawn:=mo.drawn;obtain rfl:a=s.os:=mo.os;refine aw (aw ⟨rfl,h',j,rfl,q,tt,λb o hb e=>?_⟩);refine mo.heap b o (λz=>?_) (cJ _ (cJ _ e));rcases aK.mp z with z|z
        · exact absurd z (eS hb)
        · rw[u] at z;exact absurd (aY.mp z) (eS (pQ hb))
      · cases h with
        |error e=>exact m
        | ok g =>
          cases g with
          | ret r =>
            obtain⟨rfl,h',tk,rfl,J,q2,U⟩:=m
            repeat (any_goals (first|assumption|wp_step))
            exact fin _ _ J q2 U
          |_=>exact m.elim
    |_=>exact hr.elim
end
def jY:Slot "set_iterator" "__next__" "set_iterator.__next__":= .of (owner:="set_iterator") (n:="__next__") (by rw[mi,iq];kernel_rfl) (by decide+kernel) (by decide+kernel) (by decide+kernel) (by first|exact .inl (by decide+kernel)|exact .inr (by decide+kernel)) (by rw[kk];kernel_rfl)
def AJ:D1 table "set_iterator.__next__"=some j1.«set_iterator.__next__» :=entryFor_of_tree (by kernel_rfl)
def zE(a:ar):xl "set_iterator.__next__" ⟨[a],[]⟩:=by unfold xl;kernel_rfl
def Ql:Slot "set" "__iter__" "set.__iter__":= .of (owner:="set") (n:="__iter__") (by rw[mi,iq];kernel_rfl) (by decide+kernel) (by decide+kernel) (by decide+kernel) (by first|exact .inl (by decide+kernel)|exact .inr (by decide+kernel)) (by rw[kk];kernel_rfl)
def TV:D1 table "set.__iter__"=some j1.«frozenset.__iter__» :=t4 (id':="frozenset.__iter__") (by kernel_rfl) rfl (by decide+kernel) (by kernel_rfl)
def ahk(a:ar):xl "set.__iter__" ⟨[a],[]⟩:=by unfold xl;kernel_rfl
def rM:Slot "set_iterator" "__iter__" "set_iterator.__iter__":= .of (owner:="set_iterator") (n:="__iter__") (by rw[mi,iq];kernel_rfl) (by decide+kernel) (by decide+kernel) (by decide+kernel) (by first|exact .inl (by decide+kernel)|exact .inr (by decide+kernel)) (by rw[kk];kernel_rfl)
def Ju:D1 table "set_iterator.__iter__"=some j1.«dict_keyiterator.__iter__» :=t4 (id':="dict_keyiterator.__iter__") (by kernel_rfl) rfl (by decide+kernel) (by kernel_rfl)
def E9(a:ar):xl "set_iterator.__iter__" ⟨[a],[]⟩:=by unfold xl;kernel_rfl
section
variable{prog:cj}{w:dc}{A:c5}{E:ar->au->Prop}{s:au}{a it tp:ax}{o:Obj}{es:Array (Int×ar)}{ep:Nat}{t:eQ}
theorem Df{α:Type}:∀{l:List α} {i:Nat} (h:i<l.length),(l[i]::l.eraseIdx i).Perm l
  |b::r,0,_=>by simp
  | b :: r, i + 1, h => by
    have:=Df (l:=r) (i:=i) (by simpa using h);simp only[List.getElem_cons_succ,List.eraseIdx_cons_succ];exact(FK b _ _).trans (this.cons b)
theorem JI(nx:Nat->Nat):∀(f k:Nat) (l:List α) (out:Array α),l.length<=f->(p1 nx f k l out).toList.Perm (out.toList++l):=by
  intro f;induction f with
  | zero =>
    intro k l out h;have:l=[]:=pF.mp ∅;subst this;unfold p1;simp
  | succ f ih =>
    intro k l out h;unfold p1;cases l with
    |nil=>simp
    | cons b r =>
      have hlt:nx k%(b::r).length<(b::r).length:=rD _ (by simp);rw[aS hlt];dsimp only;refine(ih (k+1) _ _ (by rw[D0 hlt];omega)).trans ?_;rw[l6,fj];refine m9 _ ?_;exact Df hlt
def RY(bt:gz w=true)(g1:s.heap.get? a=some o)(N:o.data= .set es ep t)(g:t.fits es.size=true){i sl:Nat}{Q:Option (ar×Nat)->au->Prop}
  (h:Q (((eJ (w.params.setOrder a ep) es)[i]?).map λe=>(e.2,sl)) s):wpAny (bo prog w) A (oE a sl i ep) Q E s:=by
 unfold oE;refine ae (el g1 N g ?_);dsimp only;unfold oI;refine ae (ae (fg (aw ?_)));show wpAny _ _ (if gz w=true then _ else _) _ _ _;rw[if_pos bt];rw[if_neg (by simp)];refine ae ?_;unfold setWalk;refine ae (el g1 N g ?_);dsimp only;unfold oI;refine ae (ae (fg (aw ?_)));show wpAny _ _ (if gz w=true then _ else _) _ _ _;rw[if_pos bt];refine ae (fg (aw ?_));exact aw h
theorem PX(bt:gz w=false)(g1:s.heap.get? a=some o)(N:o.data= .set es ep t)(g:t.fits es.size=true)(tk:fP (gz w) t)(pl:t.plain=true\/es.size<=1){i sl:Nat}{Q:Option (ar×Nat)->au->Prop}
  (h:Q (match es[SetTable.below t.place sl]?,t.place[SetTable.below t.place sl]? with|some (_,x),some j=>some (x,j+1)|_,_=>none) s):wpAny (bo prog w) A (oE a sl i ep) Q E s:=by
 unfold oE;refine ae (el g1 N g ?_);dsimp only;unfold oI;refine ae (ae (fg (aw ?_)));show wpAny _ _ (if gz w=true then _ else _) _ _ _;rw[bt,if_neg cC];show wpAny _ _ (if(!t.plain && decide (es.size>1))=true then _ else _) _ _ _
 rw[if_neg (by
  intro z;rw[fQ,rS,decide_eq_true_eq] at z;rcases pl with p|p
  .rw[p] at z;cases z.1
  .omega)]
 refine ae ?_;show wpAny _ _ (if(!t.led && !es.isEmpty)=true then _ else _) _ _ _;rw[if_neg (by rw[tk.led bt];simp)];refine aw ?_;exact aw h
def Yf(g1:s.heap.get? a=some o)(N:o.data= .set es ep t)(g:t.fits es.size=true){pl:Nat}{hx:Int}{x:ar}{Q:ar->au->Prop}(e:es[pl]?=some (hx,x))(h:Q x s):wpAny (bo prog w) A (p3 a pl ep) Q E s:=by
 unfold p3;refine ae (el g1 N g ?_);dsimp only;rw[if_neg (by simp)];rw[e];exact aw h
def kH(h:e6)(it a:ax)(first:ar)(i n ep:Nat):Prop:=∃o,h.get? it=some o/\o.cls= .type "set_iterator" /\o.data= .fields #[first, .int i 0, .ref a, .int n 0, .int ep 0]
def kH.ty{first:ar}(h:kH s.heap it a first i n ep):s.TypeIs (.ref it) "set_iterator":=let ⟨o,e,c,_⟩:=h;⟨o,e,c⟩
def zH{first:ar}{b:ar->au->Prop}(c:kH s.heap it a first i n ep)(g1:s.heap.get? a=some o)(N:o.data= .set es ep t)(g:t.fits es.size=true)(hn:es.size=n)
    (h:wpAny (bo prog w) A (match first with
      | .int slot _ => (do
        match<-oE a slot.toNat i ep with
        | some (x, next) => do
          nP (.ref it) 0 (da next)
          nP (.ref it) 1 (da ((i:Int)+1))
          ret x
        | none => do
          nP (.ref it) 2 .none
          wx (<-newExc (.type "StopIteration") []))
      | _ => (do
        let some places<-seqItems? first|eC "internal:set_iterator"
        match places[i]? with
        | some (.int place _) => do
          let x<-p3 a place.toNat ep
          nP (.ref it) 1 (da ((i:Int)+1))
          ret x
        |some _=>eC "internal:set_iterator"
        | none => do
          nP (.ref it) 0 (da 0)
          nP (.ref it) 2 .none
          wx (<-newExc (.type "StopIteration") []))) QQ b s):wpAny (bo prog w) A (j1.«set_iterator.__next__» ⟨[.ref it],[]⟩) QQ b s:=by
  obtain⟨f,ho,hc,hd⟩:=c;unfold j1.«set_iterator.__next__»;refine ae (aw ?_);refine ae (wpAny_fieldsOf ho hd ?_);dsimp only;refine ae (mM g1 N g ?_);rw[if_neg (by rw[hn];simp)];cases first<;>exact h
def BF{first:ar}{i n k:Nat}{x:ar}{f:Obj}{vs:Array ar}(ho:h.get? it=some f)(hc:f.cls= .type "set_iterator")(hd:f.data= .fields vs):
  (h.update it (lA (·.setIfInBounds k x))).get? it=some (lA (·.setIfInBounds k x) f)/\(lA (·.setIfInBounds k x) f).cls= .type "set_iterator" /\(lA (·.setIfInBounds k x) f).data= .fields (vs.setIfInBounds k x):=by
 refine⟨zD _ ho (Obj.isFreed_of_fields (nT hd _)),(Obj.cls_mapFields ..).trans hc,nT hd _⟩
def NL{sl nx:Nat}{x:ar}{Q:Option ar->au->Prop}(c:kH s.heap it a (.int sl 0) i n ep)(g1:s.heap.get? a=some o)(N:o.data= .set es ep t)(g:t.fits es.size=true)(hn:es.size=n)
  (hN:∀(Q:Option (ar×Nat)->au->Prop) (E:ar->au->Prop),Q (some (x,nx)) s->wpAny (bo prog w) A.in1 (oE a sl i ep) Q E s)
  (G:∀h',kH h' it a (.int nx 0) (i+1) n ep->(∀b,b≠it->h'.get? b=s.heap.get? b)->Q (some x) {s with heap:=h'}):wpAny (bo prog w) A (mx (.ref it)) Q E s:=by
 obtain⟨f,ho,hc,hd⟩:=id c;unfold mx;refine ae (i0 (e0 (name:=ag "__next__") c.ty jY (dy jY c.ty AJ ?_ (zE _))));refine zH c g1 N g hn ?_;dsimp only;refine ae (hN _ _ ?_);dsimp only;obtain⟨u1,u2,u3⟩:=BF (first:= .none) (i:=0) (n:=0) (k:=0) (x:=da nx) ho hc hd;obtain⟨S,L,e⟩:=BF (first:= .none) (i:=0) (n:=0) (k:=1) (x:=da ((i:Int)+1)) u1 u2 u3;refine ae (gw ho hd (by simp) ?_);refine ae (gw u1 u3 (by simp) ?_);refine aw ⟨x,rfl,aw (G _ ⟨_,S,L,?_⟩ λb hb=>?_)⟩;·rw[e];simp[da]
 .exact((nq _ _ (cO hb))).trans (nq _ _ (cO hb))
def Lh{B:c5}{Q:Option ar->au->Prop}(L:B.handled=none)(G:∀o1 o2,Q none {s with heap:=(s.heap.push o1).push o2}):wpAny (bo prog w) B (do wx (<-newExc (.type "StopIteration") [])) QQ
  (λe s'=>wpAny (bo prog w) A (do if<-isInstance e (.type "StopIteration") then pure none else throw e) Q E s') s:=by
 refine ae ?_;simp only[newExc,newTuple];refine ae (ec ?_ (by size_fits));refine ae (m:=t5 _ _) (wpAny_of_eq (a:=js) (by first|rfl|(simp only[t5];rfl)) (ec ?_ (by size_fits)));simp only[wx];refine ae (wpAny_handled ?_);rw[L];refine ae (aw (wpAny_throw ?_));refine ae (l3 (b:=true) (T:="StopIteration") ⟨_,gf _ rfl,rfl⟩ isSubtype_stop ?_);exact aw (G _ _)
def NG{sl:Nat}{Q:Option ar->au->Prop}(L:A.handled=none)(c:kH s.heap it a (.int sl 0) i n ep)(g1:s.heap.get? a=some o)(N:o.data= .set es ep t)(g:t.fits es.size=true)(hn:es.size=n)
  (hN:∀(Q:Option (ar×Nat)->au->Prop) (E:ar->au->Prop),Q none s->wpAny (bo prog w) A.in1 (oE a sl i ep) Q E s)
  (G:∀h',(∀b o,b≠it->s.heap.get? b=some o->h'.get? b=some o)->Q none {s with heap:=h'}):wpAny (bo prog w) A (mx (.ref it)) Q E s:=by
 obtain⟨f,ho,hc,hd⟩:=id c;unfold mx;refine ae (i0 (e0 (name:=ag "__next__") c.ty jY (dy jY c.ty AJ ?_ (zE _))));refine zH c g1 N g hn ?_;dsimp only;refine ae (hN _ _ ?_);dsimp only;refine ae (gw ho hd (by simp) ?_);exact Lh (B:=A.in1) L λo1 o2=>G _ λb o hb e=>cJ _ (cJ _ ((nq _ _ (cO hb)).trans e))
def Vr{pl:Nat}{hx:Int}{x:ar}{j:Array ar}{Q:Option ar->au->Prop}(c:kH s.heap it a (.ref tp) i n ep)(g1:s.heap.get? a=some o)(N:o.data= .set es ep t)(g:t.fits es.size=true)(hn:es.size=n)
  (h:∃d m,s.heap.get? tp=some d/\d.data= .seq j m) (hp:j[i]?=some (.int pl 0)) (he:es[pl]?=some (hx,x))
  (G:∀h',kH h' it a (.ref tp) (i+1) n ep->(∀b,b≠it->h'.get? b=s.heap.get? b)->Q (some x) {s with heap:=h'}):wpAny (bo prog w) A (mx (.ref it)) Q E s:=by
 obtain⟨f,ho,hc,hd⟩:=id c;obtain⟨d,m,C,y⟩:=h;unfold mx;refine ae (i0 (e0 (name:=ag "__next__") c.ty jY (dy jY c.ty AJ ?_ (zE _))));refine zH c g1 N g hn ?_;dsimp only;refine ae (ui C y ?_);dsimp only;rw[hp];dsimp only;refine ae (Yf g1 N g (by simpa using he) ?_);obtain⟨S,L,e⟩:=BF (first:= .none) (i:=0) (n:=0) (k:=1) (x:=da ((i:Int)+1)) ho hc hd;refine ae (gw ho hd (by simp) (aw ⟨x,rfl,aw (G _ ⟨_,S,L,?_⟩ λb hb=>nq _ _ (cO hb))⟩));rw[e];simp[da]
def ad4{j:Array ar}{Q:Option ar->au->Prop}(L:A.handled=none)(c:kH s.heap it a (.ref tp) i n ep)(g1:s.heap.get? a=some o)(N:o.data= .set es ep t)(g:t.fits es.size=true)(hn:es.size=n)
  (h:∃d m,s.heap.get? tp=some d/\d.data= .seq j m) (hp:j[i]?=none)
  (G:∀h',(∀b o,b≠it->s.heap.get? b=some o->h'.get? b=some o)->Q none {s with heap:=h'}):wpAny (bo prog w) A (mx (.ref it)) Q E s:=by
 obtain⟨f,ho,hc,hd⟩:=id c;obtain⟨d,m,C,y⟩:=h;unfold mx;refine ae (i0 (e0 (name:=ag "__next__") c.ty jY (dy jY c.ty AJ ?_ (zE _))));refine zH c g1 N g hn ?_;dsimp only;refine ae (ui C y ?_);dsimp only;rw[hp];dsimp only;obtain⟨u1,u2,u3⟩:=BF (first:= .none) (i:=0) (n:=0) (k:=0) (x:=da 0) ho hc hd;refine ae (gw ho hd (by simp) (ae (gw u1 u3 (by simp) ?_)));exact Lh (B:=A.in1) L λo1 o2=>G _ λb o hb e=>cJ _ (cJ _ ((nq _ _ (cO hb)).trans ((nq _ _ (cO hb)).trans e)))
end
noncomputable def slotAt(xs:Array Nat):Nat->Nat
 |0=>0
 |i+1=>xs.getD i 0+1
def Vt(xs:Array Nat):slotAt xs 0=0:=rfl
def Rw(xs:Array Nat)(i:Nat):slotAt xs (i+1)=xs.getD i 0+1:=rfl
theorem N4{xs:Array Nat}(hr:lV xs){i:Nat}(hi:i<=xs.size):SetTable.below xs (slotAt xs i)=i:=by
  obtain⟨h1,h2,h3⟩:=below_at (q:=slotAt xs i) hr;have g:∀{j:Nat},j<xs.size->∃y,xs[j]?=some y/\xs.getD j 0=y:=λ{j} hj=>⟨xs[j],mj hj,by rw[GV,mj hj];rfl⟩;rcases Ag (SetTable.below xs (slotAt xs i)) i with z|z|z
  · obtain⟨y,e,_⟩:=g (fJ z hi)
    have:=h3 _ y (aH _) e;cases i with
    |zero=>omega
    | succ i =>
      obtain⟨a,e',d'⟩:=g (j:=i) ∅;have es:=Rw xs i;rw[d'] at es;rcases En (Nat.le_of_lt_succ z) with z|z
      · have:=hr _ _ _ _ z e e';omega
      · rw[z,e'] at e;cases e;omega
  · exact z
  · obtain⟨y,e,d⟩:=g (j:=i) ∅
    have:=h2 i y z e;cases i with
    |zero=>rw[Vt] at this;omega
    | succ i =>
      obtain⟨a,e',d'⟩:=g (j:=i) ∅;rw[Rw,d'] at this;have:=hr i (i+1) _ _ ∅ e' e;omega
section
variable{prog:cj}{w:dc}{a I tp:ax}{o:Obj}{es:Array (Int×ar)}{ep:Nat}{t:eQ}
def OV(h:t.fits es.size=true):t.place.size=es.size:=by
 unfold SetTable.fits at h;rw[fQ] at h;exact eq_of_beq h.1
theorem XD(L:A.handled=none)(bt:gz w=true)(N:o.data= .set es ep t)(g:t.fits es.size=true)(T:a≠I):
  Walks prog w A I [I,a] [I] es.size (λi v=>((eJ (w.params.setOrder a ep) es).toList.map (·.2))[i]?=some v) (λi h=>kH h I a (.int (0:Nat) 0) i es.size ep/\h.get? a=some o) where
 sub:=λb hb=>by simp at hb;simp[hb]
 frame:=λi h h' st hk=>by
  obtain⟨⟨f,h1,h2,h3⟩,h4⟩:=st;exact⟨⟨f,hk I (by simp) _ h1,h2,h3⟩,hk a (by simp) _ h4⟩
 item:=λi s Q E hi st G=>by
  have hsz:(eJ (w.params.setOrder a ep) es).toList.length=es.size:=by
   have:=(JI (w.params.setOrder a ep) es.size 0 es.toList #[] (by simp)).length_eq;simpa[eJ] using this
  have hlt:i<(eJ (w.params.setOrder a ep) es).toList.length:=∅
  have e1:(eJ (w.params.setOrder a ep) es)[i]?=some (eJ (w.params.setOrder a ep) es).toList[i]:=by rw[<-jK];exact aS hlt
  refine NL st.1 st.2 N g rfl (x:=(eJ (w.params.setOrder a ep) es).toList[i].2) (nx:=0) (λQ E q=>RY bt st.2 N g (by rw[e1];exact q)) λh' x1 x2=>?_;refine G _ h' s.toks (by rw[cS,aS hlt];rfl) ⟨x1,(x2 a T).trans st.2⟩ λb o' hb e=>(x2 b (λz=>hb (by simp[z]))).trans e
 done:=λs Q E st G=>by
  have hsz:(eJ (w.params.setOrder a ep) es).toList.length=es.size:=by
   have:=(JI (w.params.setOrder a ep) es.size 0 es.toList #[] (by simp)).length_eq;simpa[eJ] using this
  refine NG L st.1 st.2 N g rfl (λQ E q=>RY bt st.2 N g (by rw[<-jK,pS ∅];exact q)) λh' x1=>G h' s.toks λb o' hb e=>x1 b o' (λz=>hb (by simp[z])) e
 self:=λi s Q E st G=>by
  refine hZ st.1.ty rM (dy rM st.1.ty Ju ?_ (E9 _));exact aw ⟨_,rfl,"set_iterator",_,st.1.ty,jY.lookup,G⟩
theorem YQ(L:A.handled=none)(bt:gz w=false)(N:o.data= .set es ep t)(g:t.fits es.size=true)(tk:fP (gz w) t)(pl:t.plain=true\/es.size<=1)(T:a≠I):
  Walks prog w A I [I,a] [I] es.size (λi v=>(es.toList.map (·.2))[i]?=some v) (λi h=>kH h I a (.int (slotAt t.place i) 0) i es.size ep/\h.get? a=some o) where
 sub:=λb hb=>by simp at hb;simp[hb]
 frame:=λi h h' st hk=>by
  obtain⟨⟨f,h1,h2,h3⟩,h4⟩:=st;exact⟨⟨f,hk I (by simp) _ h1,h2,h3⟩,hk a (by simp) _ h4⟩
 item:=λi s Q E hi st G=>by
  have hps:=OV g;have hr:lV t.place:=by
   rcases pl with p|p
   .exact tk.J6 p
   .intro i j x y hij ex ey;have:=(qX.mp ey).1;omega
  have hlt:i<es.toList.length:=by simpa using hi
  have e1:es[i]?=some es.toList[i]:=by rw[<-jK];exact aS hlt
  have e2:t.place[i]?=some (t.place.getD i 0):=by rw[GV,mj ∅];rfl
  refine NL st.1 st.2 N g rfl (x:=es.toList[i].2) (nx:=slotAt t.place (i+1)) (λQ E q=>PX bt st.2 N g tk pl (by rw[N4 hr ∅,e1,e2];exact q)) λh' x1 x2=>?_;refine G _ h' s.toks (by rw[cS,aS hlt];rfl) ⟨x1,(x2 a T).trans st.2⟩ λb o' hb e=>(x2 b (λz=>hb (by simp[z]))).trans e
 done:=λs Q E st G=>by
  have hps:=OV g;have hr:lV t.place:=by
   rcases pl with p|p
   .exact tk.J6 p
   .intro i j x y hij ex ey;have:=(qX.mp ey).1;omega
  refine NG L st.1 st.2 N g rfl (λQ E q=>PX bt st.2 N g tk pl (by rw[N4 hr ∅,EH (aH _)];exact q)) λh' x1=>G h' s.toks λb o' hb e=>x1 b o' (λz=>hb (by simp[z])) e
 self:=λi s Q E st G=>by
  refine hZ st.1.ty rM (dy rM st.1.ty Ju ?_ (E9 _));exact aw ⟨_,rfl,"set_iterator",_,st.1.ty,jY.lookup,G⟩
theorem IU(L:A.handled=none)(N:o.data= .set es ep t)(g:t.fits es.size=true)(hk:ks.Perm (cv es.size))(T:a≠I)(O:tp≠I):
    Walks prog w A I [I,a,tp] [I] es.size (λi v=>((ks.filterMap (es[·]?)).map (·.2))[i]?=some v) (λi h=>kH h I a (.ref tp) i es.size ep/\h.get? a=some o/\∃d m,h.get? tp=some d/\d.data= .seq (ks.map λ(k:Nat)=>da k).toArray m) where
  sub:=λb hb=>by simp at hb;simp[hb]
  frame:=λi h h' st hk=>by
    obtain⟨⟨f,h1,h2,h3⟩,h4,d,m,h5,B⟩:=st;exact⟨⟨f,hk I (by simp) _ h1,h2,h3⟩,hk a (by simp) _ h4,d,m,hk tp (by simp) _ h5,B⟩
  item:=λi s Q E hi st G=>by
    have hlen:ks.length=es.size:=by rw[hk.length_eq];simp
    have u:∀k∈ks,k<es.size:=λk m=>by simpa using hk.mem_iff.mp m
    have c:i<ks.length:=∅
    have hki:=u ks[i] (fU c);have e1:es[ks[i]]?=some es[ks[i]]:=mj hki;have n:∀(l:List Nat),(∀k∈l,k<es.size)->∀j (hj:j<l.length),(l.filterMap (es[·]?))[j]?=es[l[j]]?:=by
      intro l;induction l with
      |nil=>intro _ j hj;simp at hj
      | cons b r ih =>
        intro hl j hj;have hb:=hl b (cP ..);rw[r6,mj hb];cases j with
        |zero=>simp[mj hb]
        |succ j=>simpa using ih (λk m=>hl k (cF _ m)) j (by simpa using hj)
    refine Vr st.1 st.2.1 N g rfl st.2.2 (pl:=ks[i]) (hx:=es[ks[i]].1) (x:=es[ks[i]].2) (by simp[aS c,da]) e1 λh' x1 x2=>?_;obtain⟨d,m,C,y⟩:=st.2.2;refine G _ h' s.toks ?_ ⟨x1,(x2 a T).trans st.2.1,d,m,(x2 tp O).trans C,y⟩ λb o' hb e=>(x2 b (λz=>hb (by simp[z]))).trans e;rw[cS,n ks u i c,e1];rfl
  done:=λs Q E st G=>by
    have hlen:ks.length=es.size:=by rw[hk.length_eq];simp
    exact ad4 L st.1 st.2.1 N g rfl st.2.2 (by simp;omega) λh' x1=>G h' s.toks λb o' hb e=>x1 b o' (λz=>hb (by simp[z])) e
  self:=λi s Q E st G=>by
    refine hZ st.1.ty rM (dy rM st.1.ty Ju ?_ (E9 _));exact aw ⟨_,rfl,"set_iterator",_,st.1.ty,jY.lookup,G⟩
end
section
variable{prog:cj}{w:dc}{A:c5}{E:ar->au->Prop}{s:au}{a:ax}{o:Obj}{es:Array (Int×ar)}{ep:Nat}{t:eQ}
theorem Pk{α:Type}:∀l:List α,(cv l.length).filterMap (λi=>l[i]?)=l
  |[]=>rfl
  | x :: l => by
    have:=Pk l;rw[cZ,Tw,r6,List.filterMap_map];simpa[oL] using this
def T4{b:Source}{Q:Nat->au->Prop}(hn:n≠0)(h:∀i d',i<n->Q i {s with drawn:=d'}):wpAny (bo prog w) A (choose b n) Q E s:=λΓ p _=>⟨hn,h _ _ (rD _ (JV hn))⟩
theorem RJ{α:Type}:∀(n:Nat) (xs:List α) (s:au) (Q:List α->au->Prop),xs.length<=n->(∀ks d',ks.Perm xs->Q ks {s with drawn:=d'})->wpAny (bo prog w) A (sH n xs) Q E s
  | 0, xs, s, Q, hl, h => by
    have:xs=[]:=pF.mp ∅;subst this;unfold sH;exact aw (h [] s.drawn .nil)
  | n + 1, [], s, Q, hl, h => by
    unfold sH;exact aw (h [] s.drawn .nil)
  | n + 1, x :: xs, s, Q, hl, h => by
    unfold sH;refine ae (T4 (by simp) λi d' hi=>?_);rw[aS hi];dsimp only;refine ae (RJ n _ _ _ (by rw[D0 hi];simp at hl⊢;omega) λks d2 hk=>?_);exact aw (h _ d2 ((hk.cons _).trans (Df hi)))
def Y1(g1:s.heap.get? a=some o)(N:o.data= .set es ep t)(g:t.fits es.size=true){Q:Bool->au->Prop}(h:Q (!gz w &&(!t.plain && decide (es.size>1))) s):wpAny (bo prog w) A (setDrawn a) Q E s:=by
 unfold setDrawn;refine ae (el g1 N g ?_);dsimp only;unfold oI;refine ae (ae (fg (aw ?_)));exact aw h
def Pf(g1:s.heap.get? a=some o)(N:o.data= .set es ep t)(g:t.fits es.size=true){Q:Nat->au->Prop}(h:Q ep s):wpAny (bo prog w) A (setEpoch a) Q E s:=by
 unfold setEpoch;exact ae (el g1 N g (aw h))
theorem HI(hb:es.size<hF)(g1:s.heap.get? a=some o)(g2:o.ExactSet)(N:o.data= .set es ep t)(g:t.fits es.size=true)(tk:fP (gz w) t)
    (G:∀(I:ax) (h':e6) d' (items:List ar) (fp:List ax) (qr:Nat->e6->Prop),(∀b o,s.heap.get? b=some o->h'.get? b=some o)->s.heap.objs.size<=I->(∀b∈fp,b=a\/s.heap.objs.size<=b)->I∈fp->(∀b∈fp,b<h'.objs.size)->items.Perm (es.toList.map (·.2))->
      (∀B:c5,B.handled=none->Walks prog w B I fp [I] items.length (λi v=>items[i]?=some v) qr)->qr 0 h'->Q (.ref I) {s with heap:=h',drawn:=d'}):wpAny (bo prog w) A (C2 (.ref a)) Q E s:=by
  have hT:s.TypeIs (.ref a) "set":=⟨o,g1,g2.1⟩;have hlt:=cD g1;refine hZ hT Ql (dy Ql hT TV ?_ (ahk _));unfold j1.«frozenset.__iter__»;unfold wy slotArgs;simp only[List.isEmpty_nil,uO,l8,↓reduceIte,bind_assoc,Jb,bne_self_eq_false];unfold vR vT;refine ae (aw ?_)
  try dsimp only
  refine ae (aw ?_);refine ae (ae (mM g1 N g (aw ?_)));refine ae (Y1 g1 N g ?_);by_cases c:(!gz w &&(!t.plain && decide (es.size>1)))=true
  · rw[if_pos c]
    refine ae (RJ es.size (cv es.size) s _ (by simp) λks d' hk=>?_);unfold newTuple;refine ae (ec ?_ ?_)
    rotate_left
    · have d:ks.length=es.size:=by rw[hk.length_eq];simp
      show(cf (λ(i:Nat)=>da i) ks).toArray.size<=sizeLine;rw[eU,ak,d];exact hY hb
    have vo:=cJ ({cls:= .type "tuple",data:= .seq (ks.map λ(i:Nat)=>da i).toArray}:Obj) g1;refine ae (Pf (s:={s with heap:=_,drawn:=d'}) vo N g ?_);unfold newFields;refine ae (ec ?_);have d:ks.length=es.size:=by rw[hk.length_eq];simp
    have fin:=G;clear G;have u:(s.heap.push ({cls:= .type "tuple",data:= .seq (ks.map λ(i:Nat)=>da i).toArray}:Obj)).objs.size=s.heap.objs.size+1:=mP ..;have j:(s.heap.push ({cls:= .type "tuple",data:= .seq (ks.map λ(i:Nat)=>da i).toArray}:Obj)).get? s.heap.objs.size=some {cls:= .type "tuple",data:= .seq (ks.map λ(i:Nat)=>da i).toArray}:=gf _ rfl;have l:∀b o,s.heap.get? b=some o->(s.heap.push ({cls:= .type "tuple",data:= .seq (ks.map λ(i:Nat)=>da i).toArray}:Obj)).get? b=some o:=λb o e=>cJ _ e;generalize h:s.heap.push ({cls:= .type "tuple",data:= .seq (ks.map λ(i:Nat)=>da i).toArray}:Obj)=h1 at vo u j l⊢;have gI:(h1.push ({cls:= .type "set_iterator",data:= .fields #[.ref s.heap.objs.size,da 0, .ref a,da es.size,da ep]}:Obj)).get? h1.objs.size=some {cls:= .type "set_iterator",data:= .fields #[.ref s.heap.objs.size,da 0, .ref a,da es.size,da ep]}:=gf _ rfl;have gS:=cJ ({cls:= .type "set_iterator",data:= .fields #[.ref s.heap.objs.size,da 0, .ref a,da es.size,da ep]}:Obj) vo;have gT':=cJ ({cls:= .type "set_iterator",data:= .fields #[.ref s.heap.objs.size,da 0, .ref a,da es.size,da ep]}:Obj) j;have n:(h1.push ({cls:= .type "set_iterator",data:= .fields #[.ref s.heap.objs.size,da 0, .ref a,da es.size,da ep]}:Obj)).objs.size=h1.objs.size+1:=mP ..;subst h;refine aw ⟨_,rfl,"set_iterator",_,⟨_,gI,rfl⟩,jY.lookup,?_⟩;have pp:(ks.filterMap (es[·]?)).Perm es.toList:=by
      have:=hk.filterMap (es[·]?);have e:(cv es.size).filterMap (es[·]?)=es.toList:=by
        have:=Pk es.toList;simpa using this
      rwa[e] at this
    have hn:((ks.filterMap (es[·]?)).map (·.2)).length=es.size:=by rw[ak,pp.length_eq];simp
    have tu:=IW (pX s.heap.objs.size) u.symm;refine fin _ _ d' ((ks.filterMap (es[·]?)).map (·.2)) [_,a,s.heap.objs.size] _ (λb o e=>cJ _ (l b o e)) (eZ tu) (λb m=>?_) (cP ..) (λb m=>?_) (pp.map _) (λB O=>by rw[hn];exact IU O N g hk (eS (uT hlt tu)) (eS tu)) ?_
    · rcases aK.mp m with e|m
      · exact .inr (by rw[e];exact eZ tu)
      · rcases aK.mp m with e|m
        · exact .inl e
        · exact .inr (jf (aY.mp m).symm)
    · refine IW ?_ n.symm
      rcases aK.mp m with e|m
      · rw[e];exact pX _
      · rcases aK.mp m with e|m
        · rw[e];exact pQ (uT hlt tu)
        · rw[aY.mp m];exact pQ tu
    · exact⟨⟨_,gI,rfl,rfl⟩,gS,_,_,gT',rfl⟩
  · rw[if_neg c]
    refine ae (aw ?_);refine ae (Pf g1 N g ?_);unfold newFields;refine ae (ec ?_);have gI:(s.heap.push ({cls:= .type "set_iterator",data:= .fields #[da 0,da 0, .ref a,da es.size,da ep]}:Obj)).get? s.heap.objs.size=some {cls:= .type "set_iterator",data:= .fields #[da 0,da 0, .ref a,da es.size,da ep]}:=gf _ rfl;have gS:=cJ ({cls:= .type "set_iterator",data:= .fields #[da 0,da 0, .ref a,da es.size,da ep]}:Obj) g1;have f:∀b∈[s.heap.objs.size,a],b=a\/s.heap.objs.size<=b:=λb m=>by
      rcases aK.mp m with e|m
      · exact .inr (jf e.symm)
      · exact .inl (aY.mp m)
    have hsz:(s.heap.push ({cls:= .type "set_iterator",data:= .fields #[da 0,da 0, .ref a,da es.size,da ep]}:Obj)).objs.size=s.heap.objs.size+1:=mP ..;have k:∀b∈[s.heap.objs.size,a],b<(s.heap.push ({cls:= .type "set_iterator",data:= .fields #[da 0,da 0, .ref a,da es.size,da ep]}:Obj)).objs.size:=λb m=>by
      rw[hsz];rcases aK.mp m with e|m
      · rw[e];exact pX _
      · rw[aY.mp m];exact pQ hlt
    refine aw ⟨_,rfl,"set_iterator",_,⟨_,gI,rfl⟩,jY.lookup,?_⟩;cases bt:gz w with
    | true =>
      have pp:(eJ (w.params.setOrder a ep) es).toList.Perm es.toList:=by simpa[eJ] using JI (w.params.setOrder a ep) es.size 0 es.toList #[] (by simp)
      have hn:((eJ (w.params.setOrder a ep) es).toList.map (·.2)).length=es.size:=by rw[ak,pp.length_eq];simp
      refine G _ _ s.drawn ((eJ (w.params.setOrder a ep) es).toList.map (·.2)) [s.heap.objs.size,a] _ (λb o e=>cJ _ e) (aH _) f (by simp) k (pp.map _) (λB O=>by rw[hn];exact XD O bt N g (eS hlt)) ?_;exact⟨⟨_,gI,rfl,rfl⟩,gS⟩
    | false =>
      have pl:t.plain=true\/es.size<=1:=by
        rw[bt,uj,EC] at c;cases hp:t.plain with
        |true=>exact .inl rfl
        | false =>
          rw[hp,uj,EC,decide_eq_true_eq] at c;exact .inr ∅
      have hn:(es.toList.map (·.2)).length=es.size:=by simp
      refine G _ _ s.drawn (es.toList.map (·.2)) [s.heap.objs.size,a] _ (λb o e=>cJ _ e) (aH _) f (by simp) k (.refl _) (λB O=>by rw[hn];exact YQ O bt N g tk pl (eS hlt)) ?_;exact⟨⟨_,gI,rfl,rfl⟩,gS⟩
end
section
variable{prog:cj}{w:dc}{A:c5}{E:ar->au->Prop}{s:au}{a:ax}{o:Obj}{es:Array (Int×ar)}{ep:Nat}{t:eQ}
def Tt{Q:Bool->au->Prop}(hT:s.TypeIs (.ref a) "set")(h:Q false s):wpAny (bo prog w) A (j2 (.ref a)) Q E s:=by
 unfold j2;refine ae (sT hT PySem.F.slot_set_len.lookup ?_);generalize c:("set.__len__":String)=id0
 wp_delta
 rw[show splitId id0=some ("set","__len__") from by subst c;decide+kernel];subst c;refine ae (l3 (b:=true) (T:="set") hT (by rw[kk];kernel_rfl) ?_);refine ml (λz=>absurd z ⋯) λ_=>ml (λ_=>?_) λz=>absurd (by decide+kernel) z;exact ae (wpAny_typeOf hT (aw h))
theorem XA{items:List ar}{acc:Array ar}(h:ItemsOf (λi v=>items[i]?=some v) acc items.length):acc.toList=items:=by
 apply pG;intro i;by_cases hi:i<acc.size
 .have e:acc[i]?=some acc[i]:=mj hi;rw[jK,e,h.2 i _ e]
 .have:=h.1;rw[pS (by simp;omega),pS ∅]
def WJ{Q:List ar->au->Prop}(L:A.handled=none)(hb:es.size<hF)(g1:s.heap.get? a=some o)(g2:o.ExactSet)(N:o.data= .set es ep t)(g:t.fits es.size=true)(tk:fP (gz w) t)
  (G:∀h' d' tk' items,(∀b o,s.heap.get? b=some o->h'.get? b=some o)->s.heap.objs.size<=h'.objs.size->items.Perm (es.toList.map (·.2))->Q items {s with heap:=h',drawn:=d',toks:=tk'}):wpAny (bo prog w) A (Bi (.ref a)) Q E s:=by
 have hlt:=cD g1;unfold Bi;refine ae (my (en Sf ?_));rw[qm NI _];show wpAny _ A.in1 (A5 []>>=λl=>again (.builtin "list.__iadd__" ⟨[l, .ref a],[]⟩)) _ _ s;refine ae (ec ?_);refine aw ⟨hJ yo _,en O8 ?_⟩;rw[qm yo _];have p:(s.heap.push ({cls:= .type "list",data:= .seq ([]:List ar).toArray}:Obj)).get? s.heap.objs.size=some {cls:= .type "list",data:= .seq ([]:List ar).toArray}:=gf _ rfl;have gA:=cJ ({cls:= .type "list",data:= .seq ([]:List ar).toArray}:Obj) g1;have i:(s.heap.push ({cls:= .type "list",data:= .seq ([]:List ar).toArray}:Obj)).objs.size=s.heap.objs.size+1:=mP ..;show wpAny _ A.in1 (fA (.ref s.heap.objs.size) (.ref a) (.ref s.heap.objs.size)) _ _ {s with heap:=s.heap.push ({cls:= .type "list",data:= .seq ([]:List ar).toArray}:Obj)};have f:∀b o,s.heap.get? b=some o->(s.heap.push ({cls:= .type "list",data:= .seq ([]:List ar).toArray}:Obj)).get? b=some o:=λb o e=>cJ _ e;generalize s.heap.push ({cls:= .type "list",data:= .seq ([]:List ar).toArray}:Obj)=h1 at p gA i f⊢;unfold fA;refine ae (wpAny_typeOf (T:="set") ⟨o,gA,g2.1⟩ ?_);have n1:v3 (.ref s.heap.objs.size) (.ref a)=false:=by
  show(s.heap.objs.size==a)=false;exact beq_eq_false_iff_ne.mpr (sr hlt)
 have n2:(gT "set"==gT "list")=false:=⋯
 have j:(gT "set"==gT "tuple")=false:=⋯
 simp only[n1,n2,j,tU,l8,if_false];refine ae (HI (s:={s with heap:=h1}) hb gA g2 N g tk λI h2 d' items fp qr k1 k2 k3 k4 k5 pp W st=>?_);have gA2:=k1 _ _ gA;have GU:=k1 _ _ p;refine ae (ej (Tt (s:={s with heap:=h2,drawn:=d'}) ⟨o,gA2,g2.1⟩ ?_));have k:s.heap.objs.size<h1.objs.size:=IW (pX _) i.symm;have nS:s.heap.objs.size∉fp:=λm=>by
  rcases k3 _ m with e|e
  .exact absurd e (sr hlt)
  .exact absurd (fJ k e) (kE _)
 have hil:items.length<=sizeLine:=by
  rw[pp.length_eq,ak,dS];exact hY hb
 have key:∀(h3:e6) (c:Nat),qr 0 h3->(∀b o,b≠s.heap.objs.size->h2.get? b=some o->h3.get? b=some o)->h3.get? s.heap.objs.size=some {cls:= .type "list",data:= .seq #[] c}->
   codeAny (bo prog w) A (.builtin "list.extend.loop" ⟨[.ref s.heap.objs.size, .ref I, .ref s.heap.objs.size],[]⟩) (λr s'=>match r with
    | .ok (.ret v)=>wpAny (bo prog w) A (match v with| .ref x=>(do match(<-load x).data with| .seq xs _=>pure xs.toList|_=>eC "internal:collect")|_=>eC "internal:collect") Q E s'
    | .ok _=>False
    | .error e=>E e s') {s with heap:=h3,drawn:=d'}:=by
  intro h3 c st3 q1 q2;refine codeAny_extend_loopS ((W A.in1 L).toS) hil _ nS _ items.length 0 _ #[] c rfl (eT _) st3 q2 (ItemsOf.nil _) λs' acc c' d U D=>?_;refine ae (vB U (aw ?_));rw[XA D,Moved.eq_with d];refine G s'.heap d' s'.toks items (λb o e=>?_) ?_ pp
  .have nb:b≠s.heap.objs.size:=eS (cD e);refine d.heap b o (λm=>?_) (q1 b o nb (k1 b o (f b o e)));rcases aK.mp m with z|z
   .exact nb z
   .have z:=aY.mp z;rw[z] at e;exact absurd (fJ (uT (cD e) k) k2) (kE _)
  .exact eZ (cD U)
 refine ml (λ_=>?_) λ_=>aw ⟨hJ NS _,key h2 _ st (λ_ _ _ e=>e) GU⟩;refine ae (gb (ae ?_));show wpAny _ A.in1 (updateSeq s.heap.objs.size (·.push .none)>>=λ_=>updateSeq s.heap.objs.size (·.pop)) _ _ _;have u1:=zD (eF (·.push js)) GU rfl;have u2:=zD (eF (·.pop)) u1 rfl;refine ae (td GU rfl (td (hz:=by seq_fits) u1 rfl ?_));have h:∀b o,b≠s.heap.objs.size->h2.get? b=some o->((h2.update s.heap.objs.size (eF (·.push js))).update s.heap.objs.size (eF (·.pop))).get? b=some o:=λb o nb e=>(nq _ _ (cO nb)).trans ((nq _ _ (cO nb)).trans e);exact aw ⟨hJ NS _,key _ _ ((W A.in1 L).frame 0 _ _ st λb m o e=>h b o (λz=>nS (z▸m)) e) h u2⟩
theorem O6{ks:List Int->Prop}:∀{vs:List ar},(∀v∈vs,∃k t,v= .int k t)->∃ns,eI vs ns
  |[],_=>⟨[], .nil⟩
  | v :: vs, h => by
    obtain⟨k,t,rfl⟩:=h v (cP ..);obtain⟨ns,hn⟩:=O6 (ks:=ks) λv m=>h v (cF _ m);exact⟨k::ns, .cons k t hn⟩
theorem R4:∀{vs:List ar} {ns:List Int},eI vs ns->∀k,k∈ns↔∃t, .int k t∈vs
  |_,_, .nil,k=>by simp
  | _, _, .cons j t h, k => by
    rw[aK,R4 h k];constructor
    · rintro(rfl|⟨t',m⟩)
      · exact⟨_,cP ..⟩
      · exact⟨t',cF _ m⟩
    · rintro⟨t',m⟩
      rcases aK.mp m with e|m
      · cases e;exact .inl rfl
      · exact .inr ⟨t',m⟩
theorem UW{S:Int->Bool}(L:A.handled=none)(M:s.heap.SetOf (IK prog w) a S n)(hT:iB (gz w) s.heap a)(B:n<64)
  (h : ∀ h' d' j (l : Addr) (out : List Value) (ns : List Int) (e : Nat), (∀ b o, s.heap.get? b = some o -> h'.get? b = some o) -> s.heap.objs.size <= l -> h'.get? l = some (seqObj "list" out.toArray e) -> IntsAre out ns -> ns.Pairwise (· <= ·) -> (∀ k, S k = true ↔ k ∈ ns) -> ns.length = n ->
   Q (.ref l) {s with heap:=h',drawn:=d',toks:=j}):wpAny (bo prog w) A (call (.builtin "sorted") [.ref a]) Q E s:=by
 obtain⟨o,es,ep,t,g1,g2,N,O,G,r,i,sz⟩:=M;refine KC kind_sorted plain_sorted entry_sorted (args_sorted1 _) ?_;unfold j1.«sorted»;refine ae (m:=checkCount "sorted" 1 1 _) (aw (ae ?_));refine WJ (A:=A.in1) L r g1 g2 N i (hT o es ep t g1 N) λh1 d1 y items k1 k2 pp=>?_;have d:∀v∈items,∃k t,v= .int k t:=λv m=>by
  obtain⟨e,m',rfl⟩:=bH.mp (pp.mem_iff.mp m);obtain⟨⟨k,hk,_⟩,_⟩:=O e m';obtain⟨t,ht⟩:=w6 hk;exact⟨k,t,ht⟩
 obtain⟨ns,hI⟩:=O6 (ks:=λ_=>True) d;have hlen:items.length=n:=by rw[pp.length_eq,ak,dS,sz]
 refine ae (n3 ?_);have p:(h1.push (l4 "list" items.toArray 0)).get? h1.objs.size=some (l4 "list" items.toArray 0):=gf _ rfl;refine ae (ej (dy uk ⟨_,p,rfl⟩ tf (list_sort_tree p hI ∅ λout f a1 a2 g=>⟨_,rfl,?_⟩) (uM _)));obtain⟨e,he⟩:=wL (out:=out) p;refine aw ⟨_,rfl,h _ d1 y h1.objs.size out.toList f e (λb o q=>?_) k2 (by simpa using he) a1 g (λk=>?_) ?_⟩
 .have lb:=cD (k1 b o q);rw[va (eS lb) (by rw[mP];exact pQ lb)];exact cJ _ (k1 b o q)
 .rw[a2.mem_iff,R4 hI,G k];constructor
  .rintro⟨e,m,q⟩;obtain⟨t,ht⟩:=w6 q;exact⟨t,pp.mem_iff.mpr (ht▸bH.mpr ⟨e,m,rfl⟩)⟩
  .rintro⟨t,m⟩;obtain⟨e,m',q⟩:=bH.mp (pp.mem_iff.mp m);exact⟨e,m',by rw[q];exact vL _ _ _ _⟩
 .rw[a2.length_eq,<-hI.length,hlen]
end
noncomputable def vz(P:cj)(w:dc)(a:ax)(S:Int->Bool)(n:Nat):HO:= .ext λh=>h.SetOf (IK P w) a S n/\iB (gz w) h a
def Inv.dr(I:Inv X pins σ H s)(d:Drawn):Inv X pins σ H {s with drawn:=d}:=
 ⟨I.ok,I.os,I.bare,I.base,I.loc,I.cell,I.free,I.lQ,I.pin,I.hok,I.len⟩
theorem I0:∀{ns:List Int} {us:List ar},Vals (ns.map V.int) us->eI us ns
  |[],_, .nil=> .nil
  | n :: ns, _, .cons r t => by
    obtain⟨k,rfl⟩:=r;exact .cons n k (I0 t)
theorem FI:∀{us:List ar} {ns:List Int},eI us ns->Vals (ns.map V.int) us
 |_,_, .nil=> .nil
 |_,_, .cons k t h=> .cons ⟨t,rfl⟩ (FI h)
def Y7{σ:List Int}{k:Int}(h:σ.Nodup):(step_dedup σ k).Nodup:=by
 unfold step_dedup;split;·exact h
 .rename_i q
  rw[tX];refine⟨h,by simp,λx hx y hy=>?_⟩;rw[aY.mp hy];intro e;subst e;exact q (by simp[hx])
theorem NQ(val:Nat->Int):∀i,(hH val i).Nodup
 |0=>List.nodup_nil
 |i+1=>by rw[nC];exact Y7 (NQ val i)
theorem Om:∀{ds ns:List Int},ds.Nodup->(∀k∈ds,k∈ns)->ns.length<=ds.length->ds.Perm ns
  | [], ns, _, _, hl => by
    have:ns=[]:=pF.mp (by simpa using hl);rw[this]
  | d :: ds, ns, hd, hs, hl => by
    have hm:=hs d (cP ..);obtain⟨h1,h2⟩:=iT.mp hd;have hp:=List.perm_cons_erase hm;refine(FR d (Om h2 (λk hk=>?_) ?_)).trans hp.symm
    · rcases aK.mp (hp.mem_iff.mp (hs k (cF _ hk))) with e|e
      · subst e;exact absurd hk h1
      · exact e
    · have:=hp.length_eq;simp at this hl⊢;omega
def Dp(P:cj)(w:dc)(K:PySem.W.Frag):List V->Hp->VK->Prop:=λxs H Q=>∃p,∃ns:List Int,xs=[.ref p]/\bw K H p (ns.map V.int)/\ns.length<=4000/\∀a (ms:List Int),H a=none->ms.Nodup->(∀k,k∈ms↔k∈ns)->Q (.ref a) (upd H a (vz P w a (λk=>ms.any (· ==k)) ms.length))
def Jx(P:cj)(w:dc):List V->Hp->VK->Prop:=λxs H Q=>∃a,∃ms:List Int,xs=[.ref a]/\H a=some (vz P w a (λk=>ms.any (· ==k)) ms.length)/\ms.Nodup/\ms.length<64/\
 ∀l (M:List Int),H l=none->M.Pairwise (· < ·)->(∀k,k∈M↔k∈ms)->Q (.ref l) (upd H l (.lst (M.map V.int)))
section
variable{X:Cx}
theorem UT(hc:X.calm=true):fT X (.type "set") (Dp X.prog X.w X.K):=by
 intro pins s σ H xs us Q I rv h;obtain⟨p,ns,rfl,hp,hn,q⟩:=h;obtain⟨u,rfl,ru⟩:=vals1 rv;cases ru;obtain⟨its,M,a,hz⟩:=I.list hp;have hI:=I0 M;have hlen:=hI.length;refine O5 (I.ok.hd hc) a.isList (by simpa using hI) (by rw[eU];unfold hF;omega) λh' tk J q2 U=>?_;have c:∀k,k∈hH (λi=>ns.getD i 0) its.toArray.size↔k∈ns:=λk=>by
  have e:=firstMet_any (λi=>ns.getD i 0) its.toArray.size k;have e2:(cv its.toArray.size).map (λi=>ns.getD i 0)=ns:=by
   rw[eU,hlen];apply ql;·simp
   .intro i h1 h2;simp[i9,aS h2]
  rw[e2] at e;have a1:∀(l:List Int),(l.any (· ==k))=true↔k∈l:=λl=>by
   rw[rL];exact⟨λ⟨x,m,z⟩=>(beq_iff_eq.mp z)▸m,λm=>⟨k,m,beq_self_eq_true _⟩⟩
  rw[<-a1,<-a1,e]
 have kp:∀b u,s.heap.get? b=some u->h'.get? b=some u:=λb u e=>U b u (cD e) e;have new:eE X.prog X.w (upd H s.heap.objs.size (vz X.prog X.w s.heap.objs.size (λk=>(hH (λi=>ns.getD i 0) its.toArray.size).any (· ==k)) (hH (λi=>ns.getD i 0) its.toArray.size).length)) h' s.heap.objs.size (vz X.prog X.w s.heap.objs.size (λk=>(hH (λi=>ns.getD i 0) its.toArray.size).any (· ==k)) (hH (λi=>ns.getD i 0) its.toArray.size).length):=by
  refine⟨⟨J,q2⟩,?_,λh1 h2 z k=>?_⟩;·obtain⟨o,_,_,_,ho,_⟩:=J;exact⟨o,ho⟩
  .obtain⟨⟨o,es,ep,t,ho,r⟩,tt⟩:=z;exact⟨⟨o,es,ep,t,k o ho,r⟩,tt.keep ho (k o ho)⟩
 exact⟨.ref s.heap.objs.size,_,I.laid (t':=tk) kp (aH _) new,rfl,q _ _ (I.hok.fresh (aH _)) (NQ _ _) c⟩
theorem UK(hc:X.calm=true):fT X (.builtin "sorted") (Jx X.prog X.w):=by
 intro pins s σ H xs us Q I rv h;obtain⟨a,ms,rfl,p,nd,B,q⟩:=h;obtain⟨u,rfl,ru⟩:=vals1 rv;cases ru;obtain⟨⟨J,q2⟩,_,_⟩:=I.hok a _ p;refine UW (I.ok.hd hc) J q2 B λh' d' j l out ns e kp hl b hI pw hm hn=>?_;have a1:∀k,(ms.any (· ==k))=true↔k∈ms:=λk=>by
  rw[rL];exact⟨λ⟨x,m,z⟩=>(beq_iff_eq.mp z)▸m,λm=>⟨k,m,beq_self_eq_true _⟩⟩
 have hm':∀k,k∈ns↔k∈ms:=λk=>by rw[<-hm k,a1]
 have pp:=Om nd (λk m=>(hm' k).mpr m) (jf hn);have c:ns.Nodup:=pp.nodup_iff.mp nd;have lt:ns.Pairwise (· < ·):=by
  have:=pw.and c;exact this.imp λ⟨x,y⟩=>∅
 have new:eE X.prog X.w (upd H l (.lst (ns.map V.int))) h' l (.lst (ns.map V.int)):=by
  refine⟨?_,out,e,FI hI,b⟩;rw[ak,hn];exact eu (eZ B) ⋯
 exact⟨.ref l,_,(I.laid (t':=j) kp hl new).dr d',rfl,q _ _ (I.hok.fresh hl) lt hm'⟩
end
theorem aq.WH{G:Gx}{ρ:Rh}{P:cj}{K:PySem.W.Frag}(h:Ev G ρ te λ_ x=>∃ns:List Int,x= .list (ns.map .int)/\ns.length<64/\∀M:List Int,M.Pairwise (· < ·)->(∀k,k∈M↔k∈ns)->Θ true (M.map .int)):
  aq G ρ (gv (Jx P w) (bN (gv (Dp P w K) (bN te cI)) cI)) Θ:=λnb σ H Q W z=>
 h nb σ H _ W λf v H1 x ⟨ns,ex,hn,q⟩ s1 hv=>by
  subst ex;obtain⟨a,xs,rfl,na,hx,hd⟩:=hv.dZ;have e:=A8 hd;subst e;refine⟨a,ns,rfl, .of hx,∅,λb ms hb nd hm=>?_⟩;have t:ms.length<=ns.length:=HX nd λk m=>(hm k).mp m;refine⟨b,ms,rfl,bB,nd,∅,λl M hl lt hm'=>?_⟩;have s2:Step G.B H1 (upd H1 b (vz P w b (λk=>ms.any (· ==k)) ms.length)):= .same s1.2 (dw hb);exact aq.fin (f:=true) W (s1.trans s2) hl (De M) (q M lt λk=>(hm' k).trans (hm k)) z
theorem UR{ms:List Int}{m:Int}(nd:ms.Nodup)(h:∀k∈ms,0<=k/\k<m):ms.length<=m.toNat:=by
 have:=HX nd (l₂:=(cv m.toNat).map λ(i:Nat)=>(i:Int)) λk hk=>by
  have:=h k hk;exact bH.mpr ⟨k.toNat,lY.mpr ∅,∅⟩
 rwa[ak,uw] at this
noncomputable def ku:Bool->ba->Array ba->Nat->Nat->Nat->StateT bp Sem (Option Nat):=sortPriv%PySem.Builtin.gallop
noncomputable def yg:Array ba->Array ba->StateT bp Sem (Array ba):=sortPriv%PySem.Builtin.mergeLo
noncomputable def BZ:Array ba->Array ba->StateT bp Sem (Array ba):=sortPriv%PySem.Builtin.mergeHi
noncomputable def lJ:Nat->StateT bp Sem Unit:=sortPriv%PySem.Builtin.setMinGallop
noncomputable def qu(left:Bool)(key:ba)(arr:Array ba)(base:Nat)(i:Nat):StateT bp Sem (Option Bool):=do
 let x<-eL arr (base+i)
 if left then lt' x key else return (<-lt' key x).map (!·)
def Qe(left:Bool)(key:ba)(arr:Array ba)(base n d:Nat):ku left key arr base n d=(do
 let mut yZ:=0
 let mut kR:=1
 let mut lo:=0
 let mut hi:=0
 let some right<-qu left key arr base d|return none
 if right then
  let wc:=n-d
  for _ in[0:n] do
   if kR≥wc then break
   let some more<-qu left key arr base (d+kR)|return none
   if !more then break
   yZ:=kR
   kR:=2*kR+1
  lo:=d+yZ+1
  hi:=d+min kR wc
 else
  let wc:=d+1
  for _ in[0:n] do
   if kR≥wc then break
   let some found<-qu left key arr base (d-kR)|return none
   if found then break
   yZ:=kR
   kR:=2*kR+1
  lo:=d+1-min kR wc
  hi:=d-yZ
 for _ in[0:n] do
  if lo≥hi then break
  let m:=lo+(hi-lo)/2
  let some more<-qu left key arr base m|return none
  if more then lo:=m+1 else hi:=m
 return some hi):=rfl
def Hd(g:Nat):lJ g=modify λs=>wa (kindOf s) (cn s) (pendingOf s) g (jh s):=rfl
def Ur(a b:Array ba):yg a b=(do
 rule "list.sort.merge-lo"
 let total:=a.size+b.size
 let done (out:Array ba) (ia ib:Nat):=out++a.extract ia a.size++b.extract ib b.size
 let c (out:Array ba) (ia ib:Nat):=out++b.extract ib b.size++a.extract ia a.size
 let mut out:Array ba:= #[<-eL b 0]
 let mut ia:=0
 let mut ib:=1
 if ib==b.size then return done out ia ib
 if ia+1==a.size then return c out ia ib
 let mut minGallop:=wU (<-get)
 for _ in[0:total] do
  let mut ko:=0
  let mut kh:=0
  for _ in[0:total] do
   let some bWins<-lt' (<-eL b ib) (<-eL a ia)|return done out ia ib
   if bWins then
    out:=out.push (<-eL b ib);ib:=ib+1;kh:=kh+1;ko:=0
    if ib==b.size then return done out ia ib
    if kh≥minGallop then break
   else
    out:=out.push (<-eL a ia);ia:=ia+1;ko:=ko+1;kh:=0
    if ia+1==a.size then return c out ia ib
    if ko≥minGallop then break
  rule "list.sort.gallop"
  minGallop:=minGallop+1
  for _ in[0:total] do
   if minGallop>1 then minGallop:=minGallop-1
   lJ minGallop
   let some k<-ku false (<-eL b ib) a ia (a.size-ia) 0|return done out ia ib
   ko:=k
   if k>0 then
    out:=out++a.extract ia (ia+k);ia:=ia+k
    if ia+1==a.size then return c out ia ib
    if ia==a.size then return done out ia ib
   out:=out.push (<-eL b ib);ib:=ib+1
   if ib==b.size then return done out ia ib
   let some k<-ku true (<-eL a ia) b ib (b.size-ib) 0|return done out ia ib
   kh:=k
   if k>0 then
    out:=out++b.extract ib (ib+k);ib:=ib+k
    if ib==b.size then return done out ia ib
   out:=out.push (<-eL a ia);ia:=ia+1
   if ia+1==a.size then return c out ia ib
   if ko<7 && kh<7 then break
  minGallop:=minGallop+1
  lJ minGallop
 eC "internal:list.sort.merge-bound"):=rfl
def mG(x:ba):Prop:=∃n t,x.1= .int n t
def gp(xs:Array ba):Prop:=∀(i:Nat) (x:ba),xs[i]?=some x->mG x
section
variable{prog:cj}{w:dc}{A:c5}{E:ar->au->Prop}{s:au}{st:bp}
def sY{arr:Array ba}{Q:ba->bp->Prop}(hi:i<arr.size)(h:Q arr[i] st):wpS (bo prog w) A E s (eL arr i) Q st:=by
 rw[elem'_eq,getElem?_pos arr i hi];exact be h
def gp.at{arr:Array ba}(h:gp arr){i:Nat}(hi:i<arr.size):mG arr[i]:=h i _ (getElem?_pos arr i hi)
def dj(st st':bp):Prop:=kindOf st'=kindOf st/\cn st'=cn st/\pendingOf st'=pendingOf st/\jh st'=jh st
theorem dj.trans{s1 s2 s3:bp}(h:dj s1 s2)(g:dj s2 s3):dj s1 s3:=⟨g.1.trans h.1,g.2.1.trans h.2.1,g.2.2.1.trans h.2.2.1,g.2.2.2.trans h.2.2.2⟩
def dj.refl(s1:bp):dj s1 s1:=⟨rfl,rfl,rfl,rfl⟩
def Mg(a b:Array ba)(i j:Nat)(out:Array ba):Prop:=out.toList.Perm (a.toList.take i++b.toList.take j)
def C1{l:List ba}(h:i<l.length):l.take (i+1)=l.take i++[l[i]]:=by rw[vb,aS h];rfl
def Mg.kN{a b:Array ba}{out:Array ba}(h:Mg a b i j out)(hj:j<b.size):Mg a b i (j+1) (out.push b[j]):=by
 unfold Mg at*;rw[l6,C1 (l:=b.toList) (by simpa using hj),<-fj];exact h.append (by simp)
def Mg.kY{a b:Array ba}{out:Array ba}(h:Mg a b i j out)(hi:i<a.size):Mg a b (i+1) j (out.push a[i]):=by
 unfold Mg at*;rw[l6,C1 (l:=a.toList) (by simpa using hi),fj];refine(h.append (Kl [a[i]])).trans ?_;rw[fj];refine m9 _ ?_;simpa using ny
def kG(a:Array ba)(i j:Nat):(a.extract i j).toList=(a.toList.take j).drop i:=by
 rw[Array.toList_extract,List.extract_eq_take_drop,List.drop_take]
theorem Mg.pP{a b:Array ba}{k:Nat}{out:Array ba}(h:Mg a b i j out):Mg a b (i+k) j (out++a.extract i (i+k)):=by
 unfold Mg at*;rw[fS,kG];have e:a.toList.take (i+k)=a.toList.take i++(a.toList.take (i+k)).drop i:=by
  have:=(kK i (a.toList.take (i+k))).symm;rwa[vc,HW ∅] at this
 generalize (a.toList.take (i+k)).drop i=z at e⊢;rw[e];refine(h.append_right z).trans ?_;rw[fj,fj];exact m9 _ ny
theorem Mg.oO{a b:Array ba}{k:Nat}{out:Array ba}(h:Mg a b i j out):Mg a b i (j+k) (out++b.extract j (j+k)):=by
 unfold Mg at*;rw[fS,kG];have e:b.toList.take (j+k)=b.toList.take j++(b.toList.take (j+k)).drop j:=by
  have:=(kK j (b.toList.take (j+k))).symm;rwa[vc,HW ∅] at this
 generalize (b.toList.take (j+k)).drop j=z at e⊢;rw[e,<-fj];exact h.append_right _
def Ot(a:Array ba)(i:Nat):(a.extract i a.size).toList=a.toList.drop i:=by
 rw[kG,sN (by simp)]
def Mg.done{a b:Array ba}{out:Array ba}(h:Mg a b i j out):(out++a.extract i a.size++b.extract j b.size).toList.Perm (a.toList++b.toList):=by
 unfold Mg at h;rw[fS,fS,Ot,Ot];have ea:=(kK i a.toList).symm;have eb:=(kK j b.toList).symm;rw[show a.toList++b.toList=(a.toList.take i++a.toList.drop i)++(b.toList.take j++b.toList.drop j) by rw[<-ea,<-eb]];refine((h.append_right _).append_right _).trans ?_;simp only[fj];refine m9 _ ?_;rw[<-fj,<-fj];exact Gj _ ny
def Mg.last{a b:Array ba}{out:Array ba}(h:Mg a b i j out):(out++b.extract j b.size++a.extract i a.size).toList.Perm (a.toList++b.toList):=by
 refine ti ?_ h.done;rw[fS,fS,fS,fS,fj,fj];exact m9 _ ny
def Zh{g:Nat}{Q:Unit->bp->Prop}(h:∀st',dj st st'->Q () st'):wpS (bo prog w) A E s (lJ g) Q st:=by
 rw[Hd];exact gd (h _ ⟨rfl,rfl,rfl,rfl⟩)
def gC{x y:Nat}{α:Type}{t e:StateT bp Sem α}{Q:α->bp->Prop}(h1:x=y->wpS (bo prog w) A E s t Q st)(h2:x≠y->wpS (bo prog w) A E s e Q st):wpS (bo prog w) A E s (if(x==y)=true then t else e) Q st:=by
 by_cases c:x=y;·rw[if_pos (by simpa using c)];exact h1 c
 .rw[if_neg (by simpa using c)];exact h2 c
def gn{c:Prop}[Decidable c]{α:Type}{t e:StateT bp Sem α}{Q:α->bp->Prop}(h1:c->wpS (bo prog w) A E s t Q st)(h2:¬c->wpS (bo prog w) A E s e Q st):wpS (bo prog w) A E s (if c then t else e) Q st:=by
 by_cases c:c;·rw[if_pos c];exact h1 c
 .rw[if_neg c];exact h2 c
def Le{c:Bool}{α:Type}{t e:StateT bp Sem α}{Q:α->bp->Prop}(h1:wpS (bo prog w) A E s t Q st)(h2:wpS (bo prog w) A E s e Q st):wpS (bo prog w) A E s (if c=true then t else e) Q st:=by
 cases c;·exact h2
 .exact h1
variable{aA:bp}
def zU{g:Nat}{α:Type}{f:Unit->StateT bp Sem α}{Q:α->bp->Prop}(S:dj aA st)(h:∀st',dj aA st'->wpS (bo prog w) A E s (f ()) Q st'):wpS (bo prog w) A E s (lJ g>>=f) Q st:=
 bg (Zh λst' z=>h st' (S.trans z))
def iD{arr:Array ba}{α:Type}{f:ba->StateT bp Sem α}{Q:α->bp->Prop}(hi:i<arr.size)(h:wpS (bo prog w) A E s (f arr[i]) Q st):wpS (bo prog w) A E s (eL arr i>>=f) Q st:=bg (sY hi h)
end
section
variable{prog:cj}{w:dc}{A:c5}{E:ar->au->Prop}{s:au}{st:bp}{aA:bp}
def XN(a b:Array ba):BZ a b=(do
 rule "list.sort.merge-hi"
 let total:=a.size+b.size
 let done (out:Array ba) (na nb:Nat):=a.extract 0 na++b.extract 0 nb++out.reverse
 let c (out:Array ba) (na nb:Nat):=b.extract 0 nb++a.extract 0 na++out.reverse
 let mut na:=a.size-1
 let mut nb:=b.size
 let mut out:Array ba:= #[<-eL a na]
 if na==0 then return done out na nb
 if nb==1 then return c out na nb
 let mut minGallop:=wU (<-get)
 for _ in[0:total] do
  let mut ko:=0
  let mut kh:=0
  for _ in[0:total] do
   let some aWins<-lt' (<-eL b (nb-1)) (<-eL a (na-1))|return done out na nb
   if aWins then
    na:=na-1;out:=out.push (<-eL a na);ko:=ko+1;kh:=0
    if na==0 then return done out na nb
    if ko≥minGallop then break
   else
    nb:=nb-1;out:=out.push (<-eL b nb);kh:=kh+1;ko:=0
    if nb==1 then return c out na nb
    if kh≥minGallop then break
  rule "list.sort.gallop"
  minGallop:=minGallop+1
  for _ in[0:total] do
   if minGallop>1 then minGallop:=minGallop-1
   lJ minGallop
   let some at_<-ku false (<-eL b (nb-1)) a 0 na (na-1)|return done out na nb
   let k:=na-at_
   ko:=k
   if k>0 then
    out:=out++(a.extract at_ na).reverse;na:=at_
    if na==0 then return done out na nb
   nb:=nb-1;out:=out.push (<-eL b nb)
   if nb==1 then return c out na nb
   let some at_<-ku true (<-eL a (na-1)) b 0 nb (nb-1)|return done out na nb
   let k:=nb-at_
   kh:=k
   if k>0 then
    out:=out++(b.extract at_ nb).reverse;nb:=at_
    if nb==1 then return c out na nb
    if nb==0 then return done out na nb
   na:=na-1;out:=out.push (<-eL a na)
   if na==0 then return done out na nb
   if ko<7 && kh<7 then break
  minGallop:=minGallop+1
  lJ minGallop
 eC "internal:list.sort.merge-bound"):=rfl
def Mh(a b:Array ba)(i j:Nat)(out:Array ba):Prop:=out.toList.Perm (a.toList.drop i++b.toList.drop j)
def Ex{l:List ba}(h:i<l.length):l.drop i=l[i]::l.drop (i+1):=uc h
theorem Mh.kN{a b:Array ba}{out:Array ba}(h:Mh a b i j out)(hj:j-1<b.size)(h1:1<=j):Mh a b i (j-1) (out.push b[j-1]):=by
 unfold Mh at*;rw[l6,Ex (l:=b.toList) (i:=j-1) (by simpa using hj),show j-1+1=j by omega];refine(h.append_right _).trans ?_;rw[fj];refine m9 _ ?_;simp
theorem Mh.kY{a b:Array ba}{out:Array ba}(h:Mh a b i j out)(hi:i-1<a.size)(h1:1<=i):Mh a b (i-1) j (out.push a[i-1]):=by
 unfold Mh at*;rw[l6,Ex (l:=a.toList) (i:=i-1) (by simpa using hi),show i-1+1=i by omega];refine(h.append_right _).trans ?_;refine ny.trans ?_;simp
theorem CP{l:List ba}{k:Nat}(h:k<=i):l.drop k=(l.take i).drop k++l.drop i:=by
 have e:=(kK i l).symm
 conv=>lhs;rw[e]
 rw[List.drop_append];by_cases hl:k<=(l.take i).length;·rw[show k-(l.take i).length=0 by omega];rfl
 .have:l.length<=k:=by rw[mX] at hl;omega
  rw[Dj (l:=l) (i:=i) ∅];simp
def Mh.pP{a b:Array ba}{k:Nat}{out:Array ba}(h:Mh a b i j out)(hk:k<=i):Mh a b k j (out++(a.extract k i).reverse):=by
 unfold Mh at*;rw[fS,CT,kG,CP (l:=a.toList) hk];refine(h.append (Ho _)).trans ?_;refine ny.trans ?_;rw[fj]
def Mh.oO{a b:Array ba}{k:Nat}{out:Array ba}(h:Mh a b i j out)(hk:k<=j):Mh a b i k (out++(b.extract k j).reverse):=by
 unfold Mh at*;rw[fS,CT,kG,CP (l:=b.toList) hk];refine(h.append (Ho _)).trans ?_;rw[fj];exact m9 _ ny
def Mh.done{a b:Array ba}{out:Array ba}(h:Mh a b i j out):(a.extract 0 i++b.extract 0 j++out.reverse).toList.Perm (a.toList++b.toList):=by
 unfold Mh at h;rw[fS,fS,kG,kG,CT,vK,vK];have ea:=(kK i a.toList).symm;have eb:=(kK j b.toList).symm;rw[show a.toList++b.toList=(a.toList.take i++a.toList.drop i)++(b.toList.take j++b.toList.drop j) by rw[<-ea,<-eb]];refine(m9 _ ((Ho _).trans h)).trans ?_;simp only[fj];refine m9 _ ?_;rw[<-fj,<-fj];exact Gj _ ny
def Mh.first{a b:Array ba}{out:Array ba}(h:Mh a b i j out):(b.extract 0 j++a.extract 0 i++out.reverse).toList.Perm (a.toList++b.toList):=by
 refine ti ?_ h.done;rw[fS,fS,fS,fS];exact Gj _ ny
end
def aaF(i:Nat):mergeAt' i=(do
 let s<-get
 let (some (sa,na,power),some (sb,nb,_)):=((pendingOf s)[i]?,(pendingOf s)[i+1]?)|eC "internal:list.sort.pending"
 set (ky s (((pendingOf s).setIfInBounds i (sa,na+nb,power)).eraseIdxIfInBounds (i+1)))
 let some k<-ku false (<-eL (cn s) sb) (cn s) sa na 0|return false
 let (sa,na):=(sa+k,na-k)
 if na==0 then return true
 let some nb<-ku true (<-eL (cn s) (sa+na-1)) (cn s) sb nb (nb-1)|return false
 if nb==0 then return true
 let x:=(cn s).extract sa sb
 let y:=(cn s).extract sb (sb+nb)
 let merged<-if na<=nb then yg x y else BZ x y
 modify λs=>setArr s (merged.toList.zipIdx.foldl (λa (p,j)=>a.setIfInBounds (sa+j) p) (cn s))
 return (jh (<-get)).isNone):=rfl
def Ch:List (Nat×Nat×Nat)->Nat->Nat->Prop
 |[],x,y=>x=y
 |(s,n,_)::r,x,y=>s=x/\1<=n/\Ch r (x+n) y
theorem Ch.append:∀{l r:List (Nat×Nat×Nat)} {x z:Nat},Ch (l++r) x z↔∃y,Ch l x y/\Ch r y z
  |[],r,x,z=>⟨λh=>⟨x,rfl,h⟩,λ⟨y,e,h⟩=>by cases e;exact h⟩
  | (s, n, p) :: l, r, x, z => by
    show(s=x/\1<=n/\Ch (l++r) (x+n) z)↔∃y,(s=x/\1<=n/\Ch l (x+n) y)/\Ch r y z;rw[Ch.append];exact⟨λ⟨a,b,y,c,d⟩=>⟨y,⟨a,b,c⟩,d⟩,λ⟨y,⟨a,b,c⟩,d⟩=>⟨a,b,y,c,d⟩⟩
theorem Ch.le:∀{l:List (Nat×Nat×Nat)} {x y:Nat},Ch l x y->x<=y
 |[],x,y,h=>jf h
 |(s,n,p)::l,x,y,⟨a,b,c⟩=>by have:=Ch.le c;omega
theorem Ch.two{lo:Nat}{na pw sb nb:Nat}(h:Ch l 0 lo)(e1:l[i]?=some (sa,na,pw))(e2:l[i+1]?=some (sb,nb,n)):
  sb=sa+na/\1<=na/\1<=nb/\sb+nb<=lo/\Ch ((l.set i (sa,na+nb,pw)).eraseIdx (i+1)) 0 lo:=by
 have hi:i<l.length:=(bV.mp e1).1;have b:i+1<l.length:=(bV.mp e2).1;have g1:=(bV.mp e1).2;have g2:=(bV.mp e2).2;have M:l=l.take i++(sa,na,pw)::(sb,nb,n)::l.drop (i+2):=by
  have:=(kK i l).symm;rwa[uc hi,uc b,g1,g2] at this
 have hl:(l.take i).length=i:=by rw[mX];omega
 generalize l.take i=A1 at*;generalize l.drop (i+2)=A2 at*;subst M;obtain⟨y,c1,a1,a2,g,a,c⟩:=Ch.append.mp h;have:=c.le;refine⟨∅,a2,a,∅,?_⟩;have e:((A1++(sa,na,pw)::(sb,nb,n)::A2).set i (sa,na+nb,pw)).eraseIdx (i+1)=A1++(sa,na+nb,pw)::A2:=by
  rw[RV _ _ ∅,hl,zu,n4,L0 ∅,show i+1-A1.length=1 by omega]
  rfl
 rw[e];exact Ch.append.mpr ⟨y,c1,a1,∅,by rwa[<-w7]⟩
theorem D8(sa:Nat):∀(ms:List ba) (k:Nat) (arr:Array ba),sa+k+ms.length<=arr.size->
    ((ms.zipIdx k).foldl (λ(a:Array ba) (pj:ba×Nat)=>a.setIfInBounds (sa+pj.2) pj.1) arr).toList=arr.toList.take (sa+k)++ms++arr.toList.drop (sa+k+ms.length)
  |[],k,arr,h=>by simp
  | m :: ms, k, arr, h => by
    rw[cZ] at h;rw[List.zipIdx_cons,tj,D8 sa ms (k+1) _ (by rw[Array.size_setIfInBounds];omega)];have hs:(arr.setIfInBounds (sa+k) m).toList=arr.toList.set (sa+k) m:=Tr ..;show dA _ ((arr.setIfInBounds (sa+k) m).toList)++ms++Fn _ ((arr.setIfInBounds (sa+k) m).toList)=_;rw[hs];have h2:sa+k<arr.toList.length:=by simp;omega
    have e1:(arr.toList.set (sa+k) m).take (sa+(k+1))=arr.toList.take (sa+k)++[m]:=by
      rw[show sa+(k+1)=sa+k+1 by omega,vb,dB h2,List.take_set_of_le (aH _)]
      rfl
    have e2:(arr.toList.set (sa+k) m).drop (sa+(k+1)+ms.length)=arr.toList.drop (sa+k+(ms.length+1)):=by
      rw[List.drop_set_of_lt ∅,show sa+(k+1)+ms.length=sa+k+(ms.length+1) by omega]
    rw[e1,e2,cZ];simp
theorem PU{arr:Array ba}{merged:Array ba}{sb nb:Nat}(h1:sa<=sb)(h2:sb+nb<=arr.size)(hm:merged.toList.Perm ((arr.extract sa sb).toList++(arr.extract sb (sb+nb)).toList)):
  (merged.toList.zipIdx.foldl (λ(a:Array ba) (pj:ba×Nat)=>a.setIfInBounds (sa+pj.2) pj.1) arr).toList.Perm arr.toList:=by
 have hl:=hm.length_eq;rw[cH,kG,kG,rF,rF,mX,mX,dS,dS] at hl;have e:=D8 sa merged.toList 0 arr (by rw[dS];omega);rw[dS,vO,show sa+merged.size=sb+nb by omega] at e;rw[e];have e2:arr.toList=arr.toList.take sa++((arr.extract sa sb).toList++(arr.extract sb (sb+nb)).toList)++arr.toList.drop (sb+nb):=by
  rw[kG,kG];have a1:=CP (l:=arr.toList) (k:=sb) (i:=sb+nb) ∅;have a2:=CP (l:=arr.toList) (k:=sa) (i:=sb) h1;rw[fj,fj,<-a1,<-a2,kK]
 conv=>rhs;rw[e2]
 exact(m9 _ hm).append_right _
structure SI(a₀:Array ba)(lo:Nat)(st:bp):Prop where
 perm:(cn st).toList.Perm a₀.toList
 kind:kindOf st=dO
 failed:jh st=none
 ch:Ch (pendingOf st).toList 0 lo
def gp.perm{a b:Array ba}(h:gp a)(p:b.toList.Perm a.toList):gp b:=λi x e=>by
 have:x∈b.toList:=by rw[z9];exact EF e
 have:x∈a.toList:=p.mem_iff.mp this;obtain⟨j,hj⟩:=jS this;exact h j x (by rw[<-jK];exact hj)
def gp.ext{a:Array ba}(h:gp a)(i j:Nat):gp (a.extract i j):=λk x e=>by
 have:x∈(a.extract i j).toList:=by rw[z9];exact EF e
 rw[kG] at this;have:x∈a.toList:=Jj (List.mem_of_mem_drop this);obtain⟨j,hj⟩:=jS this;exact h j x (by rw[<-jK];exact hj)
theorem SI.size{a₀:Array ba}{lo:Nat}{st:bp}(h:SI a₀ lo st):(cn st).size=a₀.size:=by have:=h.perm.length_eq;simpa using this
section
variable{prog:cj}{w:dc}{A:c5}{E:ar->au->Prop}{s:au}{st:bp}{a₀:Array ba}{lo:Nat}
def WY{st':bp}{Q:PUnit->bp->Prop}(h:Q ⟨⟩ st'):wpS (bo prog w) A E s (set st':StateT bp Sem PUnit) Q st:=by
 unfold wpS;rw[StateT.run_set];exact aw ⟨rfl,h⟩
def SI.arr{xs:Array ba}(hI:SI a₀ lo st)(hp:xs.Perm (cn st)):SI a₀ lo (setArr st xs):=⟨(Array.perm_iff_toList_perm.mp hp).trans hI.perm,hI.kind,hI.failed,hI.ch⟩
theorem Ch.pw{f:Nat×Nat×Nat->Nat×Nat×Nat}(hf:∀v,(f v).1=v.1/\(f v).2.1=v.2.1){l:List (Nat×Nat×Nat)}{i x y:Nat}(h:Ch l x y):Ch (l.modify i f) x y:=by
  induction l generalizing i x with
  |nil=>cases i<;>exact h
  | cons v l ih =>
    obtain⟨s,n,p⟩:=v;obtain⟨a,b,c⟩:=h;cases i with
    | zero =>
      have:=hf (s,n,p);rw[List.modify_zero_cons];generalize f (s,n,p)=u at this;obtain⟨s2,n2,p2⟩:=u;dsimp only at this;exact⟨this.1.trans a,∅,by rw[this.2];exact c⟩
    |succ i=>rw[List.modify_succ_cons];exact⟨a,b,ih c⟩
theorem afl{c:Prop}[Decidable c]{a:Nat}:(if c then a-1 else a)<=a:=by split<;>omega
end
def ady{vs:List ar}(hI:eI vs ns){xs:Array ba}(hp:xs.toList.Perm (lB vs).toList):
  ∃f,eI (xs.map (·.2)).toList f/\f.Perm ns:=by
 have hl:xs.toList.Perm (vs.zip vs):=by rw[<-mB];exact hp
 have c:∀p,p∈xs.toList->p.1=p.2/\p.1∈vs:=λp a=>p4 (hl.mem_iff.mp a);refine⟨xs.toList.map (λp=>Fu p.1),?_,?_⟩
 .have e:(xs.map (·.2)).toList=xs.toList.map (·.1):=by
   rw[qs];exact Jg λp a=>(c p a).1.symm
  rw[e]
  have h1:=intsAre_map (xs.toList.map (·.1)) (by
   intro v hv;obtain⟨p,a,rfl⟩:=bH.mp hv;exact hI.all _ (c p a).2)
  rwa[je] at h1
 .have h1:=hl.map (λp=>Fu p.1);have e2:(vs.zip vs).map (λp=>Fu p.1)=ns:=by
   have:(vs.zip vs).map (λp=>Fu p.1)=((vs.zip vs).map Prod.fst).map Fu:=by rw[je];rfl
   rw[this,List.map_fst_zip (aH _),hI.nums]
  rwa[e2] at h1
def YP{vs:List ar}(hI:eI vs ns):gp (lB vs):=λi x e=>by
 have:x∈(lB vs).toList:=by rw[z9];exact EF e
 rw[mB] at this;exact hI.all _ (p4 this).2
noncomputable def kd(x:ba):Int:=match x.1 with| .int n _=>n|_=>0
noncomputable def kz(a:Array ba)(i:Nat):Int:=match a[i]? with|some x=>kd x|none=>0
def fB{a:Array ba}(h:i<a.size):kz a i=kd a[i]:=by unfold kz;rw[getElem?_pos a i h]
def Ra(a:Array ba)(lo hi:Nat):Prop:=∀i j,lo<=i->i<=j->j<hi->kz a i<=kz a j
def cN(left:Bool)(key:ba)(v:Int):Prop:=if left=true then v<kd key else v<=kd key
theorem sC{u v:Int}(h:cN left key v)(hu:u<=v):cN left key u:=by
 unfold cN at*;cases left with
 |true=>rw[if_pos rfl] at*;omega
 |false=>rw[if_neg cC] at*;omega
section
variable{prog:cj}{w:dc}{A:c5}{E:ar->au->Prop}{s:au}{st:bp}
theorem Ar{x y:ba}{Q:Option Bool->bp->Prop}(hk:kindOf st=dO)(hx:mG x)(hy:mG y)(h1:kd x<kd y->Q (some true) st)(h2:kd y<=kd x->Q (some false) st):wpS (bo prog w) A E s (lt' x y) Q st:=by
 obtain⟨n,t,e1⟩:=hx;obtain⟨m,u,e2⟩:=hy;have d1:kd x=n:=by unfold kd;rw[e1]
 have d2:kd y=m:=by unfold kd;rw[e2]
 rw[lt'_eq];refine bg (j3 ?_);rw[hk,keyLt'_oneType,e1,e2];refine bg (mv (i0 (oneLt_int ⟨rfl,?_⟩)));refine be ?_;by_cases c:n<m;·rw[decide_eq_true c];exact h1 ∅
 .rw[decide_eq_false c];exact h2 ∅
theorem xA{arr:Array ba}{base:Nat}{Q:Option Bool->bp->Prop}(hk:kindOf st=dO)(hy:mG key)(ha:gp arr)(hi:base+i<arr.size)(h1:cN left key (kz arr (base+i))->Q (some true) st)(h2:¬cN left key (kz arr (base+i))->Q (some false) st):wpS (bo prog w) A E s (qu left key arr base i) Q st:=by
  unfold qu;refine bg (sY hi ?_);rw[fB hi] at h1 h2;unfold cN at h1 h2;cases left with
  | true =>
    simp only[if_true] at h1 h2⊢;exact Ar hk (ha.at hi) hy h1 λz=>h2 ∅
  | false =>
    simp only[l8,if_false] at h1 h2⊢;exact bg (Ar hk hy (ha.at hi) (λz=>be (h2 ∅)) λz=>be (h1 z))
theorem QE{arr:Array ba}{base lo hi:Nat}{Q:Option (Option Nat)×Nat×Nat->bp->Prop}(hk:kindOf st=dO)(hy:mG key)(ha:gp arr)(hb:base+n<=arr.size)(hR:Ra arr base (base+n))(hn:hi<=n)(hl:lo<=hi)(j:∀x<lo,cN left key (kz arr (base+x)))(p2:∀x,hi<=x->x<n->¬cN left key (kz arr (base+x)))
    (h:∀l k,k<=n->(∀x<k,cN left key (kz arr (base+x)))->(∀x,k<=x->x<n->¬cN left key (kz arr (base+x)))->Q (none,l,k) st):
    wpS (bo prog w) A E s (forIn [0:n] ((none,lo,hi):Option (Option Nat)×Nat×Nat) λx __s=>
                if __s.snd.fst≥__s.snd.snd then pure (kl (none,__s.snd.fst,__s.snd.snd))
                else do
                  let __x<-qu left key arr base (__s.snd.fst+(__s.snd.snd-__s.snd.fst)/2)
                  match __x with
                    | some more =>
                      if more=true then
                        pure (dE (none,__s.snd.fst+(__s.snd.snd-__s.snd.fst)/2+1,__s.snd.snd))
                      else pure (dE (none,__s.snd.fst,__s.snd.fst+(__s.snd.snd-__s.snd.fst)/2))
                    |_=>pure (kl (some none,__s.snd.fst,__s.snd.snd))) Q st:=by
  refine dg (I:=λx c st'=>st'=st/\∃l k,c=(none,l,k)/\k<=n/\l<=k/\k-l+x<=n/\(∀y<l,cN left key (kz arr (base+y)))/\∀y,k<=y->y<n->¬cN left key (kz arr (base+y))) ?_ ?_ ⟨rfl,lo,hi,rfl,hn,hl,∅,j,p2⟩
  · rintro x c st' _ hx ⟨rfl,l,k,rfl,hkn,hlk,hm,q1,q2⟩
    dsimp only;by_cases a:l≥k;· rw[if_pos a];exact be (h l k hkn (λy hy=>q1 y ∅) q2)
    · rw[if_neg a]
      obtain⟨m,R⟩:∃m,l+(k-l)/2=m:=⟨_,rfl⟩;rw[R];refine bg (xA hk hy ha ∅ (λb=>?_) λb=>?_);· exact be ⟨rfl,_,_,rfl,hkn,∅,∅,λy hy=>sC b (hR _ _ ∅ ∅ ∅),q2⟩
      · exact be ⟨rfl,_,_,rfl,∅,∅,∅,q1,λy h1 h2 z=>b (sC z (hR _ _ ∅ ∅ ∅))⟩
  · rintro c st' ⟨rfl,l,k,rfl,hkn,hlk,hm,q1,q2⟩
    exact h l k hkn (λy hy=>q1 y ∅) q2
theorem ID{arr:Array ba}{base d:Nat}{Q:Option Nat->bp->Prop}(hk:kindOf st=dO)(hy:mG key)(ha:gp arr)(hb:base+n<=arr.size)(hR:Ra arr base (base+n))(L:d<n)
  (h:∀k,k<=n->(∀x<k,cN left key (kz arr (base+x)))->(∀x,k<=x->x<n->¬cN left key (kz arr (base+x)))->Q (some k) st):wpS (bo prog w) A E s (ku left key arr base n d) Q st:=by
 rw[Qe];refine bg (xA hk hy ha ∅ (λb0=>?_) λb0=>?_)
 .dsimp only;simp only[if_true];refine bg (fv (dg (I:=λx c st'=>st'=st/\∃l k,c=(none,l,k)/\d+l<n/\l<k/\x+1<=k/\cN left key (kz arr (base+(d+l)))) (Q:=λc st'=>st'=st/\∃l k,c=(none,l,k)/\d+l<n/\l<k/\cN left key (kz arr (base+(d+l)))/\(n-d<=k\/¬cN left key (kz arr (base+(d+k))))) ?_ ?_ ⟨rfl,_,_,rfl,∅,∅,∅,b0⟩) ?_)
  .rintro x c st' _ hx ⟨rfl,l,k,rfl,i1,i2,i3,i4⟩;dsimp only;by_cases a:k≥n-d;·rw[if_pos a];exact be ⟨rfl,_,_,rfl,i1,i2,i4, .inl a⟩
   .rw[if_neg a];refine bg (xA hk hy ha ∅ (λb=>?_) λb=>?_);·exact be ⟨rfl,_,_,rfl,∅,∅,∅,b⟩
    .exact be ⟨rfl,_,_,rfl,i1,i2,i4, .inr b⟩
  .rintro c st' ⟨rfl,l,k,rfl,i1,i2,i3,i4⟩;exact⟨rfl,_,_,rfl,i1,i2,i4, .inl ∅⟩
  .rintro c st' ⟨rfl,l,k,rfl,i1,i2,i4,i5⟩;dsimp only;refine bg (QE hk hy ha hb hR ∅ ∅ (λx hx=>sC i4 (hR _ _ ∅ ∅ ∅)) (λx h1 h2 z=>?_) λl k e J q2=>be (h k e J q2));rcases i5 with i5|i5
   .omega
   .exact i5 (sC z (hR _ _ ∅ ∅ ∅))
 .dsimp only;simp only[l8,if_false];refine bg (fv (dg (I:=λx c st'=>st'=st/\∃l k,c=(none,l,k)/\l<=d/\l<k/\x+1<=k/\¬cN left key (kz arr (base+(d-l)))) (Q:=λc st'=>st'=st/\∃l k,c=(none,l,k)/\l<=d/\l<k/\¬cN left key (kz arr (base+(d-l)))/\(d+1<=k\/cN left key (kz arr (base+(d-k))))) ?_ ?_ ⟨rfl,_,_,rfl,∅,∅,∅,b0⟩) ?_)
  .rintro x c st' _ hx ⟨rfl,l,k,rfl,i1,i2,i3,i4⟩;dsimp only;by_cases a:k≥d+1;·rw[if_pos a];exact be ⟨rfl,_,_,rfl,i1,i2,i4, .inl a⟩
   .rw[if_neg a];refine bg (xA hk hy ha ∅ (λb=>?_) λb=>?_);·exact be ⟨rfl,_,_,rfl,i1,i2,i4, .inr b⟩
    .exact be ⟨rfl,_,_,rfl,∅,∅,∅,b⟩
  .rintro c st' ⟨rfl,l,k,rfl,i1,i2,i3,i4⟩;exact⟨rfl,_,_,rfl,i1,i2,i4, .inl ∅⟩
  .rintro c st' ⟨rfl,l,k,rfl,i1,i2,i4,i5⟩;dsimp only;refine bg (QE hk hy ha hb hR ∅ ∅ (λx hx=>?_) (λx h1 h2 z=>i4 (sC z (hR _ _ ∅ ∅ ∅))) λl k e J q2=>be (h k e J q2));rcases i5 with i5|i5
   .omega
   .exact sC i5 (hR _ _ ∅ ∅ ∅)
def jd{a:Array ba}{x:ba}(h:i<a.size+1):kz (a.push x) i=if i=a.size then kd x else kz a i:=by
 unfold kz;rw[Kv];by_cases c:i=a.size;·rw[if_pos c,if_pos c]
 .rw[if_neg c,if_neg c]
def fX{a b:Array ba}:kz (a++b) i=if i<a.size then kz a i else kz b (i-a.size):=by
 unfold kz;rw[Nc];by_cases c:i<a.size;·rw[if_pos c,if_pos c]
 .rw[if_neg c,if_neg c]
theorem eX{a:Array ba}{x:Nat}(hj:j<=a.size)(hx:i+x<j):kz (a.extract i j) x=kz a (i+x):=by
 unfold kz;rw[M3,if_pos ∅]
structure Mo(a b:Array ba)(i j:Nat)(out:Array ba):Prop where
 up:Ra out 0 out.size
 oa:∀x y,x<out.size->i<=y->y<a.size->kz out x<=kz a y
 ob:∀x y,x<out.size->j<=y->y<b.size->kz out x<=kz b y
variable{a b out:Array ba}{i j k:Nat}
theorem Mo.kN(h:Mo a b i j out)(hb:Ra b 0 b.size)(ha:Ra a 0 a.size)(hj:j<b.size)(hc:i<a.size->kz b j<=kz a i):Mo a b i (j+1) (out.push b[j]):=by
 have e:kd b[j]=kz b j:=(fB hj).symm;refine⟨λx y h0 d hy=>?_,λx y hx hi hy=>?_,λx y hx hi hy=>?_⟩<;>rw[uC] at*
 .rw[jd ∅,jd ∅,e];by_cases c1:y=out.size
  .rw[if_pos c1];by_cases c2:x=out.size;·rw[if_pos c2];omega
   .rw[if_neg c2];exact h.ob x j ∅ ∅ hj
  .rw[if_neg c1,if_neg ∅];exact h.up x y ∅ d ∅
 .rw[jd ∅,e];by_cases c2:x=out.size
  .rw[if_pos c2];have h1:=hc ∅;have h2:=ha i y ∅ hi hy;omega
  .rw[if_neg c2];exact h.oa x y ∅ hi hy
 .rw[jd ∅,e];by_cases c2:x=out.size;·rw[if_pos c2];exact hb j y ∅ ∅ hy
  .rw[if_neg c2];exact h.ob x y ∅ ∅ hy
theorem Mo.kY(h:Mo a b i j out)(hb:Ra b 0 b.size)(ha:Ra a 0 a.size)(hi:i<a.size)(hc:j<b.size->kz a i<=kz b j):Mo a b (i+1) j (out.push a[i]):=by
 have e:kd a[i]=kz a i:=(fB hi).symm;refine⟨λx y h0 d hy=>?_,λx y hx c hy=>?_,λx y hx c hy=>?_⟩<;>rw[uC] at*
 .rw[jd ∅,jd ∅,e];by_cases c1:y=out.size
  .rw[if_pos c1];by_cases c2:x=out.size;·rw[if_pos c2];omega
   .rw[if_neg c2];exact h.oa x i ∅ ∅ hi
  .rw[if_neg c1,if_neg ∅];exact h.up x y ∅ d ∅
 .rw[jd ∅,e];by_cases c2:x=out.size;·rw[if_pos c2];exact ha i y ∅ ∅ hy
  .rw[if_neg c2];exact h.oa x y ∅ ∅ hy
 .rw[jd ∅,e];by_cases c2:x=out.size
  .rw[if_pos c2];have h1:=hc ∅;have h2:=hb j y ∅ c hy;omega
  .rw[if_neg c2];exact h.ob x y ∅ c hy
theorem Mo.pP(h:Mo a b i j out)(hb:Ra b 0 b.size)(ha:Ra a 0 a.size)(hk:i+k<=a.size)(hc:∀y,i<=y->y<i+k->j<b.size->kz a y<=kz b j):Mo a b (i+k) j (out++a.extract i (i+k)):=by
 have hs:(a.extract i (i+k)).size=k:=by rw[gK];omega
 refine⟨λx y h0 d hy=>?_,λx y hx c hy=>?_,λx y hx c hy=>?_⟩<;>rw[nV,hs] at*
 .rw[fX,fX];by_cases c1:y<out.size;·rw[if_pos c1,if_pos ∅];exact h.up x y ∅ d c1
  .rw[if_neg c1,eX (x:=y-out.size) hk ∅];by_cases c2:x<out.size;·rw[if_pos c2];exact h.oa x (i+(y-out.size)) c2 ∅ ∅
   .rw[if_neg c2,eX hk ∅];exact ha _ _ ∅ ∅ ∅
 .rw[fX];by_cases c2:x<out.size;·rw[if_pos c2];exact h.oa x y c2 ∅ hy
  .rw[if_neg c2,eX hk ∅];exact ha _ _ ∅ ∅ hy
 .rw[fX];by_cases c2:x<out.size;·rw[if_pos c2];exact h.ob x y c2 ∅ hy
  .rw[if_neg c2,eX hk ∅];have h1:=hc (i+(x-out.size)) ∅ ∅ ∅;have h2:=hb j y ∅ c hy;omega
theorem Mo.oO(h:Mo a b i j out)(hb:Ra b 0 b.size)(ha:Ra a 0 a.size)(hk:j+k<=b.size)(hc:∀y,j<=y->y<j+k->i<a.size->kz b y<=kz a i):Mo a b i (j+k) (out++b.extract j (j+k)):=by
 have hs:(b.extract j (j+k)).size=k:=by rw[gK];omega
 refine⟨λx y h0 d hy=>?_,λx y hx c hy=>?_,λx y hx c hy=>?_⟩<;>rw[nV,hs] at*
 .rw[fX,fX];by_cases c1:y<out.size;·rw[if_pos c1,if_pos ∅];exact h.up x y ∅ d c1
  .rw[if_neg c1,eX (x:=y-out.size) hk ∅];by_cases c2:x<out.size;·rw[if_pos c2];exact h.ob x (j+(y-out.size)) c2 ∅ ∅
   .rw[if_neg c2,eX hk ∅];exact hb _ _ ∅ ∅ ∅
 .rw[fX];by_cases c2:x<out.size;·rw[if_pos c2];exact h.oa x y c2 ∅ hy
  .rw[if_neg c2,eX hk ∅];have h1:=hc (j+(x-out.size)) ∅ ∅ ∅;have h2:=ha i y ∅ c hy;omega
 .rw[fX];by_cases c2:x<out.size;·rw[if_pos c2];exact h.ob x y c2 ∅ hy
  .rw[if_neg c2,eX hk ∅];exact hb _ _ ∅ ∅ hy
theorem Mo.zN(h:Mo a b i j out)(ha:Ra a 0 a.size):Ra (out++a.extract i a.size) 0 (out++a.extract i a.size).size:=λx y h0 d hy=>by
 rw[nV,gK] at hy;rw[fX,fX];by_cases c1:y<out.size;·rw[if_pos c1,if_pos ∅];exact h.up x y ∅ d c1
 .rw[if_neg c1,eX (x:=y-out.size) (aH _) ∅];by_cases c2:x<out.size;·rw[if_pos c2];exact h.oa x (i+(y-out.size)) c2 ∅ ∅
  .rw[if_neg c2,eX (aH _) ∅];exact ha _ _ ∅ ∅ ∅
theorem Mo.zA(h:Mo a b i j out)(hb:Ra b 0 b.size):Ra (out++b.extract j b.size) 0 (out++b.extract j b.size).size:=λx y h0 d hy=>by
 rw[nV,gK] at hy;rw[fX,fX];by_cases c1:y<out.size;·rw[if_pos c1,if_pos ∅];exact h.up x y ∅ d c1
 .rw[if_neg c1,eX (x:=y-out.size) (aH _) ∅];by_cases c2:x<out.size;·rw[if_pos c2];exact h.ob x (j+(y-out.size)) c2 ∅ ∅
  .rw[if_neg c2,eX (aH _) ∅];exact hb _ _ ∅ ∅ ∅
structure Mp(a b:Array ba):Prop where
 ra:Ra a 0 a.size
 rb:Ra b 0 b.size
 kA:gp a
 kB:gp b
 hd:kz b 0<=kz a 0
 tl:∀y,y<b.size->kz b y<=kz a (a.size-1)
def cY(z:Array ba):Prop:=Ra z 0 z.size
def Mo.rm(P:Mp a b)(h:Mo a b i j out)(hj:j=b.size):cY (out++a.extract i a.size++b.extract j b.size):=by
 have e:b.extract j b.size= #[]:=by rw[hj];simp
 unfold cY;rw[e,C8];exact h.zN P.ra
def Mo.qV(P:Mp a b)(h:Mo a b i j out)(hi:i=a.size):cY (out++a.extract i a.size++b.extract j b.size):=by
 have e:a.extract i a.size= #[]:=by rw[hi];simp
 unfold cY;rw[e,C8];exact h.zA P.rb
theorem Mo.xR(P:Mp a b)(h:Mo a b i j out)(hi:i+1=a.size)(hj:j<=b.size):cY (out++b.extract j b.size++a.extract i a.size):=by
 have:=h.oO (k:=b.size-j) P.rb P.ra ∅ (λy _ h2 _=>by have:=P.tl y ∅;rwa[show a.size-1=i by omega] at this);rw[show j+(b.size-j)=b.size by omega] at this;exact this.zN P.ra
def LQ(a b:Array ba)(aA:bp)(B:Nat)(r:Option (Array ba))(out:Array ba)(ia ib:Nat)(st':bp):Prop:=
 dj aA st'/\(match r with|some z=>z.toList.Perm (a.toList++b.toList)/\cY z|none=>Mg a b ia ib out/\Mo a b ia ib out/\ia+1<a.size/\ib<b.size/\B<=ia+ib)
variable{aA st':bp}{B ia ib:Nat}{z:Array ba}
theorem LQ.some(S:dj aA st')(h:z.toList.Perm (a.toList++b.toList))(o:cY z):LQ a b aA B (some z) out ia ib st':=⟨S,h,o⟩
theorem LQ.none(S:dj aA st')(m:Mg a b ia ib out)(o:Mo a b ia ib out)(h1:ia+1<a.size)(h2:ib<b.size)(h3:B<=ia+ib):LQ a b aA B none out ia ib st':=⟨S,m,o,h1,h2,h3⟩
def QG{x y:ba}{α:Type}{f:Option Bool->StateT bp Sem α}{Q:α->bp->Prop}(hk:kindOf aA=dO)(S:dj aA st)(hx:mG x)(hy:mG y)(h1:kd x<kd y->wpS (bo prog w) A E s (f (some true)) Q st)(h2:kd y<=kd x->wpS (bo prog w) A E s (f (some false)) Q st):wpS (bo prog w) A E s (lt' x y>>=f) Q st:=bg (Ar (S.1.trans hk) hx hy h1 h2)
def B8{arr:Array ba}{base d:Nat}{α:Type}{f:Option Nat->StateT bp Sem α}{Q:α->bp->Prop}(hk:kindOf aA=dO)(S:dj aA st)(hy:mG key)(ha:gp arr)(hb:base+n<=arr.size)(hR:Ra arr base (base+n))(L:d<n)(h:∀k,k<=n->(∀x<k,cN left key (kz arr (base+x)))->(∀x,k<=x->x<n->¬cN left key (kz arr (base+x)))->wpS (bo prog w) A E s (f (some k)) Q st):wpS (bo prog w) A E s (ku left key arr base n d>>=f) Q st:=bg (ID (S.1.trans hk) hy ha hb hR L h)
theorem Ra.sub{x:Array ba}{l h k h':Nat}(r:Ra x l h)(h1:l<=k)(h2:h'<=h):Ra x k h':=λi j a b c=>r i j ∅ b ∅
def qF{α:Type}{t e:StateT bp Sem α}{Q:α->bp->Prop}(h:wpS (bo prog w) A E s t Q st):wpS (bo prog w) A E s (if true=true then t else e) Q st:=by rw[if_pos rfl];exact h
def p7{α:Type}{t e:StateT bp Sem α}{Q:α->bp->Prop}(h:wpS (bo prog w) A E s e Q st):wpS (bo prog w) A E s (if false=true then t else e) Q st:=by rw[if_neg cC];exact h
theorem VO{x:Array ba}{i j:Nat}{hi:i<x.size}{hj:j<y.size}(h:kd x[i]<kd y[j]):kz x i<=kz y j:=by rw[fB hi,fB hj];omega
theorem Qj{x:Array ba}{i j:Nat}{hi:i<x.size}{hj:j<y.size}(h:kd y[j]<=kd x[i]):kz y j<=kz x i:=by rw[fB hi,fB hj];omega
theorem UO{x:Array ba}{i j k:Nat}{hj:j<y.size}(h:∀z<k,cN false y[j] (kz x (i+z))):∀z,i<=z->z<i+k->kz x z<=kz y j:=λz h1 h2=>by
 have:=h (z-i) ∅;unfold cN at this;rw[if_neg cC,show i+(z-i)=z by omega] at this;rw[fB hj];exact this
theorem MY{x:Array ba}{i j k:Nat}{hj:j<y.size}(h:∀z,k<=z->z<n->¬cN false y[j] (kz x (i+z)))(hk:k<n):kz y j<=kz x (i+k):=by
 have:=h k (aH _) hk;unfold cN at this;rw[if_neg cC] at this;rw[fB hj];omega
theorem XI{x:Array ba}{i j k:Nat}{hj:j<y.size}(h:∀z<k,cN true y[j] (kz x (i+z))):∀z,i<=z->z<i+k->kz x z<=kz y j:=λz h1 h2=>by
 have:=h (z-i) ∅;unfold cN at this;rw[if_pos rfl,show i+(z-i)=z by omega] at this;rw[fB hj];omega
theorem Sb{x:Array ba}{i j k:Nat}{hj:j<y.size}(h:∀z,k<=z->z<n->¬cN true y[j] (kz x (i+z)))(hk:k<n):kz y j<=kz x (i+k):=by
 have:=h k (aH _) hk;unfold cN at this;rw[if_pos rfl] at this;rw[fB hj];omega
theorem acf{x:Array ba}{i j k:Nat}{hj:j<y.size}(h:∀z,k<=z->z<n->¬cN false y[j] (kz x (i+z)))(h0:k<=0)(hn:0<n):kz y j<=kz x i:=by
 have:=MY (k:=0) (λz a b=>h z ∅ b) hn;rwa[vO] at this
theorem agg{x:Array ba}{i j k:Nat}{hj:j<y.size}(h:∀z,k<=z->z<n->¬cN true y[j] (kz x (i+z)))(h0:k<=0)(hn:0<n):kz y j<=kz x i:=by
 have:=Sb (k:=0) (λz a b=>h z ∅ b) hn;rwa[vO] at this
noncomputable abbrev Z7:=ForInStep (Option (Array ba)×Array ba×Nat×Nat×Nat×Nat×Nat)
noncomputable def oM(a b:Array ba)(ia ib:Nat)(out:Array ba):Array ba:=out++a.extract ia a.size++b.extract ib b.size
noncomputable def AG(a b:Array ba)(ia ib:Nat)(out:Array ba):Array ba:=out++b.extract ib b.size++a.extract ia a.size
noncomputable def HN(a b:Array ba)(ia ib:Nat)(out:Array ba)(mn ac bc:Nat):StateT bp Sem Z7:=do
 let x<-eL a ia
 if(ia+1+1==a.size)=true then pure (.done (some (AG a b (ia+1) ib (out.push x)),out.push x,ia+1,ib,mn,ac,bc))
 else if(decide (ac<7) && decide (bc<7))=true then pure (.done (none,out.push x,ia+1,ib,mn,ac,bc))
 else pure (.yield (none,out.push x,ia+1,ib,mn,ac,bc))
noncomputable def MQ(a b:Array ba)(ia ib:Nat)(out:Array ba)(mn ac bc:Nat):StateT bp Sem Z7:=do
  let x<-eL a ia
  let r<-ku true x b ib (b.size-ib) 0
  match r with
  | some k =>
    if k>0 then
      if(ib+k==b.size)=true then pure (.done (some (oM a b ia (ib+k) (out++b.extract ib (ib+k))),out++b.extract ib (ib+k),ia,ib+k,mn,ac,k))
      else HN a b ia (ib+k) (out++b.extract ib (ib+k)) mn ac k
    else HN a b ia ib out mn ac k
  |_=>pure (.done (some (oM a b ia ib out),out,ia,ib,mn,ac,bc))
noncomputable def J9(a b:Array ba)(ia ib:Nat)(out:Array ba)(mn ac bc:Nat):StateT bp Sem Z7:=do
 let x<-eL b ib
 if(ib+1==b.size)=true then pure (.done (some (oM a b ia (ib+1) (out.push x)),out.push x,ia,ib+1,mn,ac,bc))
 else MQ a b ia (ib+1) (out.push x) mn ac bc
noncomputable def DH(a b:Array ba)(ia ib:Nat)(out:Array ba)(mn ac bc:Nat):StateT bp Sem Z7:=do
  lJ mn
  let x<-eL b ib
  let r<-ku false x a ia (a.size-ia) 0
  match r with
  | some k =>
    if k>0 then
      if(ia+k+1==a.size)=true then pure (.done (some (AG a b (ia+k) ib (out++a.extract ia (ia+k))),out++a.extract ia (ia+k),ia+k,ib,mn,k,bc))
      else if(ia+k==a.size)=true then pure (.done (some (oM a b (ia+k) ib (out++a.extract ia (ia+k))),out++a.extract ia (ia+k),ia+k,ib,mn,k,bc))
      else J9 a b (ia+k) ib (out++a.extract ia (ia+k)) mn k bc
    else J9 a b ia ib out mn k bc
  |_=>pure (.done (some (oM a b ia ib out),out,ia,ib,mn,ac,bc))
noncomputable def lG(a b:Array ba)(_:Nat)(c:Option (Array ba)×Array ba×Nat×Nat×Nat×Nat×Nat):StateT bp Sem Z7:=
 if c.2.2.2.2.1>1 then DH a b c.2.2.1 c.2.2.2.1 c.2.1 (c.2.2.2.2.1-1) c.2.2.2.2.2.1 c.2.2.2.2.2.2
 else DH a b c.2.2.1 c.2.2.2.1 c.2.1 c.2.2.2.2.1 c.2.2.2.2.2.1 c.2.2.2.2.2.2
noncomputable abbrev Z6:=ForInStep (Option (Array ba)×Array ba×Nat×Nat×Nat×Nat)
noncomputable def OJ(a b:Array ba)(ia ib:Nat)(out:Array ba)(mn bc:Nat):StateT bp Sem Z6:=do
 let x<-eL b ib
 if(ib+1==b.size)=true then pure (.done (some (oM a b ia (ib+1) (out.push x)),out.push x,ia,ib+1,0,bc+1))
 else if bc+1≥mn then pure (.done (none,out.push x,ia,ib+1,0,bc+1))
 else pure (.yield (none,out.push x,ia,ib+1,0,bc+1))
noncomputable def Kb(a b:Array ba)(ia ib:Nat)(out:Array ba)(mn ac:Nat):StateT bp Sem Z6:=do
 let x<-eL a ia
 if(ia+1+1==a.size)=true then pure (.done (some (AG a b (ia+1) ib (out.push x)),out.push x,ia+1,ib,ac+1,0))
 else if ac+1≥mn then pure (.done (none,out.push x,ia+1,ib,ac+1,0))
 else pure (.yield (none,out.push x,ia+1,ib,ac+1,0))
noncomputable def MK(a b:Array ba)(ia ib:Nat)(out:Array ba)(mn ac bc:Nat):StateT bp Sem Z6:=do
 let x<-eL b ib
 let y<-eL a ia
 let r<-lt' x y
 match r with
 |some v=>if v=true then OJ a b ia ib out mn bc else Kb a b ia ib out mn ac
 |_=>pure (.done (some (oM a b ia ib out),out,ia,ib,ac,bc))
noncomputable def lI(a b:Array ba)(mn:Nat)(_:Nat)(c:Option (Array ba)×Array ba×Nat×Nat×Nat×Nat):StateT bp Sem Z6:=MK a b c.2.2.1 c.2.2.2.1 c.2.1 mn c.2.2.2.2.1 c.2.2.2.2.2
noncomputable abbrev Z5:=ForInStep (Option (Array ba)×Array ba×Nat×Nat×Nat)
noncomputable def lP(a b:Array ba)(mn:Nat)(c:Option (Array ba)×Array ba×Nat×Nat×Nat×Nat):StateT bp Sem Z5:=
  match c.1 with
  |some z=>pure (.done (some z,c.2.1,c.2.2.1,c.2.2.2.1,mn))
  | none => do
    rule "list.sort.gallop"
    let d<-forIn [0:a.size+b.size] ((none,c.2.1,c.2.2.1,c.2.2.2.1,mn+1,c.2.2.2.2.1,c.2.2.2.2.2):Option (Array ba)×Array ba×Nat×Nat×Nat×Nat×Nat) (lG a b)
    match d.1 with
    |some z=>pure (.done (some z,d.2.1,d.2.2.1,d.2.2.2.1,d.2.2.2.2.1))
    | none => do
      lJ (d.2.2.2.2.1+1)
      pure (.yield (none,d.2.1,d.2.2.1,d.2.2.2.1,d.2.2.2.2.1+1))
noncomputable def lO(a b:Array ba)(_:Nat)(c:Option (Array ba)×Array ba×Nat×Nat×Nat):StateT bp Sem Z5:=do
 let d<-forIn [0:a.size+b.size] ((none,c.2.1,c.2.2.1,c.2.2.2.1,0,0):Option (Array ba)×Array ba×Nat×Nat×Nat×Nat) (lI a b c.2.2.2.2)
 lP a b c.2.2.2.2 d
def UX(a b:Array ba):yg a b=(do
 rule "list.sort.merge-lo"
 let x<-eL b 0
 if(1==b.size)=true then return oM a b 0 1 #[x]
 if(0+1==a.size)=true then return AG a b 0 1 #[x]
 let g<-get
 let d<-forIn [0:a.size+b.size] ((none,#[x],0,1,wU g):Option (Array ba)×Array ba×Nat×Nat×Nat) (lO a b)
 match d.1 with
 |some z=>return z
 |none=>eC "internal:list.sort.merge-bound"):=by
 refine(Ur a b).trans (congrArg (bind _) (funext λ_=>congrArg (bind _) (funext λx=>congrArg (ite _ _) (congrArg (ite _ _) (congrArg (bind _) (funext λg=>?_))))));refine congr (congrArg bind (congrArg (forIn _ _) (funext λ_=>funext λc=>?_))) (funext λd=>?_);·exact congr (congrArg bind (congrArg (forIn _ _) (funext λ_=>funext λc=>rfl))) (funext λd=>(match d with|(some _,_)=>rfl|(none,_)=>congrArg (bind _) (funext λ_=>congr (congrArg bind (congrArg (forIn _ _) (funext λ_=>funext λc=>rfl))) (funext λd=>(match d with|(some _,_)=>rfl|(none,_)=>rfl)))))
 .exact match d with|(some _,_)=>rfl|(none,_)=>rfl
structure KL(K:Z7->bp->Prop)(a b:Array ba)(aA:bp)(B:Nat):Prop where
 dn:∀z ia ib out mn ac bc st',dj aA st'->z.toList.Perm (a.toList++b.toList)->cY z->K (.done (some z,out,ia,ib,mn,ac,bc)) st'
 no:∀ia ib out mn ac bc st',LQ a b aA B none out ia ib st'->K (.done (none,out,ia,ib,mn,ac,bc)) st'/\K (.yield (none,out,ia,ib,mn,ac,bc)) st'
section
variable{K:Z7->bp->Prop}{mn ac bc:Nat}
theorem Sz(P:Mp a b)(k:KL K a b aA B)(S:dj aA st)(m:Mg a b ia ib out)(o:Mo a b ia ib out)(h1:ia+1<a.size)(h2:ib<b.size)(h3:B<=ia+ib)(c:kz a ia<=kz b ib):wpS (bo prog w) A E s (HN a b ia ib out mn ac bc) K st:=by
 have l:=Ac h1;have m':=m.kY l;have o':=o.kY P.rb P.ra l λ_=>c;refine iD l (gC (λz=>be (k.dn _ _ _ _ _ _ _ _ S m'.last (o'.xR P z (eZ h2)))) λz=>?_);have q:=k.no _ _ _ mn ac bc _ (LQ.none S m' o' (sQ h1 z) h2 ∅);exact Le (be q.1) (be q.2)
theorem abl(hk:kindOf aA=dO)(P:Mp a b)(k:KL K a b aA B)(S:dj aA st)(m:Mg a b ia ib out)(o:Mo a b ia ib out)(h1:ia+1<a.size)(h2:ib<b.size)(h3:B<=ia+ib):wpS (bo prog w) A E s (MQ a b ia ib out mn ac bc) K st:=by
 have l:=Ac h1;have e:ib+(b.size-ib)=b.size:=Tz (eZ h2);refine iD l (B8 hk S (P.kA.at l) P.kB (jf e) (Ra.sub P.rb (eT _) (jf e)) (zZ h2) λv t n g=>?_);refine gn (λc=>?_) (λc=>?_)
 .have m':=m.oO (k:=v);have o':=o.oO P.rb P.ra (k:=v) ∅ λy f d _=>XI n y f d;refine gC (λz=>be (k.dn _ _ _ _ _ _ _ _ S m'.done (o'.rm P z))) λz=>?_;exact Sz P k S m' o' h1 ∅ ∅ (Sb g ∅)
 .exact Sz P k S m o h1 h2 h3 (agg g ∅ (zZ h2))
theorem Nv(hk:kindOf aA=dO)(P:Mp a b)(k:KL K a b aA B)(S:dj aA st)(m:Mg a b ia ib out)(o:Mo a b ia ib out)(h1:ia+1<a.size)(h2:ib<b.size)(h3:B<=ia+ib)(c:kz b ib<=kz a ia):wpS (bo prog w) A E s (J9 a b ia ib out mn ac bc) K st:=by
 have m':=m.kN h2;have o':=o.kN P.rb P.ra h2 λ_=>c;exact iD h2 (gC (λz=>be (k.dn _ _ _ _ _ _ _ _ S m'.done (o'.rm P z))) λz=>abl hk P k S m' o' h1 (sQ h2 z) ∅)
theorem PJ(hk:kindOf aA=dO)(P:Mp a b)(k:KL K a b aA B)(S:dj aA st)(m:Mg a b ia ib out)(o:Mo a b ia ib out)(h1:ia+1<a.size)(h2:ib<b.size)(h3:B<=ia+ib):wpS (bo prog w) A E s (DH a b ia ib out mn ac bc) K st:=by
 refine zU S λst' S'=>?_;have l:=Ac h1;have e:ia+(a.size-ia)=a.size:=Tz (eZ l);refine iD h2 (B8 hk S' (P.kB.at h2) P.kA (jf e) (Ra.sub P.ra (eT _) (jf e)) (zZ l) λv t n g=>?_);refine gn (λc=>?_) (λc=>?_)
 .have m':=m.pP (k:=v);have o':=o.pP P.rb P.ra (k:=v) ∅ λy f d _=>UO n y f d;refine gC (λz=>be (k.dn _ _ _ _ _ _ _ _ S' m'.last (o'.xR P z (eZ h2)))) λz=>gC (λz=>be (k.dn _ _ _ _ _ _ _ _ S' m'.done (o'.qV P z))) λz2=>?_;exact Nv hk P k S' m' o' ∅ h2 ∅ (MY g ∅)
 .exact Nv hk P k S' m o h1 h2 h3 (acf g ∅ (zZ l))
def WK{x:Nat}(hk:kindOf aA=dO)(P:Mp a b)(k:KL K a b aA B)(L:LQ a b aA B none out ia ib st):wpS (bo prog w) A E s (lG a b x (r,out,ia,ib,mn,ac,bc)) K st:=
 gn (λ_=>PJ hk P k L.1 L.2.1 L.2.2.1 L.2.2.2.1 L.2.2.2.2.1 L.2.2.2.2.2) (λ_=>PJ hk P k L.1 L.2.1 L.2.2.1 L.2.2.2.1 L.2.2.2.2.1 L.2.2.2.2.2)
end
structure JL(K:Z6->bp->Prop)(a b:Array ba)(aA:bp)(B:Nat):Prop where
 dn:∀z ia ib out ac bc st',dj aA st'->z.toList.Perm (a.toList++b.toList)->cY z->K (.done (some z,out,ia,ib,ac,bc)) st'
 no:∀ia ib out ac bc st',LQ a b aA B none out ia ib st'->K (.done (none,out,ia,ib,ac,bc)) st'/\K (.yield (none,out,ia,ib,ac,bc)) st'
theorem YN{K:Z6->bp->Prop}{ac bc:Nat}(hk:kindOf aA=dO)(P:Mp a b)(k:JL K a b aA (B+1))(L:LQ a b aA B none out ia ib st):wpS (bo prog w) A E s (MK a b ia ib out mn ac bc) K st:=by
 obtain⟨S,m,o,h1,h2,h3⟩:=L;have l:=Ac h1;refine iD h2 (iD l (QG hk S (P.kB.at _) (P.kA.at _) (λc=>?_) (λc=>?_)))
 .have m':=m.kN h2;have o':=o.kN P.rb P.ra h2 λ_=>VO c;refine qF (iD h2 (gC (λz=>be (k.dn _ _ _ _ _ _ _ S m'.done (o'.rm P z))) λz=>?_));have q:=λac bc=>k.no _ _ _ ac bc _ (LQ.none S m' o' h1 (sQ h2 z) (EG h3));exact gn (λ_=>be (q _ _).1) (λ_=>be (q _ _).2)
 .have m':=m.kY l;have o':=o.kY P.rb P.ra l λ_=>Qj c;refine p7 (iD l (gC (λz=>be (k.dn _ _ _ _ _ _ _ S m'.last (o'.xR P z (eZ h2)))) λz=>?_));have q:=λac bc=>k.no _ _ _ ac bc _ (LQ.none S m' o' (sQ h1 z) h2 ∅);exact gn (λ_=>be (q _ _).1) (λ_=>be (q _ _).2)
def LQ.less{C:Nat}(h:LQ a b aA B jT out ia ib st')(c:C<=B):LQ a b aA C jT out ia ib st':=⟨h.1,h.2.1,h.2.2.1,h.2.2.2.1,h.2.2.2.2.1,eu c h.2.2.2.2.2⟩
structure OL(K:Z5->bp->Prop)(a b:Array ba)(aA:bp)(B:Nat):Prop where
 dn:∀z ia ib out mn st',dj aA st'->z.toList.Perm (a.toList++b.toList)->cY z->K (.done (some z,out,ia,ib,mn)) st'
 no:∀ia ib out mn st',LQ a b aA B none out ia ib st'->K (.yield (none,out,ia,ib,mn)) st'
def abH{K:Z5->bp->Prop}{c:Option (Array ba)×Array ba×Nat×Nat×Nat×Nat}(hk:kindOf aA=dO)(P:Mp a b)(k:OL K a b aA B)(L:LQ a b aA B c.1 c.2.1 c.2.2.1 c.2.2.2.1 st):wpS (bo prog w) A E s (lP a b mn c) K st:=by
  obtain⟨r,out,ia,ib,ac,bc⟩:=c;cases r with
  |some z=>exact be (k.dn _ _ _ _ _ _ L.1 L.2.1 L.2.2)
  | none =>
    refine bg (mv (gb ⟨rfl,?_⟩));refine bg (fv (dg (I:=λy c st'=>c.1=none/\LQ a b aA B none c.2.1 c.2.2.1 c.2.2.2.1 st') (Q:=λc st'=>LQ a b aA B c.1 c.2.1 c.2.2.1 c.2.2.2.1 st') ?HE ?HV ⟨rfl,L⟩) ?CV)
    case HV=>
      rintro c st' ⟨e,L⟩;exact e▸L
    case HE=>
      rintro y ⟨r,out,ia,ib,mn,ac,bc⟩ st' _ _ ⟨_,L⟩;exact WK hk P ⟨λ_ _ _ _ _ _ _ _ S p o=>⟨S,p,o⟩,λ_ _ _ _ _ _ _ L=>⟨L,rfl,L⟩⟩ L
    case CV=>
      rintro⟨r,out,ia,ib,mn,ac,bc⟩ st' L;cases r with
      |some z=>exact be (k.dn _ _ _ _ _ _ L.1 L.2.1 L.2.2)
      |none=>exact zU L.1 λst' S'=>be (k.no _ _ _ _ _ ⟨S',L.2⟩)
theorem Y0{K:Z5->bp->Prop}{x:Nat}(hk:kindOf aA=dO)(P:Mp a b)(k:OL K a b aA (B+1))(L:LQ a b aA B none out ia ib st):wpS (bo prog w) A E s (lO a b x (r,out,ia,ib,mn)) K st:=by
 refine bg (fv (dg (I:=λy c st'=>c.1=none/\LQ a b aA (B+y) none c.2.1 c.2.2.1 c.2.2.2.1 st') (Q:=λc st'=>LQ a b aA (B+1) c.1 c.2.1 c.2.2.1 c.2.2.2.1 st') ?DM ?Jv ⟨rfl,L⟩) λc st' L=>abH hk P k L)
 case Jv=>
  rintro c st' ⟨e,L⟩;exact e▸L.less (by have h1:=L.2.2.2.1;omega)
 case DM=>
  rintro y ⟨r,out,ia,ib,ac,bc⟩ st' _ _ ⟨_,L⟩;exact YN hk P ⟨λ_ _ _ _ _ _ _ S p o=>⟨S,p,o⟩,λ_ _ _ _ _ _ L=>⟨L.less (EG (qx B y)),rfl,L⟩⟩ L
theorem LA{Q:Array ba->bp->Prop}(hk:kindOf st=dO)(P:Mp a b)(a0:0<a.size)(b0:0<b.size)(h:∀r st',dj st st'->r.toList.Perm (a.toList++b.toList)->cY r->Q r st'):wpS (bo prog w) A E s (yg a b) Q st:=by
 rw[UX];refine bg (mv (gb ⟨rfl,?_⟩));refine iD b0 ?_;have Z:Mg a b 0 1 #[b[0]]:=by unfold Mg;rw[C1 (l:=b.toList) (by simpa using b0)];simp
 have f:Mo a b 0 1 #[b[0]]:=by
  have:=Mo.kN (a:=a) (b:=b) (i:=0) (j:=0) (out:= #[]) ⟨λ_ _ _ _ h=>by simp at h,λ_ _ h=>by simp at h,λ_ _ h=>by simp at h⟩ P.rb P.ra b0 (λ_=>P.hd);simpa using this
 refine gC (λc1=>be (h _ _ (.refl _) Z.done (f.rm P c1))) (λc1=>gC (λc2=>be (h _ _ (.refl _) Z.last (f.xR P c2 b0))) (λc2=>bg (j3 ?_)));refine bg (fv (dg (I:=λx c st'=>c.1=none/\LQ a b st (x+1) none c.2.1 c.2.2.1 c.2.2.2.1 st') (Q:=λc st'=>dj st st'/\∃z,c.1=some z/\z.toList.Perm (a.toList++b.toList)/\cY z) ?step ?fin ⟨rfl, .none (.refl _) Z f (sQ a0 c2) (sQ b0 c1) (aH _)⟩) ?post)
 case fin=>
  rintro c st' ⟨_,_,_,_,i1,i2,i3⟩;omega
 case post=>
  rintro⟨_,_⟩ st' ⟨S,z,rfl,hz,oz⟩;exact be (h z st' S hz oz)
 case step=>
  rintro x ⟨r,out,ia,ib,mn⟩ st' _ _ ⟨_,L⟩;exact Y0 hk P ⟨λz _ _ _ _ _ S p o=>⟨S,z,rfl,p,o⟩,λ_ _ _ _ _ L=>⟨rfl,L⟩⟩ L
end
section
variable{prog:cj}{w:dc}{A:c5}{E:ar->au->Prop}{s:au}{st:bp}{a b out:Array ba}{i j k n:Nat}
def tO{x:Nat}(h:x<a.size):kz a.reverse x=kz a (a.size-1-x):=by
 unfold kz;rw[Array.getElem?_reverse h]
structure Mu(a b:Array ba)(i j:Nat)(out:Array ba):Prop where
 dn:∀x y,x<=y->y<out.size->kz out y<=kz out x
 oa:∀x y,x<out.size->y<i->kz a y<=kz out x
 ob:∀x y,x<out.size->y<j->kz b y<=kz out x
theorem Mu.kN(h:Mu a b i (j+1) out)(hb:cY b)(hj:j<b.size)(hc:∀y,y<i->kz a y<=kz b j):Mu a b i j (out.push b[j]):=by
 have e:kd b[j]=kz b j:=(fB hj).symm;refine⟨λx y d hy=>?_,λx y hx hy=>?_,λx y hx hy=>?_⟩<;>rw[uC] at*
 .rw[jd ∅,jd ∅,e];by_cases c1:y=out.size
  .rw[if_pos c1];by_cases c2:x=out.size;·rw[if_pos c2];omega
   .rw[if_neg c2];exact h.ob x j ∅ ∅
  .rw[if_neg c1,if_neg ∅];exact h.dn x y d ∅
 .rw[jd ∅,e];by_cases c2:x=out.size;·rw[if_pos c2];exact hc y hy
  .rw[if_neg c2];exact h.oa x y ∅ hy
 .rw[jd ∅,e];by_cases c2:x=out.size;·rw[if_pos c2];exact hb y j ∅ ∅ hj
  .rw[if_neg c2];exact h.ob x y ∅ ∅
theorem Mu.kY(h:Mu a b (i+1) j out)(ha:cY a)(hi:i<a.size)(hc:∀y,y<j->kz b y<=kz a i):Mu a b i j (out.push a[i]):=by
 have e:kd a[i]=kz a i:=(fB hi).symm;refine⟨λx y d hy=>?_,λx y hx hy=>?_,λx y hx hy=>?_⟩<;>rw[uC] at*
 .rw[jd ∅,jd ∅,e];by_cases c1:y=out.size
  .rw[if_pos c1];by_cases c2:x=out.size;·rw[if_pos c2];omega
   .rw[if_neg c2];exact h.oa x i ∅ ∅
  .rw[if_neg c1,if_neg ∅];exact h.dn x y d ∅
 .rw[jd ∅,e];by_cases c2:x=out.size;·rw[if_pos c2];exact ha y i ∅ ∅ hi
  .rw[if_neg c2];exact h.oa x y ∅ ∅
 .rw[jd ∅,e];by_cases c2:x=out.size;·rw[if_pos c2];exact hc y hy
  .rw[if_neg c2];exact h.ob x y ∅ hy
theorem Mu.NK(h:Mu a b i j out)(hb:cY b)(h1:1<=j)(hj:j-1<b.size)(hc:∀y,y<i->kz a y<=kz b (j-1)):Mu a b i (j-1) (out.push b[j-1]):=
 Mu.kN (by rw[show j-1+1=j by omega];exact h) hb hj hc
theorem Mu.OS(h:Mu a b i j out)(ha:cY a)(h1:1<=i)(hi:i-1<a.size)(hc:∀y,y<j->kz b y<=kz a (i-1)):Mu a b (i-1) j (out.push a[i-1]):=
 Mu.kY (by rw[show i-1+1=i by omega];exact h) ha hi hc
theorem oK{x:Nat}(hi:i<=a.size)(hx:x<i-k):kz (a.extract k i).reverse x=kz a (i-1-x):=by
 have hs:(a.extract k i).size=i-k:=by rw[gK];omega
 rw[tO ∅,eX hi ∅,hs]
 congr 1;omega
theorem Mu.pP(h:Mu a b i j out)(ha:cY a)(hk:k<=i)(hi:i<=a.size)(hc:∀y,k<=y->y<i->∀x,x<j->kz b x<=kz a y):Mu a b k j (out++(a.extract k i).reverse):=by
 have hs:(a.extract k i).reverse.size=i-k:=by rw[yI,gK];omega
 refine⟨λx y d hy=>?_,λx y hx hy=>?_,λx y hx hy=>?_⟩<;>rw[nV,hs] at*
 .rw[fX,fX];by_cases c1:y<out.size;·rw[if_pos c1,if_pos ∅];exact h.dn x y d c1
  .rw[if_neg c1,oK hi ∅];by_cases c2:x<out.size;·rw[if_pos c2];exact h.oa x _ c2 ∅
   .rw[if_neg c2,oK hi ∅];exact ha _ _ ∅ ∅ ∅
 .rw[fX];by_cases c2:x<out.size;·rw[if_pos c2];exact h.oa x y c2 ∅
  .rw[if_neg c2,oK hi ∅];exact ha _ _ ∅ ∅ ∅
 .rw[fX];by_cases c2:x<out.size;·rw[if_pos c2];exact h.ob x y c2 hy
  .rw[if_neg c2,oK hi ∅];exact hc _ ∅ ∅ y hy
theorem Mu.oO(h:Mu a b i j out)(hb:cY b)(hk:k<=j)(hj:j<=b.size)(hc:∀y,k<=y->y<j->∀x,x<i->kz a x<=kz b y):Mu a b i k (out++(b.extract k j).reverse):=by
 have hs:(b.extract k j).reverse.size=j-k:=by rw[yI,gK];omega
 refine⟨λx y d hy=>?_,λx y hx hy=>?_,λx y hx hy=>?_⟩<;>rw[nV,hs] at*
 .rw[fX,fX];by_cases c1:y<out.size;·rw[if_pos c1,if_pos ∅];exact h.dn x y d c1
  .rw[if_neg c1,oK hj ∅];by_cases c2:x<out.size;·rw[if_pos c2];exact h.ob x _ c2 ∅
   .rw[if_neg c2,oK hj ∅];exact hb _ _ ∅ ∅ ∅
 .rw[fX];by_cases c2:x<out.size;·rw[if_pos c2];exact h.oa x y c2 hy
  .rw[if_neg c2,oK hj ∅];exact hc _ ∅ ∅ y hy
 .rw[fX];by_cases c2:x<out.size;·rw[if_pos c2];exact h.ob x y c2 ∅
  .rw[if_neg c2,oK hj ∅];exact hb _ _ ∅ ∅ ∅
theorem Mu.zN(h:Mu a b i j out)(ha:cY a)(hi:i<=a.size):cY (a.extract 0 i++out.reverse):=λx y h0 d hy=>by
 have hs:(a.extract 0 i).size=i:=by rw[gK];omega
 rw[nV,yI,hs] at hy;rw[fX,fX,hs];by_cases c1:y<i;·rw[if_pos c1,if_pos ∅,eX hi ∅,eX hi ∅];exact ha _ _ ∅ ∅ ∅
 .rw[if_neg c1,tO (x:=y-i) ∅];by_cases c2:x<i;·rw[if_pos c2,eX hi ∅];exact h.oa (out.size-1-(y-i)) (0+x) ∅ ∅
  .rw[if_neg c2,tO ∅];exact h.dn _ _ ∅ ∅
theorem Mu.zA(h:Mu a b i j out)(hb:cY b)(hj:j<=b.size):cY (b.extract 0 j++out.reverse):=λx y h0 d hy=>by
 have hs:(b.extract 0 j).size=j:=by rw[gK];omega
 rw[nV,yI,hs] at hy;rw[fX,fX,hs];by_cases c1:y<j;·rw[if_pos c1,if_pos ∅,eX hj ∅,eX hj ∅];exact hb _ _ ∅ ∅ ∅
 .rw[if_neg c1,tO (x:=y-j) ∅];by_cases c2:x<j;·rw[if_pos c2,eX hj ∅];exact h.ob (out.size-1-(y-j)) (0+x) ∅ ∅
  .rw[if_neg c2,tO ∅];exact h.dn _ _ ∅ ∅
def Mu.qV(P:Mp a b)(h:Mu a b i j out)(hi:i=0)(hj:j<=b.size):cY (a.extract 0 i++b.extract 0 j++out.reverse):=by
 have e:a.extract 0 i= #[]:=by rw[hi];simp
 rw[e,Array.empty_append];exact h.zA P.rb hj
def Mu.rm(P:Mp a b)(h:Mu a b i j out)(hj:j=0)(hi:i<=a.size):cY (a.extract 0 i++b.extract 0 j++out.reverse):=by
 have e:b.extract 0 j= #[]:=by rw[hj];simp
 rw[e,C8];exact h.zN P.ra hi
theorem Mu.AS(P:Mp a b)(h:Mu a b i j out)(hj:j=1)(b0:1<=b.size)(hi:i<=a.size):cY (b.extract 0 j++a.extract 0 i++out.reverse):=by
 have h2:=h.pP (k:=0) P.ra (eT _) hi (λy _ h2 x hx=>by
  have e:x=0:=∅
  subst e;have h3:=P.hd;have h4:=P.ra 0 y ∅ ∅ ∅;omega)
 have h3:=h2.zA P.rb ∅;rwa[Array.reverse_append,Array.reverse_reverse,<-nf] at h3
def LR(a b:Array ba)(aA:bp)(B:Nat)(r:Option (Array ba))(out:Array ba)(ia ib:Nat)(st':bp):Prop:=
 dj aA st'/\(match r with|some z=>z.toList.Perm (a.toList++b.toList)/\cY z|none=>Mh a b ia ib out/\Mu a b ia ib out/\1<=ia/\ia<=a.size/\2<=ib/\ib<=b.size/\B+ia+ib<=a.size+b.size)
variable{aA st':bp}{B ia ib:Nat}{z:Array ba}
theorem LR.some(S:dj aA st')(h:z.toList.Perm (a.toList++b.toList))(o:cY z):LR a b aA B (some z) out ia ib st':=⟨S,h,o⟩
theorem LR.none(S:dj aA st')(m:Mh a b ia ib out)(o:Mu a b ia ib out)(h1:1<=ia/\ia<=a.size/\2<=ib/\ib<=b.size/\B+ia+ib<=a.size+b.size):LR a b aA B none out ia ib st':=⟨S,m,o,h1⟩
theorem hi_lt{x:Array ba}{i j:Nat}{hi:i<x.size}{hj:j<y.size}(h:kd x[i]<kd y[j])(r:cY x):∀z,z<i+1->kz x z<=kz y j:=λz hz=>by
 have:=r z i ∅ ∅ hi;rw[fB hi] at this;rw[fB hj];omega
theorem Y9{x:Array ba}{i j:Nat}{hi:i<x.size}{hj:j<y.size}(h:kd x[i]<=kd y[j])(r:cY x):∀z,z<i+1->kz x z<=kz y j:=λz hz=>by
 have:=r z i ∅ ∅ hi;rw[fB hi] at this;rw[fB hj];omega
theorem AW{l:Bool}{x:Array ba}{j k:Nat}{hj:j<y.size}(h:∀z<k,cN l y[j] (kz x (0+z)))(hm:m<=k):∀z,z<m->kz x z<=kz y j:=λz hz=>by
 have:=h z ∅;unfold cN at this;rw[IT] at this;rw[fB hj];cases l with
 |true=>rw[if_pos rfl] at this;omega
 |false=>rw[if_neg cC] at this;exact this
theorem TL{l:Bool}{x:Array ba}{j k n:Nat}{hj:j<y.size}(h:∀z,k<=z->z<n->¬cN l y[j] (kz x (0+z)))(r:cY y){m:Nat}(hm:m<=j+1):∀z,k<=z->z<n->∀u,u<m->kz y u<=kz x z:=λz h1 h2 u hu=>by
 have:=h z h1 h2;unfold cN at this;rw[IT] at this;have h3:=r u j ∅ ∅ hj;rw[fB hj] at h3;cases l with
 |true=>rw[if_pos rfl] at this;omega
 |false=>rw[if_neg cC] at this;omega
noncomputable abbrev H7:=ForInStep (Option (Array ba)×Nat×Nat×Array ba×Nat×Nat×Nat)
noncomputable def pM(a b:Array ba)(ia ib:Nat)(out:Array ba):Array ba:=a.extract 0 ia++b.extract 0 ib++out.reverse
noncomputable def zo(a b:Array ba)(ia ib:Nat)(out:Array ba):Array ba:=b.extract 0 ib++a.extract 0 ia++out.reverse
noncomputable def GY(a b:Array ba)(ia ib:Nat)(out:Array ba)(mn ac bc:Nat):StateT bp Sem H7:=do
 let x<-eL a (ia-1)
 if(ia-1==0)=true then pure (.done (some (pM a b (ia-1) ib (out.push x)),ia-1,ib,out.push x,mn,ac,bc))
 else if(decide (ac<7) && decide (bc<7))=true then pure (.done (none,ia-1,ib,out.push x,mn,ac,bc))
 else pure (.yield (none,ia-1,ib,out.push x,mn,ac,bc))
noncomputable def Pb(a b:Array ba)(ia ib:Nat)(out:Array ba)(mn ac bc:Nat):StateT bp Sem H7:=do
  let x<-eL a (ia-1)
  let r<-ku true x b 0 ib (ib-1)
  match r with
  | some k =>
    if ib-k>0 then
      if(k==1)=true then pure (.done (some (zo a b ia k (out++(b.extract k ib).reverse)),ia,k,out++(b.extract k ib).reverse,mn,ac,ib-k))
      else if(k==0)=true then pure (.done (some (pM a b ia k (out++(b.extract k ib).reverse)),ia,k,out++(b.extract k ib).reverse,mn,ac,ib-k))
      else GY a b ia k (out++(b.extract k ib).reverse) mn ac (ib-k)
    else GY a b ia ib out mn ac (ib-k)
  |_=>pure (.done (some (pM a b ia ib out),ia,ib,out,mn,ac,bc))
noncomputable def JZ(a b:Array ba)(ia ib:Nat)(out:Array ba)(mn ac bc:Nat):StateT bp Sem H7:=do
 let x<-eL b (ib-1)
 if(ib-1==1)=true then pure (.done (some (zo a b ia (ib-1) (out.push x)),ia,ib-1,out.push x,mn,ac,bc))
 else Pb a b ia (ib-1) (out.push x) mn ac bc
noncomputable def GL(a b:Array ba)(ia ib:Nat)(out:Array ba)(mn ac bc:Nat):StateT bp Sem H7:=do
  lJ mn
  let x<-eL b (ib-1)
  let r<-ku false x a 0 ia (ia-1)
  match r with
  | some k =>
    if ia-k>0 then
      if(k==0)=true then pure (.done (some (pM a b k ib (out++(a.extract k ia).reverse)),k,ib,out++(a.extract k ia).reverse,mn,ia-k,bc))
      else JZ a b k ib (out++(a.extract k ia).reverse) mn (ia-k) bc
    else JZ a b ia ib out mn (ia-k) bc
  |_=>pure (.done (some (pM a b ia ib out),ia,ib,out,mn,ac,bc))
noncomputable def hG(a b:Array ba)(_:Nat)(c:Option (Array ba)×Nat×Nat×Array ba×Nat×Nat×Nat):StateT bp Sem H7:=
 if c.2.2.2.2.1>1 then GL a b c.2.1 c.2.2.1 c.2.2.2.1 (c.2.2.2.2.1-1) c.2.2.2.2.2.1 c.2.2.2.2.2.2
 else GL a b c.2.1 c.2.2.1 c.2.2.2.1 c.2.2.2.2.1 c.2.2.2.2.2.1 c.2.2.2.2.2.2
noncomputable abbrev H6:=ForInStep (Option (Array ba)×Nat×Nat×Array ba×Nat×Nat)
noncomputable def X7(a b:Array ba)(ia ib:Nat)(out:Array ba)(mn ac:Nat):StateT bp Sem H6:=do
 let x<-eL a (ia-1)
 if(ia-1==0)=true then pure (.done (some (pM a b (ia-1) ib (out.push x)),ia-1,ib,out.push x,ac+1,0))
 else if ac+1≥mn then pure (.done (none,ia-1,ib,out.push x,ac+1,0))
 else pure (.yield (none,ia-1,ib,out.push x,ac+1,0))
noncomputable def MF(a b:Array ba)(ia ib:Nat)(out:Array ba)(mn bc:Nat):StateT bp Sem H6:=do
 let x<-eL b (ib-1)
 if(ib-1==1)=true then pure (.done (some (zo a b ia (ib-1) (out.push x)),ia,ib-1,out.push x,0,bc+1))
 else if bc+1≥mn then pure (.done (none,ia,ib-1,out.push x,0,bc+1))
 else pure (.yield (none,ia,ib-1,out.push x,0,bc+1))
noncomputable def hI0(a b:Array ba)(ia ib:Nat)(out:Array ba)(mn ac bc:Nat):StateT bp Sem H6:=do
 let x<-eL b (ib-1)
 let y<-eL a (ia-1)
 let r<-lt' x y
 match r with
 |some v=>if v=true then X7 a b ia ib out mn ac else MF a b ia ib out mn bc
 |_=>pure (.done (some (pM a b ia ib out),ia,ib,out,ac,bc))
noncomputable def hI(a b:Array ba)(mn:Nat)(_:Nat)(c:Option (Array ba)×Nat×Nat×Array ba×Nat×Nat):StateT bp Sem H6:=hI0 a b c.2.1 c.2.2.1 c.2.2.2.1 mn c.2.2.2.2.1 c.2.2.2.2.2
noncomputable abbrev H5:=ForInStep (Option (Array ba)×Nat×Nat×Array ba×Nat)
noncomputable def hP(a b:Array ba)(mn:Nat)(c:Option (Array ba)×Nat×Nat×Array ba×Nat×Nat):StateT bp Sem H5:=
  match c.1 with
  |some z=>pure (.done (some z,c.2.1,c.2.2.1,c.2.2.2.1,mn))
  | none => do
    rule "list.sort.gallop"
    let d<-forIn [0:a.size+b.size] ((none,c.2.1,c.2.2.1,c.2.2.2.1,mn+1,c.2.2.2.2.1,c.2.2.2.2.2):Option (Array ba)×Nat×Nat×Array ba×Nat×Nat×Nat) (hG a b)
    match d.1 with
    |some z=>pure (.done (some z,d.2.1,d.2.2.1,d.2.2.2.1,d.2.2.2.2.1))
    | none => do
      lJ (d.2.2.2.2.1+1)
      pure (.yield (none,d.2.1,d.2.2.1,d.2.2.2.1,d.2.2.2.2.1+1))
noncomputable def hO(a b:Array ba)(_:Nat)(c:Option (Array ba)×Nat×Nat×Array ba×Nat):StateT bp Sem H5:=do
 let d<-forIn [0:a.size+b.size] ((none,c.2.1,c.2.2.1,c.2.2.2.1,0,0):Option (Array ba)×Nat×Nat×Array ba×Nat×Nat) (hI a b c.2.2.2.2)
 hP a b c.2.2.2.2 d
def ab9(a b:Array ba):BZ a b=(do
 rule "list.sort.merge-hi"
 let x<-eL a (a.size-1)
 if(a.size-1==0)=true then return pM a b (a.size-1) b.size #[x]
 if(b.size==1)=true then return zo a b (a.size-1) b.size #[x]
 let g<-get
 let d<-forIn [0:a.size+b.size] ((none,a.size-1,b.size,#[x],wU g):Option (Array ba)×Nat×Nat×Array ba×Nat) (hO a b)
 match d.1 with
 |some z=>return z
 |none=>eC "internal:list.sort.merge-bound"):=by
 refine(XN a b).trans (congrArg (bind _) (funext λ_=>congrArg (bind _) (funext λx=>congrArg (ite _ _) (congrArg (ite _ _) (congrArg (bind _) (funext λg=>?_))))));refine congr (congrArg bind (congrArg (forIn _ _) (funext λ_=>funext λc=>?_))) (funext λd=>?_);·exact congr (congrArg bind (congrArg (forIn _ _) (funext λ_=>funext λc=>rfl))) (funext λd=>(match d with|(some _,_)=>rfl|(none,_)=>congrArg (bind _) (funext λ_=>congr (congrArg bind (congrArg (forIn _ _) (funext λ_=>funext λc=>rfl))) (funext λd=>(match d with|(some _,_)=>rfl|(none,_)=>rfl)))))
 .exact match d with|(some _,_)=>rfl|(none,_)=>rfl
structure KH(K:H7->bp->Prop)(a b:Array ba)(aA:bp)(B:Nat):Prop where
 dn:∀z ia ib out mn ac bc st',dj aA st'->z.toList.Perm (a.toList++b.toList)->cY z->K (.done (some z,ia,ib,out,mn,ac,bc)) st'
 no:∀ia ib out mn ac bc st',LR a b aA B none out ia ib st'->K (.done (none,ia,ib,out,mn,ac,bc)) st'/\K (.yield (none,ia,ib,out,mn,ac,bc)) st'
section
variable{K:H7->bp->Prop}{mn ac bc:Nat}
theorem M6(P:Mp a b)(k:KH K a b aA B)(S:dj aA st)(m:Mh a b ia ib out)(o:Mu a b ia ib out)(h:1<=ia/\ia<=a.size/\2<=ib/\ib<=b.size/\B+ia+ib<=a.size+b.size)(c:∀y,y<ib->kz b y<=kz a (ia-1)):wpS (bo prog w) A E s (GY a b ia ib out mn ac bc) K st:=by
 obtain⟨h1,h2,h3,h4,h5⟩:=h;have l:ia-1<a.size:=sG h1 h2;have m':=m.kY l h1;have o':=o.OS P.ra h1 l c;refine iD l (gC (λz=>be (k.dn _ _ _ _ _ _ _ _ S m'.done (o'.qV P z h4))) λz=>?_);have q:=k.no _ _ _ mn ac bc _ (LR.none S m' o' ⟨∅,eZ l,h3,h4,∅⟩);exact Le (be q.1) (be q.2)
theorem WU(hk:kindOf aA=dO)(P:Mp a b)(k:KH K a b aA B)(S:dj aA st)(m:Mh a b ia ib out)(o:Mu a b ia ib out)(h:1<=ia/\ia<=a.size/\2<=ib/\ib<=b.size/\B+ia+ib<=a.size+b.size):wpS (bo prog w) A E s (Pb a b ia ib out mn ac bc) K st:=by
 obtain⟨h1,h2,h3,h4,h5⟩:=h;have l:ia-1<a.size:=sG h1 h2;refine iD l (B8 hk S (P.kA.at l) P.kB ∅ (Ra.sub P.rb (eT _) ∅) ∅ λv t n g=>?_);refine gn (λc=>?_) (λc=>?_)
 .have m':=m.oO t;have o':=o.oO P.rb t h4 (TL g P.ra ∅);refine gC (λz=>be (k.dn _ _ _ _ _ _ _ _ S m'.first (o'.AS P z ∅ h2))) λz=>gC (λz=>be (k.dn _ _ _ _ _ _ _ _ S m'.done (o'.rm P z h2))) λz2=>?_;exact M6 P k S m' o' ⟨h1,h2,∅,∅,∅⟩ (AW n (aH _))
 .exact M6 P k S m o ⟨h1,h2,h3,h4,h5⟩ (AW n ∅)
theorem Sj(hk:kindOf aA=dO)(P:Mp a b)(k:KH K a b aA B)(S:dj aA st)(m:Mh a b ia ib out)(o:Mu a b ia ib out)(h:1<=ia/\ia<=a.size/\2<=ib/\ib<=b.size/\B+ia+ib<=a.size+b.size)(c:∀y,y<ia->kz a y<=kz b (ib-1)):wpS (bo prog w) A E s (JZ a b ia ib out mn ac bc) K st:=by
 obtain⟨h1,h2,h3,h4,h5⟩:=h;have l:ib-1<b.size:=sG (eZ h3) h4;have m':=m.kN l (eZ h3);have o':=o.NK P.rb (eZ h3) l c;exact iD l (gC (λz=>be (k.dn _ _ _ _ _ _ _ _ S m'.first (o'.AS P z ∅ h2))) λz=>WU hk P k S m' o' ⟨h1,h2,∅,eZ l,∅⟩)
theorem S2(hk:kindOf aA=dO)(P:Mp a b)(k:KH K a b aA B)(S:dj aA st)(m:Mh a b ia ib out)(o:Mu a b ia ib out)(h:1<=ia/\ia<=a.size/\2<=ib/\ib<=b.size/\B+ia+ib<=a.size+b.size):wpS (bo prog w) A E s (GL a b ia ib out mn ac bc) K st:=by
 refine zU S λst' S'=>?_;obtain⟨h1,h2,h3,h4,h5⟩:=h;have l:ib-1<b.size:=sG (eZ h3) h4;refine iD l (B8 hk S' (P.kB.at l) P.kA ∅ (Ra.sub P.ra (eT _) ∅) ∅ λv t n g=>?_);refine gn (λc=>?_) (λc=>?_)
 .have m':=m.pP t;have o':=o.pP P.ra t h2 (TL g P.rb ∅);refine gC (λz=>be (k.dn _ _ _ _ _ _ _ _ S' m'.done (o'.qV P z h4))) λz=>?_;exact Sj hk P k S' m' o' ⟨∅,∅,h3,h4,∅⟩ (AW n (aH _))
 .exact Sj hk P k S' m o ⟨h1,h2,h3,h4,h5⟩ (AW n ∅)
def Wy{x:Nat}(hk:kindOf aA=dO)(P:Mp a b)(k:KH K a b aA B)(L:LR a b aA B none out ia ib st):wpS (bo prog w) A E s (hG a b x (r,ia,ib,out,mn,ac,bc)) K st:=
 gn (λ_=>S2 hk P k L.1 L.2.1 L.2.2.1 L.2.2.2) (λ_=>S2 hk P k L.1 L.2.1 L.2.2.1 L.2.2.2)
end
structure JH(K:H6->bp->Prop)(a b:Array ba)(aA:bp)(B:Nat):Prop where
 dn:∀z ia ib out ac bc st',dj aA st'->z.toList.Perm (a.toList++b.toList)->cY z->K (.done (some z,ia,ib,out,ac,bc)) st'
 no:∀ia ib out ac bc st',LR a b aA B none out ia ib st'->K (.done (none,ia,ib,out,ac,bc)) st'/\K (.yield (none,ia,ib,out,ac,bc)) st'
theorem Yv{K:H6->bp->Prop}{ac bc:Nat}(hk:kindOf aA=dO)(P:Mp a b)(k:JH K a b aA (B+1))(L:LR a b aA B none out ia ib st):wpS (bo prog w) A E s (hI0 a b ia ib out mn ac bc) K st:=by
 obtain⟨S,m,o,h1,h2,h3,h4,h5⟩:=L;have l:ia-1<a.size:=sG h1 h2;have G:ib-1<b.size:=sG (eZ h3) h4;refine iD G (iD l (QG hk S (P.kB.at _) (P.kA.at _) (λc=>?_) (λc=>?_)))
 .have m':=m.kY l h1;have o':=o.OS P.ra h1 l λy hy=>hi_lt c P.rb y ∅;refine qF (iD l (gC (λz=>be (k.dn _ _ _ _ _ _ _ S m'.done (o'.qV P z h4))) λz=>?_));have q:=λac bc=>k.no _ _ _ ac bc _ (LR.none S m' o' ⟨∅,eZ l,h3,h4,∅⟩);exact gn (λ_=>be (q _ _).1) (λ_=>be (q _ _).2)
 .have m':=m.kN G (eZ h3);have o':=o.NK P.rb (eZ h3) G λy hy=>Y9 c P.ra y ∅;refine p7 (iD G (gC (λz=>be (k.dn _ _ _ _ _ _ _ S m'.first (o'.AS P z ∅ h2))) λz=>?_));have q:=λac bc=>k.no _ _ _ ac bc _ (LR.none S m' o' ⟨h1,h2,∅,eZ G,∅⟩);exact gn (λ_=>be (q _ _).1) (λ_=>be (q _ _).2)
theorem LR.less{C:Nat}(h:LR a b aA B jT out ia ib st')(c:C<=B):LR a b aA C jT out ia ib st':=⟨h.1,h.2.1,h.2.2.1,h.2.2.2.1,h.2.2.2.2.1,h.2.2.2.2.2.1,h.2.2.2.2.2.2.1,by have:=h.2.2.2.2.2.2.2;omega⟩
structure OH(K:H5->bp->Prop)(a b:Array ba)(aA:bp)(B:Nat):Prop where
 dn:∀z ia ib out mn st',dj aA st'->z.toList.Perm (a.toList++b.toList)->cY z->K (.done (some z,ia,ib,out,mn)) st'
 no:∀ia ib out mn st',LR a b aA B none out ia ib st'->K (.yield (none,ia,ib,out,mn)) st'
def Yi{K:H5->bp->Prop}{c:Option (Array ba)×Nat×Nat×Array ba×Nat×Nat}(hk:kindOf aA=dO)(P:Mp a b)(k:OH K a b aA B)(L:LR a b aA B c.1 c.2.2.2.1 c.2.1 c.2.2.1 st):wpS (bo prog w) A E s (hP a b mn c) K st:=by
  obtain⟨r,ia,ib,out,ac,bc⟩:=c;cases r with
  |some z=>exact be (k.dn _ _ _ _ _ _ L.1 L.2.1 L.2.2)
  | none =>
    refine bg (mv (gb ⟨rfl,?_⟩));refine bg (fv (dg (I:=λy c st'=>c.1=none/\LR a b aA B none c.2.2.2.1 c.2.1 c.2.2.1 st') (Q:=λc st'=>LR a b aA B c.1 c.2.2.2.1 c.2.1 c.2.2.1 st') ?HE ?HV ⟨rfl,L⟩) ?CV)
    case HV=>
      rintro c st' ⟨e,L⟩;exact e▸L
    case HE=>
      rintro y ⟨r,ia,ib,out,mn,ac,bc⟩ st' _ _ ⟨_,L⟩;exact Wy hk P ⟨λ_ _ _ _ _ _ _ _ S p o=>⟨S,p,o⟩,λ_ _ _ _ _ _ _ L=>⟨L,rfl,L⟩⟩ L
    case CV=>
      rintro⟨r,ia,ib,out,mn,ac,bc⟩ st' L;cases r with
      |some z=>exact be (k.dn _ _ _ _ _ _ L.1 L.2.1 L.2.2)
      |none=>exact zU L.1 λst' S'=>be (k.no _ _ _ _ _ ⟨S',L.2⟩)
theorem Ki{K:H5->bp->Prop}{x:Nat}(hk:kindOf aA=dO)(P:Mp a b)(k:OH K a b aA (B+1))(L:LR a b aA B none out ia ib st):wpS (bo prog w) A E s (hO a b x (r,ia,ib,out,mn)) K st:=by
 refine bg (fv (dg (I:=λy c st'=>c.1=none/\LR a b aA (B+y) none c.2.2.2.1 c.2.1 c.2.2.1 st') (Q:=λc st'=>LR a b aA (B+1) c.1 c.2.2.2.1 c.2.1 c.2.2.1 st') ?DM ?Jv ⟨rfl,L⟩) λc st' L=>Yi hk P k L)
 case Jv=>
  rintro c st' ⟨e,L⟩;exact e▸L.less (by have h1:=L.2.2.2.1;have h2:=L.2.2.2.2.1;omega)
 case DM=>
  rintro y ⟨r,ia,ib,out,ac,bc⟩ st' _ _ ⟨_,L⟩;exact Yv hk P ⟨λ_ _ _ _ _ _ _ S p o=>⟨S,p,o⟩,λ_ _ _ _ _ _ L=>⟨L.less (EG (qx B y)),rfl,L⟩⟩ L
theorem Sr{Q:Array ba->bp->Prop}(hk:kindOf st=dO)(P:Mp a b)(a0:0<a.size)(b0:0<b.size)(h:∀r st',dj st st'->r.toList.Perm (a.toList++b.toList)->cY r->Q r st'):wpS (bo prog w) A E s (BZ a b) Q st:=by
 rw[ab9];refine bg (mv (gb ⟨rfl,?_⟩));refine iD (i:=a.size-1) ∅ ?_;have Z:Mh a b (a.size-1) b.size #[a[a.size-1]]:=by
  unfold Mh;rw[Ex (l:=a.toList) (i:=a.size-1) (by simp;omega),Dj (l:=a.toList) (by simp;omega),Dj (l:=b.toList) (by simp)];simp
 have f:Mu a b (a.size-1) b.size #[a[a.size-1]]:=by
  have:=Mu.kY (a:=a) (b:=b) (i:=a.size-1) (j:=b.size) (out:= #[]) ⟨λ_ _ _ h=>by simp at h,λ_ _ h=>by simp at h,λ_ _ h=>by simp at h⟩ P.ra ∅ (λy hy=>P.tl y hy);simpa using this
 refine gC (λc1=>be (h _ _ (.refl _) Z.done (f.qV P c1 (aH _)))) (λc1=>gC (λc2=>be (h _ _ (.refl _) Z.first (f.AS P c2 b0 (Nat.sub_le _ _)))) (λc2=>bg (j3 ?_)));refine bg (fv (dg (I:=λx c st'=>c.1=none/\LR a b st (x+1) none c.2.2.2.1 c.2.1 c.2.2.1 st') (Q:=λc st'=>dj st st'/\∃z,c.1=some z/\z.toList.Perm (a.toList++b.toList)/\cY z) ?step ?fin ⟨rfl, .none (.refl _) Z f (by dsimp only;omega)⟩) ?post)
 case fin=>
  rintro c st' ⟨_,_,_,_,i1,i2,i3,i4,i5⟩;omega
 case post=>
  rintro⟨_,_⟩ st' ⟨S,z,rfl,hz,oz⟩;exact be (h z st' S hz oz)
 case step=>
  rintro x ⟨r,ia,ib,out,mn⟩ st' _ _ ⟨_,L⟩;exact Ki hk P ⟨λz _ _ _ _ _ S p o=>⟨S,z,rfl,p,o⟩,λ_ _ _ _ _ L=>⟨rfl,L⟩⟩ L
end
noncomputable def Gk(l:List ba)(i:Nat):Int:=match l[i]? with|some x=>kd x|none=>0
def Hs{a:Array ba}:kz a i=Gk a.toList i:=by unfold kz Gk;rw[jK]<;>rfl
noncomputable def tY(arr:Array ba)(r:Array ba)(sa:Nat):Array ba:=r.toList.zipIdx.foldl (λ(a:Array ba) (pj:ba×Nat)=>a.setIfInBounds (sa+pj.2) pj.1) arr
theorem t9{arr r:Array ba}(h:sa+r.size<=arr.size)(x:Nat):kz (tY arr r sa) x=if x<sa then kz arr x else if x<sa+r.size then kz r (x-sa) else kz arr x:=by
 have e:=D8 sa r.toList 0 arr (by rw[dS];omega);rw[Hs,Hs,Hs];unfold tY Gk;rw[e,dS,vO,fj,Ox,mX,dS,HW ∅];by_cases c1:x<sa;·rw[if_pos c1,if_pos c1,Tn c1]
 .rw[if_neg c1,if_neg c1,Ox,dS];by_cases c2:x<sa+r.size;·rw[if_pos ∅,if_pos c2]
  .rw[if_neg ∅,if_neg c2,List.getElem?_drop,show sa+r.size+(x-sa-r.size)=x by omega]
theorem Ch.lies:∀{l:List (Nat×Nat×Nat)} {x y:Nat},Ch l x y->∀v∈l,x<=v.1/\v.1+v.2.1<=y
  |[],x,y,h,v,hv=>nomatch hv
  | (s, n, p) :: l, x, y, ⟨a, b, c⟩, v, hv => by
    have h1:=c.le;rcases aK.mp hv with rfl|hv
    · exact⟨jf a.symm,by dsimp only;omega⟩
    · have:=Ch.lies c v hv
      omega
theorem Ch.apart{lo:Nat}{na pw sb nb:Nat}(h:Ch l 0 lo)(e1:l[i]?=some (sa,na,pw))(e2:l[i+1]?=some (sb,nb,n)):
  ∀v∈(l.set i (sa,na+nb,pw)).eraseIdx (i+1),v=(sa,na+nb,pw)\/(v∈l/\(v.1+v.2.1<=sa\/sb+nb<=v.1)):=by
 have hi:i<l.length:=(bV.mp e1).1;have b:i+1<l.length:=(bV.mp e2).1;have g1:=(bV.mp e1).2;have g2:=(bV.mp e2).2;have M:l=l.take i++(sa,na,pw)::(sb,nb,n)::l.drop (i+2):=by
  have:=(kK i l).symm;rwa[uc hi,uc b,g1,g2] at this
 have hl:(l.take i).length=i:=by rw[mX];omega
 generalize l.take i=A1 at*;generalize l.drop (i+2)=A2 at*;subst M;obtain⟨y,c1,a1,a2,g,a,c⟩:=Ch.append.mp h;have e:((A1++(sa,na,pw)::(sb,nb,n)::A2).set i (sa,na+nb,pw)).eraseIdx (i+1)=A1++(sa,na+nb,pw)::A2:=by
  rw[RV _ _ ∅,hl,zu,n4,L0 ∅,show i+1-A1.length=1 by omega]
  rfl
 rw[e];intro v hv;rcases fO.mp hv with hv|hv
 .have:=c1.lies v hv;exact .inr ⟨rO _ hv, .inl ∅⟩
 .rcases aK.mp hv with rfl|hv
  .exact .inl rfl
  .have:=c.lies v hv;exact .inr ⟨kc _ (cF _ (cF _ hv)), .inr ∅⟩
theorem ext_mem{arr:Array ba}{x:ba}(h:x∈(arr.extract i j).toList):∃y,i<=y/\y<j/\kz arr y=kd x:=by
 obtain⟨k,hk⟩:=jS h;rw[jK,M3] at hk;by_cases c:k<min j arr.size-i
 .rw[if_pos c] at hk;exact⟨i+k,∅,∅,by unfold kz;rw[hk]⟩
 .rw[if_neg c] at hk;cases hk
theorem Pn{arr r:Array ba}{p q t:Nat}(h1:p<=q)(h2:q<=t)(hr:r.toList.Perm ((arr.extract p q).toList++(arr.extract q t).toList)){x:Nat}(hx:x<r.size):∃y,p<=y/\y<t/\kz r x=kz arr y:=by
 have hm:r[x]∈r.toList:=by simp
 rcases fO.mp (hr.mem_iff.mp hm) with h|h
 .obtain⟨y,f,d,e⟩:=ext_mem h;exact⟨y,f,∅,by rw[fB hx,e]⟩
 .obtain⟨y,f,d,e⟩:=ext_mem h;exact⟨y,∅,d,by rw[fB hx,e]⟩
theorem OF{arr r:Array ba}{sb na nb k k2:Nat}(hs:sb=sa+na)(hk:k<na)(h2:0<k2)(h3:k2<=nb)(hz:sb+nb<=arr.size)(m:Ra arr sa (sa+na))(l:Ra arr sb (sb+nb))
  (g1:∀x<k,kz arr (sa+x)<=kz arr sb) (g2:∀x,k2<=x->x<nb->kz arr (sb-1)<=kz arr (sb+x)) (hr:r.toList.Perm ((arr.extract (sa+k) sb).toList++(arr.extract sb (sb+k2)).toList)) (ru:cY r):
  r.size=sb+k2-(sa+k)/\Ra (tY arr r (sa+k)) sa (sa+(na+nb)):=by
 have hl:r.size=sb+k2-(sa+k):=by
  have:=hr.length_eq;rw[cH,dS,dS,dS,gK,gK] at this;omega
 refine⟨hl,λi j hi hij hj=>?_⟩;rw[t9 ∅,t9 ∅];by_cases N:i<sa+k
 .rw[if_pos N];have gi:=g1 (i-sa) ∅;rw[show sa+(i-sa)=i by omega] at gi;by_cases o:j<sa+k;·rw[if_pos o];exact m i j hi hij ∅
  .rw[if_neg o];by_cases g:j<sa+k+r.size
   .rw[if_pos g];obtain⟨y,f,d,e⟩:=Pn ∅ ∅ hr (x:=j-(sa+k)) ∅;rw[e];by_cases c:y<sb;·exact m i y hi ∅ ∅
    .have:=l sb y ∅ ∅ ∅;omega
   .rw[if_neg g];have:=l sb j ∅ ∅ ∅;omega
 .rw[if_neg N,if_neg (show¬j<sa+k by omega)];by_cases B:i<sa+k+r.size
  .rw[if_pos B];by_cases g:j<sa+k+r.size;·rw[if_pos g];exact ru _ _ ∅ ∅ ∅
   .rw[if_neg g];obtain⟨y,f,d,e⟩:=Pn ∅ ∅ hr (x:=i-(sa+k)) ∅;rw[e];by_cases c:y<sb
    .have a1:=m y (sb-1) ∅ ∅ ∅;have a2:=g2 (j-sb) ∅ ∅;rw[show sb+(j-sb)=j by omega] at a2;omega
    .exact l y j ∅ ∅ ∅
  .rw[if_neg B,if_neg (show¬j<sa+k+r.size by omega)];exact l i j ∅ hij ∅
theorem K4{arr:Array ba}{sb na nb k k2:Nat}(hA:gp arr)(hs:sb=sa+na)(hk:k<na)(h2:0<k2)(h3:k2<=nb)(hz:sb+nb<=arr.size)(m:Ra arr sa (sa+na))(l:Ra arr sb (sb+nb))
  (g1:kz arr sb<=kz arr (sa+k)) (g2:∀x<k2,kz arr (sb+x)<=kz arr (sb-1)):Mp (arr.extract (sa+k) sb) (arr.extract sb (sb+k2)):=by
 have s1:(arr.extract (sa+k) sb).size=sb-(sa+k):=by rw[gK];omega
 have s2:(arr.extract sb (sb+k2)).size=k2:=by rw[gK];omega
 refine⟨λi j h0 hij hj=>?_,λi j h0 hij hj=>?_,hA.ext _ _,hA.ext _ _,?_,λy hy=>?_⟩;·rw[eX ∅ ∅,eX ∅ ∅];exact m _ _ ∅ ∅ ∅
 .rw[eX ∅ ∅,eX ∅ ∅];exact l _ _ ∅ ∅ ∅
 .rw[eX ∅ ∅,eX ∅ ∅];exact g1
 .rw[eX ∅ ∅,eX ∅ ∅,s1,show sa+k+(sb-(sa+k)-1)=sb-1 by omega];exact g2 y ∅
def RU(st:bp):Prop:=∀v∈(pendingOf st).toList,Ra (cn st) v.1 (v.1+v.2.1)
def Ph{v:Int}:cN false key v↔v<=kd key:=by unfold cN;rw[if_neg cC]
def SD{v:Int}:cN true key v↔v<kd key:=by unfold cN;rw[if_pos rfl]
def BJ{a:Array ba}{h:i<a.size}(e:i=j):kd a[i]=kz a j:=by subst e;exact(fB h).symm
section
variable{prog:cj}{w:dc}{A:c5}{E:ar->au->Prop}{s:au}{st:bp}{a₀:Array ba}{lo:Nat}
theorem Dw{Q:Bool->bp->Prop}(hA:gp a₀)(hI:SI a₀ lo st)(g:RU st)(hlo:lo<=a₀.size)(hi:i+1<(pendingOf st).size)(h:∀st',SI a₀ lo st'->RU st'->(∀x,lo<=x->kz (cn st') x=kz (cn st) x)->(pendingOf st').size+1=(pendingOf st).size->Q true st'):wpS (bo prog w) A E s (mergeAt' i) Q st:=by
 rw[aaF];refine bg (j3 ?_);obtain⟨⟨sa,na,pw⟩,e1⟩:∃v,(pendingOf st)[i]?=some v:=⟨_,getElem?_pos _ i ∅⟩;obtain⟨⟨sb,nb,n⟩,e2⟩:∃v,(pendingOf st)[i+1]?=some v:=⟨_,getElem?_pos _ (i+1) hi⟩;rw[e1,e2];dsimp only;have hs:=hI.size;have O:(pendingOf st).toList[i]?=some (sa,na,pw):=by rw[jK];exact e1
 have G:(pendingOf st).toList[i+1]?=some (sb,nb,n):=by rw[jK];exact e2
 obtain⟨b1,b2,b3,b4,b5⟩:=hI.ch.two O G;have hap:=hI.ch.apart O G;have m:Ra (cn st) sa (sa+na):=g _ (bP O);have l:Ra (cn st) sb (sb+nb):=g _ (bP G);have pL:=hA.perm hI.perm;refine bg (WY ?_);have hp2:(((pendingOf st).setIfInBounds i (sa,na+nb,pw)).eraseIdxIfInBounds (i+1)).toList=((pendingOf st).toList.set i (sa,na+nb,pw)).eraseIdx (i+1):=by
  rw[Array.toList_eraseIdxIfInBounds,Tr]
 have hsz:(((pendingOf st).setIfInBounds i (sa,na+nb,pw)).eraseIdxIfInBounds (i+1)).size+1=(pendingOf st).size:=by
  rw[<-dS,hp2,D0 (by rw[jx];simpa using hi),jx,dS];omega
 have I2:SI a₀ lo (ky st (((pendingOf st).setIfInBounds i (sa,na+nb,pw)).eraseIdxIfInBounds (i+1))):=⟨hI.perm,hI.kind,hI.failed,by show Ch (((pendingOf st).setIfInBounds i (sa,na+nb,pw)).eraseIdxIfInBounds (i+1)).toList 0 lo;rw[hp2];exact b5⟩;have C:Ra (cn st) sa (sa+(na+nb))->RU (ky st (((pendingOf st).setIfInBounds i (sa,na+nb,pw)).eraseIdxIfInBounds (i+1))):=λhr v hv=>by
  have b:v∈((pendingOf st).toList.set i (sa,na+nb,pw)).eraseIdx (i+1):=by rw[<-hp2];exact hv
  show Ra (cn st) v.1 (v.1+v.2.1);rcases hap v b with rfl|⟨hm,_⟩
  .exact hr
  .exact g v hm
 refine bg (sY ∅ ?_);refine bg (ID I2.kind (pL.at _) pL ∅ m ∅ λk hk g1 vo=>?_);have B:∀x<k,kz (cn st) (sa+x)<=kz (cn st) sb:=λx hx=>by have:=Ph.mp (g1 x hx);rwa[BJ rfl] at this
 have q:∀x,k<=x->x<na->kz (cn st) sb<=kz (cn st) (sa+x):=λx h1 h2=>xn (Int.not_le.mp λz=>vo x h1 h2 (Ph.mpr (by rw[BJ rfl];exact z)));dsimp only;refine gC (λc=>be (h _ I2 (C λx y hx d hy=>?_) (λ_ _=>rfl) hsz)) (λc=>?_)
 .by_cases f:y<sa+na;·exact m x y hx d f
  .by_cases x1:x<sa+na
   .have a1:=B (x-sa) ∅;rw[show sa+(x-sa)=x by omega] at a1;have a2:=l sb y ∅ ∅ ∅;omega
   .exact l x y ∅ d ∅
 refine bg (sY ∅ ?_);refine bg (ID I2.kind (pL.at _) pL ∅ l ∅ λk2 V g2 F=>?_);have H:∀x<k2,kz (cn st) (sb+x)<=kz (cn st) (sb-1):=λx hx=>by have:=SD.mp (g2 x hx);rw[BJ (j:=sb-1) ∅] at this;omega
 have t:∀x,k2<=x->x<nb->kz (cn st) (sb-1)<=kz (cn st) (sb+x):=λx h1 h2=>Int.not_lt.mp λz=>F x h1 h2 (SD.mpr (by rw[BJ (j:=sb-1) ∅];exact z));dsimp only;refine gC (λc=>be (h _ I2 (C λx y hx d hy=>?_) (λ_ _=>rfl) hsz)) (λc2=>?_)
 .by_cases f:y<sa+na;·exact m x y hx d f
  .by_cases x1:x<sa+na
   .have a1:=m x (sb-1) ∅ ∅ ∅;have a2:=t (y-sb) ∅ ∅;rw[show sb+(y-sb)=y by omega] at a2;omega
   .exact l x y ∅ d ∅
 have fin:∀(r:Array ba) (st':bp),dj (ky st (((pendingOf st).setIfInBounds i (sa,na+nb,pw)).eraseIdxIfInBounds (i+1))) st'->r.toList.Perm (((cn st).extract (sa+k) sb).toList++((cn st).extract sb (sb+k2)).toList)->cY r->
   wpS (bo prog w) A E s (do modify λs=>setArr s (r.toList.zipIdx.foldl (λa (p,j)=>a.setIfInBounds (sa+k+j) p) (cn s));return (jh (<-get)).isNone) Q st':=λr st' S hr ru=>by
  obtain⟨J,q2,U,D⟩:=S;refine bg (gd (bg (j3 (be ?_))));have hf:jh st'=none:=D.trans hI.failed;show Q (jh st').isNone _;rw[hf];have e:cn st'=cn st:=q2;refine h _ ⟨?_,J.trans hI.kind,D.trans hI.failed,?_⟩ ?_ ?_ ?_
  .show(r.toList.zipIdx.foldl (λ(a:Array ba) (pj:ba×Nat)=>a.setIfInBounds (sa+k+pj.2) pj.1) (cn st')).toList.Perm a₀.toList;rw[e];exact(PU ∅ ∅ hr).trans hI.perm
  .show Ch (pendingOf st').toList 0 lo;rw[U];exact I2.ch
  .obtain⟨hl,o⟩:=OF b1 ∅ ∅ V ∅ m l B t hr ru;intro v hv;have u:v∈(pendingOf st').toList:=hv;rw[U] at u;have b:v∈((pendingOf st).toList.set i (sa,na+nb,pw)).eraseIdx (i+1):=by rw[<-hp2];exact u
   show Ra (tY (cn st') r (sa+k)) v.1 (v.1+v.2.1);rw[e];rcases hap v b with rfl|⟨hm,hd⟩
   .exact o
   .intro x y hx d hy;rw[t9 ∅,t9 ∅];have:=g v hm x y hx d hy;rcases hd with hd|hd
    .rw[if_pos ∅,if_pos ∅];exact this
    .rw[if_neg ∅,if_neg ∅,if_neg ∅,if_neg ∅];exact this
  .obtain⟨hl,o⟩:=OF b1 ∅ ∅ V ∅ m l B t hr ru;intro x hx;show kz (tY (cn st') r (sa+k)) x=_;rw[e,t9 ∅,if_neg ∅,if_neg ∅]
  .show(pendingOf st').size+1=_;rw[U];exact hsz
 have hmp:=K4 pL b1 (show k<na by omega) (show 0<k2 by omega) V ∅ m l (q k (aH _) ∅) H;refine gn (λL=>bg ?_) (λL=>bg ?_);·exact LA I2.kind hmp (by rw[gK];omega) (by rw[gK];omega) fin
 .exact Sr I2.kind hmp (by rw[gK];omega) (by rw[gK];omega) fin
end
theorem Sg{a:Array ba}(hj:j<=a.size)(x:Nat):kz (mirror a i j ((j-i)/2)) x=if i<=x/\x<j then kz a (i+j-1-x) else kz a x:=by
 unfold kz;rw[getElem?_mirror hj _ ∅];by_cases c:i<=x/\x<j
 .rw[if_pos c];by_cases c2:(i<=x/\x<i+(j-i)/2)\/(j-(j-i)/2<=x/\x<j);·rw[if_pos c2]
  .rw[if_neg c2,show i+j-1-x=x by omega]
 .rw[if_neg c,if_neg ∅]
def VV{a:Array ba}{b d:Nat}(hs:b<a.size)(hd:d<=b)(x:Nat):kz (D2 a b d) x=if x=b-d then kz a b else if b-d<x/\x<=b then kz a (x-1) else kz a x:=by
 unfold kz;rw[getElem?_bubble hs d hd];by_cases c:x=b-d;·rw[if_pos c,if_pos c]
 .rw[if_neg c,if_neg c];by_cases c2:b-d<x/\x<=b;·rw[if_pos c2,if_pos c2]
  .rw[if_neg c2,if_neg c2]
section
variable{prog:cj}{w:dc}{A:c5}{E:ar->au->Prop}{s:au}{st:bp}{a₀:Array ba}{lo:Nat}
theorem wM{α:Type}{f:Option Bool->StateT bp Sem α}{Q:α->bp->Prop}(hA:gp a₀)(hI:SI a₀ lo st)(hi:i<a₀.size)(hj:j<a₀.size)(h1:kz (cn st) i<kz (cn st) j->wpS (bo prog w) A E s (f (some true)) Q st)(h2:kz (cn st) j<=kz (cn st) i->wpS (bo prog w) A E s (f (some false)) Q st):wpS (bo prog w) A E s (ltAt' i j>>=f) Q st:=by
 have hs:=hI.size;have pL:=hA.perm hI.perm;refine bg ?_;rw[ltAt'_eq];refine bg (j3 ?_);refine bg (sY ∅ (bg (sY ∅ ?_)));rw[fB ∅,fB ∅] at h1 h2;exact Ar hI.kind (pL.at _) (pL.at _) h1 h2
structure Kq(a₀:Array ba)(lo at_:Nat)(st st':bp):Prop where
 si:SI a₀ lo st'
 pd:pendingOf st'=pendingOf st
 sm:∀x<at_,kz (cn st') x=kz (cn st) x
def Kq.refl{at_:Nat}(h:SI a₀ lo st):Kq a₀ lo at_ st st:=⟨h,rfl,λ_ _=>rfl⟩
theorem uo{at_:Nat}{st1:bp}{α:Type}{f:Unit->StateT bp Sem α}{Q:α->bp->Prop}(c:Kq a₀ lo at_ st st1)(hi:at_<=i)(hj:j<=a₀.size)(h:∀st',Kq a₀ lo at_ st st'->(∀x,kz (cn st') x=if i<=x/\x<j then kz (cn st1) (i+j-1-x) else kz (cn st1) x)->wpS (bo prog w) A E s (f ()) Q st'):wpS (bo prog w) A E s (reverseSlice' i j>>=f) Q st1:=by
 have hs:=c.si.size;refine bg ?_;rw[reverseSlice'_eq];refine gd (h _ ⟨c.si.arr (mirror_perm _ _ _ _),c.pd,λx hx=>?_⟩ λx=>Sg ∅ x);show kz (mirror (cn st1) i j ((j-i)/2)) x=_;rw[Sg ∅,if_neg ∅];exact c.sm x hx
theorem Dc{at_ a e:Nat}{Q:Option (Option α)×Nat->bp->Prop}(hA:gp a₀)(hI:SI a₀ lo st)(hn:at_+e<=a₀.size)(ha:1<=a)(f:a<=e)(hR:Ra (cn st) at_ (at_+a))(h:∀n,a<=n->n<=e->Ra (cn st) at_ (at_+n)->(n<e->kz (cn st) (at_+n)<kz (cn st) (at_+n-1))->Q (none,n) st):
  wpS (bo prog w) A E s (forIn [a:e] ((none,a):Option (Option α)×Nat) λ_ __s=>do
   let __x<-ltAt' (at_+__s.snd) (at_+__s.snd-1)
   match __x with
   |some d=>if d=true then pure (kl (none,__s.snd)) else pure (dE (none,__s.snd+1))
   |_=>pure (kl (some none,__s.snd))) Q st:=by
 refine dg (I:=λx c st'=>st'=st/\c=(none,x)/\Ra (cn st) at_ (at_+x)) ?_ ?_ ⟨rfl,rfl,hR⟩
 .rintro x c st' hax hxn ⟨rfl,rfl,hr⟩;dsimp only;refine wM hA hI ∅ ∅ (λb=>?_) (λb=>?_);·exact qF (be (h x hax ∅ hr λ_=>b))
  .refine p7 (be ⟨rfl,rfl,λi j h1 h2 h3=>?_⟩);by_cases c:j<at_+x;·exact hr i j h1 h2 c
   .rw[show j=at_+x by omega];by_cases c2:i<at_+x
    .have:=hr i (at_+x-1) h1 ∅ ∅;omega
    .rw[show i=at_+x by omega];omega
 .rintro c st' ⟨rfl,rfl,hr⟩;rw[show max a e=e by omega] at hr⊢;exact h e f (aH _) hr λz=>absurd z ∅
def Fe(a:Array ba)(lo hi q:Nat):Prop:=(∀i j,lo<=i->i<=j->j<hi->kz a j<=kz a i)/\lo+q+1<=hi/\∀x,hi-(q+1)<=x->x<hi->kz a x=kz a (hi-1)
theorem Fe.rev{a w:Array ba}{lo hi q:Nat}(h:Fe a lo hi q)(e:∀x,kz w x=if hi-(q+1)<=x/\x<hi then kz a (hi-(q+1)+hi-1-x) else kz a x):∀x,kz w x=kz a x:=λx=>by
 rw[e x];obtain⟨h1,h2,h3⟩:=h;by_cases c:hi-(q+1)<=x/\x<hi;·rw[if_pos c,h3 x c.1 c.2];exact h3 _ ∅ ∅
 .rw[if_neg c]
def Fe.same{a w:Array ba}{lo hi q:Nat}(h:Fe a lo hi q)(e:∀x,kz w x=kz a x):Fe w lo hi q:=⟨λi j a b c=>by rw[e,e];exact h.1 i j a b c,h.2.1,λx a b=>by rw[e,e];exact h.2.2 x a b⟩
theorem Fe.less{a:Array ba}{lo hi q:Nat}(h:Fe a lo hi q)(c:kz a hi<kz a (hi-1)):Fe a lo (hi+1) 0:=by
 obtain⟨h1,h2,h3⟩:=h;refine⟨λi j a1 a2 g=>?_,∅,λx a1 a2=>by rw[show x=hi+1-1 by omega]⟩;by_cases c1:j<hi;·exact h1 i j a1 a2 c1
 .rw[show j=hi by omega];by_cases c2:i<hi;·have:=h1 i (hi-1) a1 ∅ ∅;omega
  .rw[show i=hi by omega];omega
theorem Fe.UP{a:Array ba}{lo hi q:Nat}(h:Fe a lo hi q)(c1:kz a (hi-1)<=kz a hi)(c2:kz a hi<=kz a (hi-1)):Fe a lo (hi+1) (q+1):=by
 obtain⟨h1,h2,h3⟩:=h;refine⟨λi j a1 a2 g=>?_,∅,λx a1 a2=>?_⟩
 .by_cases c1:j<hi;·exact h1 i j a1 a2 c1
  .rw[show j=hi by omega];by_cases c2:i<hi;·have:=h1 i (hi-1) a1 ∅ ∅;omega
   .rw[show i=hi by omega];omega
 .rw[show hi+1-1=hi by omega];by_cases c:x<hi;·rw[h3 x ∅ c];omega
  .rw[show x=hi by omega]
theorem Fe.up{a w:Array ba}{lo hi q:Nat}(h:Fe a lo hi q)(e:∀x,kz w x=if lo<=x/\x<hi then kz a (lo+hi-1-x) else kz a x):Ra w lo hi:=λi j h1 h2 h3=>by
 rw[e,e,if_pos ∅,if_pos ∅];exact h.1 _ _ ∅ ∅ ∅
theorem N2{at_ e:Nat}{Q:Option Nat->bp->Prop}(hA:gp a₀)(hI:SI a₀ lo st)(hn:at_+e<=a₀.size)(h1:1<=e)(h:∀m st',Kq a₀ lo at_ st st'->1<=m->m<=e->Ra (cn st') at_ (at_+m)->Q (some m) st'):wpS (bo prog w) A E s (countRun' at_ e) Q st:=by
 rw[countRun'_eq];have g:Kq a₀ lo at_ st st:= .refl hI;refine bg (Dc hA hI hn (aH 1) h1 (λi j a b c=>by rw[show i=j by omega];omega) λn n1 n2 hr hlt=>?_);dsimp only;refine gC (λc=>be (h n st g n1 n2 hr)) (λc=>?_);have hlt:=hlt ∅;refine gn (λc2=>wM hA hI ∅ ∅ (λb=>qF (be (h n st g n1 n2 hr))) λb=>p7 (uo g (aH _) ∅ λst1 K1 e1=>?_)) (λc2=>?_)
 rotate_left
 have K1:=g;have f:Fe (cn st) at_ (at_+(n+1)) 0:=by
  refine Fe.less (hi:=at_+n) (q:=0) ⟨λi j a b c=>by rw[show i=j by omega];omega,∅,λx a b=>by rw[show x=at_+n-1 by omega]⟩ hlt
 rotate_left
 have f:Fe (cn st1) at_ (at_+(n+1)) 0:=by
  have o:∀i j,at_<=i->i<at_+n->at_<=j->j<at_+n->kz (cn st) i=kz (cn st) j:=λi j a b c d=>by
   have x1:=hr at_ i (aH _) a b;have x2:=hr at_ j (aH _) c d;have x3:=hr i (at_+n-1) a ∅ ∅;have x4:=hr j (at_+n-1) c ∅ ∅;omega
  have M:∀x,kz (cn st1) x=kz (cn st) x:=λx=>by
   rw[e1 x];by_cases c:at_<=x/\x<at_+n;·rw[if_pos c];exact o _ _ ∅ ∅ ∅ ∅
   .rw[if_neg c]
  refine Fe.less (hi:=at_+n) (q:=0) ⟨λi j a b c=>?_,∅,λx a b=>by rw[show x=at_+n-1 by omega]⟩ (by rw[M,M];exact hlt);rw[M,M,o i j a ∅ ∅ c];omega
 all_goals
  refine bg (mv (gb ⟨rfl,?_⟩));refine bg (fv (dg (I:=λx c st'=>Kq a₀ lo at_ st st'/\∃q,c=(none,x,q)/\Fe (cn st') at_ (at_+x) q) (Q:=λc st'=>Kq a₀ lo at_ st st'/\∃x q,c=(none,x,q)/\1<=x/\x<=e/\Fe (cn st') at_ (at_+x) q) ?st ?fi ⟨K1,0,rfl,f⟩) ?po)
  case st=>
   rintro x c st' o4 hx2 ⟨K2,q,rfl,F2⟩;dsimp only;refine wM hA K2.si ∅ ∅ (λb=>qF ?_) (λb=>p7 ?_)
   .refine gn (λ_=>?_) (λ_=>?_)
    .refine uo K2 (by have:=F2.2.1;omega) ∅ λst3 K3 e3=>be ⟨K3,0,rfl,?_⟩;have e4:=F2.rev e3;exact(F2.same e4).less (by rw[e4,e4];exact b)
    .exact be ⟨K2,0,rfl,F2.less b⟩
   .refine wM hA K2.si ∅ ∅ (λb2=>qF ?_) (λb2=>p7 ?_);·exact be ⟨K2,x,q,rfl,∅,∅,F2⟩
    .exact be ⟨K2,q+1,rfl,F2.UP b b2⟩
  case fi=>
   rintro c st' ⟨K2,q,rfl,F2⟩;exact⟨K2,_,q,rfl,∅,∅,F2⟩
  case po=>
   rintro c st' ⟨K2,x,q,rfl,x1,x2,F2⟩;dsimp only;refine gn (λ_=>?_) (λ_=>?_);·refine uo K2 (by have:=F2.2.1;omega) ∅ λst3 K3 e3=>uo K3 (aH _) ∅ λl k e4=>bg (Dc hA k.si hn x1 x2 ((F2.same (F2.rev e3)).up e4) λm m1 m2 hm _=>be (h m l k ∅ m2 hm))
   .refine uo K2 (aH _) ∅ λl k e4=>bg (Dc hA k.si hn x1 x2 (F2.up e4) λm m1 m2 hm _=>be (h m l k ∅ m2 hm))
end
theorem Ch.len:∀{l:List (Nat×Nat×Nat)} {x y:Nat},Ch l x y->l.length+x<=y
 |[],x,y,h=>by rw[Jb];exact jf (by rw[IT];exact h)
 |(s,n,p)::l,x,y,⟨a,b,c⟩=>by have:=Ch.len c;rw[cZ];omega
section
variable{prog:cj}{w:dc}{A:c5}{E:ar->au->Prop}{s:au}{st st':bp}{a₀:Array ba}{lo:Nat}
theorem Kq.ru(K:Kq a₀ lo lo st st')(hI:SI a₀ lo st)(g:RU st):RU st':=λv hv=>by
 rw[K.pd] at hv;have h1:=hI.ch.lies v hv;intro x y hx hxy hy;rw[K.sm x ∅,K.sm y ∅];exact g v hv x y hx hxy hy
theorem RU.push{l n z:Nat}(g:RU st)(hm:Ra (cn st) l (l+n)):RU (ky st ((pendingOf st).push (l,n,z))):=λv hv=>by
 have b:v∈((pendingOf st).push (l,n,z)).toList:=hv;rw[l6] at b;show Ra (cn st) v.1 (v.1+v.2.1);rcases fO.mp b with h|h
 .exact g v h
 .rw[aY.mp h];exact hm
theorem RU.pw{i:Nat}(g:RU st)(pw:Nat):RU (ky st ((pendingOf st).modify i λx=>(x.1,x.2.1,pw))):=λv hv=>by
  have b:v∈((pendingOf st).modify i λx=>(x.1,x.2.1,pw)).toList:=hv;rw[EO] at b;show Ra (cn st) v.1 (v.1+v.2.1);obtain⟨k,hk⟩:=jS b;rw[List.getElem?_modify] at hk;cases e:(pendingOf st).toList[k]? with
  |none=>rw[e] at hk;cases hk
  | some u =>
    rw[e] at hk;have hu:=g u (bP e);simp only[Option.map_eq_map,sh,EE] at hk;by_cases c:i=k;· rw[if_pos c] at hk;rw[<-hk];exact hu
    · rw[if_neg c] at hk;rw[<-hk];exact hu
theorem RU.all(g:RU st)(hc:Ch (pendingOf st).toList 0 lo)(h1:(pendingOf st).size<=1):Ra (cn st) 0 lo:=by
  rw[<-dS] at h1;unfold RU at g;cases e:(pendingOf st).toList with
  | nil =>
    rw[e] at hc;have:0=lo:=hc;intro i j _ _ h;omega
  | cons v r =>
    obtain⟨p,n,z⟩:=v;rw[e] at h1 hc g;have d:r=[]:=by cases r with|nil=>rfl|cons _ _=>simp at h1
    subst d;obtain⟨a,b,c⟩:=hc;have c':0+n=lo:=c;have:=g (p,n,z) (cP ..);dsimp only at this;rwa[a,c'] at this
theorem X6{at_ ok:Nat}{Q:Bool->bp->Prop}(hA:gp a₀)(hI:SI a₀ lo st)(hn:at_+n<=a₀.size)(Z:1<=ok)(e:ok<=n)(hR:Ra (cn st) at_ (at_+ok))(h:∀st',Kq a₀ lo at_ st st'->Ra (cn st') at_ (at_+n)->Q true st'):wpS (bo prog w) A E s (binarySort' at_ n ok) Q st:=by
 rw[binarySort'_eq,show max ok 1=ok by omega];refine bg (fv (dg (I:=λk c st'=>c=(none,())/\Kq a₀ lo at_ st st'/\Ra (cn st') at_ (at_+k)) (Q:=λc st'=>c=(none,())/\Kq a₀ lo at_ st st'/\Ra (cn st') at_ (at_+n)) ?step ?fin ⟨rfl, .refl hI,hR⟩) ?post)
 case fin=>
  rintro c st' ⟨rfl,K2,r2⟩;rw[show max ok n=n by omega] at r2;exact⟨rfl,K2,r2⟩
 case post=>
  rintro c st' ⟨rfl,K2,r2⟩;exact be (h st' K2 r2)
 case step=>
  rintro k c st' hk1 hk2 ⟨rfl,K2,r2⟩;have hs:=K2.si.size;refine bg (fv (dg (I:=λx c d=>d=st'/\∃l r,c=(none,l,r)/\r<=k/\l<=r/\r-l+x<=k/\(∀y<l,kz (cn st') (at_+y)<=kz (cn st') (at_+k))/\∀y,r<=y->y<k->kz (cn st') (at_+k)<=kz (cn st') (at_+y)) (Q:=λc d=>d=st'/\∃l r,c=(none,l,r)/\l<=k/\(∀y<l,kz (cn st') (at_+y)<=kz (cn st') (at_+k))/\∀y,l<=y->y<k->kz (cn st') (at_+k)<=kz (cn st') (at_+y)) ?is ?fi ⟨rfl,0,k,rfl,aH _,eT _,∅,λy hy=>absurd hy ∅,λy a b=>absurd b ∅⟩) ?ip)
  case fi=>
   rintro c d ⟨rfl,l,r,rfl,hr,hlr,hx,q1,q2⟩;exact⟨rfl,l,r,rfl,∅,q1,λy a b=>q2 y ∅ b⟩
  case is=>
   rintro x c d _ hx ⟨rfl,l,r,rfl,hr,hlr,hz,q1,q2⟩;dsimp only;refine gn (λc1=>be ⟨rfl,l,r,rfl,∅,q1,λy a b=>q2 y ∅ b⟩) (λc1=>?_);refine wM hA K2.si ∅ ∅ (λb=>qF ?_) (λb=>p7 ?_)
   .refine be ⟨rfl,_,_,rfl,∅,∅,∅,q1,λy a1 a2=>?_⟩;have:=r2 (at_+(l+r)/2) (at_+y) ∅ ∅ ∅;omega
   .refine be ⟨rfl,_,_,rfl,hr,∅,∅,λy a1=>?_,q2⟩;have:=r2 (at_+y) (at_+(l+r)/2) ∅ ∅ ∅;omega
  case ip=>
   rintro c d ⟨rfl,l,r,rfl,hr,q1,q2⟩;show wpS _ _ _ _ (do moveDown' (at_+k) (at_+l);pure (dE (none,()))) _ _;rw[moveDown'_eq];have eb:∀x,kz (D2 (cn d) (at_+k) (at_+k-(at_+l))) x=if x=at_+l then kz (cn d) (at_+k) else if at_+l<x/\x<=at_+k then kz (cn d) (x-1) else kz (cn d) x:=λx=>by
    rw[VV ∅ ∅,show at_+k-(at_+k-(at_+l))=at_+l by omega]
   refine bg (gd (be ⟨rfl,⟨K2.si.arr (bubble_perm _ _ _),K2.pd,λx hx=>?_⟩,λi j h1 h2 h3=>?_⟩))
   .show kz (D2 (cn d) (at_+k) (at_+k-(at_+l))) x=_;rw[eb,if_neg ∅,if_neg ∅];exact K2.sm x hx
   .show kz (D2 (cn d) (at_+k) (at_+k-(at_+l))) i<=kz (D2 (cn d) (at_+k) (at_+k-(at_+l))) j;rw[eb,eb];by_cases N:i=at_+l
    .rw[if_pos N];by_cases o:j=at_+l;·rw[if_pos o];omega
     .rw[if_neg o,if_pos ∅];have:=q2 (j-1-at_) ∅ ∅;rwa[show at_+(j-1-at_)=j-1 by omega] at this
    .rw[if_neg N];by_cases B:at_+l<i/\i<=at_+k
     .rw[if_pos B,if_neg (show¬j=at_+l by omega),if_pos (show at_+l<j/\j<=at_+k by omega)];exact r2 _ _ ∅ ∅ ∅
     .rw[if_neg B];by_cases o:j=at_+l
      .rw[if_pos o];have:=q1 (i-at_) ∅;rwa[show at_+(i-at_)=i by omega] at this
      .rw[if_neg o];by_cases g:at_+l<j/\j<=at_+k;·rw[if_pos g];exact r2 _ _ ∅ ∅ ∅
       .rw[if_neg g];exact r2 _ _ ∅ ∅ ∅
theorem Wb{Q:Unit->bp->Prop}(hA:gp a₀)(hI:SI a₀ 0 st)(g:RU st)(h:∀st',(cn st').toList.Perm a₀.toList->Ra (cn st') 0 a₀.size->jh st'=none->Q () st'):wpS (bo prog w) A E s sortRuns' Q st:=by
  rw[sortRuns'_eq];refine bg (j3 ?_);dsimp only;have hs:=hI.size;rw[hs];refine bg (fv (dg (I:=λx c st'=>∃l,c=(none,l)/\(SI a₀ l st'/\RU st')/\l<=a₀.size/\(x<=l\/l=a₀.size)) (Q:=λc st'=>c=(none,a₀.size)/\SI a₀ a₀.size st'/\RU st') ?step ?fin ⟨0,rfl,⟨hI,g⟩,∅, .inl (aH _)⟩) ?post)
  case fin=>
    rintro c st' ⟨l,rfl,I2,h1,h2⟩;have:l=a₀.size:=∅
    subst this;exact⟨rfl,I2.1,I2.2⟩
  case step=>
    rintro x c st' _ hx ⟨l,rfl,I2,h1,h2⟩;dsimp only;refine gn (λc1=>?_) (λc1=>?_)
    · have:l=a₀.size:=∅
      subst this;exact be ⟨rfl,I2.1,I2.2⟩
    refine bg (N2 hA I2.1 ∅ ∅ λm st2 K3 m1 m2 hm=>?_);have I3:SI a₀ l st2/\RU st2:=⟨K3.si,K3.ru I2.1 I2.2⟩;dsimp only;refine gn (λc2=>bg (mv (gb ⟨rfl,bg (X6 (n:=min (a₀.size-l) (Bn a₀.size a₀.size 0)) hA I3.1 ∅ m1 ∅ hm λst3 k hm=>?_)⟩))) (λc2=>?_)
    · have I4:SI a₀ l st3/\RU st3:=⟨k.si,k.ru I3.1 I3.2⟩
      simp only[uO,l8,if_false];have n1:1<=min (a₀.size-l) (Bn a₀.size a₀.size 0):=∅
      have n2:min (a₀.size-l) (Bn a₀.size a₀.size 0)<=a₀.size-l:=∅
      generalize min (a₀.size-l) (Bn a₀.size a₀.size 0)=n at n1 n2 hm⊢;refine bg (j3 ?_);cases hb:(pendingOf st3).back? with
      | none =>
        dsimp only;refine bg (gd (be ⟨l+n,rfl,⟨⟨I4.1.perm,I4.1.kind,I4.1.failed,?_⟩,I4.2.push hm⟩,∅,∅⟩));show Ch ((pendingOf st3).push (l,n,0)).toList 0 (l+n);rw[l6];exact Ch.append.mpr ⟨l,I4.1.ch,rfl,n1,rfl⟩
      | some v =>
        obtain⟨s1,k1,e⟩:=v;dsimp only;generalize power' a₀.size (2*s1+k1) (2*s1+k1+k1+n) a₀.size=pw;refine bg (fv (dg (I:=λy c st'=>c=(none,())/\SI a₀ l st'/\RU st'/\Ra (cn st') l (l+n)) (Q:=λc st'=>c=(none,())/\SI a₀ l st'/\RU st'/\Ra (cn st') l (l+n)) ?is (λc st' z=>z) ⟨rfl,I4.1,I4.2,hm⟩) ?ip)
        case is=>
          rintro y c d _ _ ⟨rfl,I5⟩;refine bg (j3 ?_);by_cases N:(pendingOf d).size>1
          · rw[if_pos N]
            obtain⟨⟨J,q2,U⟩,eq⟩:∃v,(pendingOf d)[(pendingOf d).size-2]?=some v:=⟨_,getElem?_pos _ _ ∅⟩;rw[eq];dsimp only;refine gn (λ_=>be ⟨rfl,I5⟩) (λ_=>?_);refine bg (Dw hA I5.1 I5.2.1 h1 ∅ λi I6 b a _=>?_);simp only[uO,l8,if_false];exact be ⟨rfl,I6,b,λx y h1 h2 h3=>by rw[a x ∅,a y ∅];exact I5.2.2 x y h1 h2 h3⟩
          · rw[if_neg N];exact be ⟨rfl,I5⟩
        case ip=>
          rintro c d ⟨rfl,I5⟩;dsimp only;refine bg (gd (bg (gd (be ⟨l+n,rfl,⟨⟨I5.1.perm,I5.1.kind,I5.1.failed,?_⟩,(I5.2.1.pw pw).push I5.2.2⟩,∅,∅⟩))));show Ch (((pendingOf d).modify ((pendingOf d).size-1) λx=>(x.1,x.2.1,pw)).push (l,n,0)).toList 0 (l+n);rw[l6,EO];exact Ch.append.mpr ⟨l,Ch.pw (f:=λx=>(x.1,x.2.1,pw)) (λv=>⟨rfl,rfl⟩) I5.1.ch,rfl,n1,rfl⟩
    · have I4:=I3
      have n1:=m1;have n2:=m2;generalize m=n at n1 n2 hm⊢;generalize st2=st3 at I4 hm⊢;refine bg (j3 ?_);cases hb:(pendingOf st3).back? with
      | none =>
        dsimp only;refine bg (gd (be ⟨l+n,rfl,⟨⟨I4.1.perm,I4.1.kind,I4.1.failed,?_⟩,I4.2.push hm⟩,∅,∅⟩));show Ch ((pendingOf st3).push (l,n,0)).toList 0 (l+n);rw[l6];exact Ch.append.mpr ⟨l,I4.1.ch,rfl,n1,rfl⟩
      | some v =>
        obtain⟨s1,k1,e⟩:=v;dsimp only;generalize power' a₀.size (2*s1+k1) (2*s1+k1+k1+n) a₀.size=pw;refine bg (fv (dg (I:=λy c st'=>c=(none,())/\SI a₀ l st'/\RU st'/\Ra (cn st') l (l+n)) (Q:=λc st'=>c=(none,())/\SI a₀ l st'/\RU st'/\Ra (cn st') l (l+n)) ?is (λc st' z=>z) ⟨rfl,I4.1,I4.2,hm⟩) ?ip)
        case is=>
          rintro y c d _ _ ⟨rfl,I5⟩;refine bg (j3 ?_);by_cases N:(pendingOf d).size>1
          · rw[if_pos N]
            obtain⟨⟨J,q2,U⟩,eq⟩:∃v,(pendingOf d)[(pendingOf d).size-2]?=some v:=⟨_,getElem?_pos _ _ ∅⟩;rw[eq];dsimp only;refine gn (λ_=>be ⟨rfl,I5⟩) (λ_=>?_);refine bg (Dw hA I5.1 I5.2.1 h1 ∅ λi I6 b a _=>?_);simp only[uO,l8,if_false];exact be ⟨rfl,I6,b,λx y h1 h2 h3=>by rw[a x ∅,a y ∅];exact I5.2.2 x y h1 h2 h3⟩
          · rw[if_neg N];exact be ⟨rfl,I5⟩
        case ip=>
          rintro c d ⟨rfl,I5⟩;dsimp only;refine bg (gd (bg (gd (be ⟨l+n,rfl,⟨⟨I5.1.perm,I5.1.kind,I5.1.failed,?_⟩,(I5.2.1.pw pw).push I5.2.2⟩,∅,∅⟩))));show Ch (((pendingOf d).modify ((pendingOf d).size-1) λx=>(x.1,x.2.1,pw)).push (l,n,0)).toList 0 (l+n);rw[l6,EO];exact Ch.append.mpr ⟨l,Ch.pw (f:=λx=>(x.1,x.2.1,pw)) (λv=>⟨rfl,rfl⟩) I5.1.ch,rfl,n1,rfl⟩
  case post=>
    rintro c st' ⟨rfl,I2,U2⟩;dsimp only;refine bg (fv (dg (I:=λy c d=>c=(none,())/\SI a₀ a₀.size d/\RU d/\(pendingOf d).size+y<=a₀.size) (Q:=λc d=>c=(none,())/\SI a₀ a₀.size d/\RU d/\(pendingOf d).size<=1) ?is ?fi ⟨rfl,I2,U2,by have:=I2.ch.len;rw[dS] at this;omega⟩) ?ip)
    case fi=>
      rintro c d ⟨rfl,I5,U5,z⟩;exact⟨rfl,I5,U5,∅⟩
    case is=>
      rintro y c d _ _ ⟨rfl,I5,U5,z⟩;refine bg (j3 ?_);refine gn (λW=>be ⟨rfl,I5,U5,W⟩) (λW=>?_);refine bg (Dw hA I5 U5 (aH _) ?_ λi I6 b _ z6=>?_);· exact yT (Nat.add_le_add_right afl 1) ∅
      simp only[uO,l8,if_false];exact be ⟨rfl,I6,b,∅⟩
    case ip=>
      rintro c d ⟨rfl,I5,U5,z⟩;exact be (h _ I5.perm (U5.all I5.ch z) I5.failed)
end
def ZX{vs:List ar}(hI:eI vs ns){xs:Array ba}(hp:xs.toList.Perm (lB vs).toList)(hr:Ra xs 0 xs.size):
  ∃f,eI (xs.map (·.2)).toList f/\f.Perm ns/\f.Pairwise (· <= ·):=by
 obtain⟨f,h1,h2⟩:=ady hI hp;refine⟨f,h1,h2,?_⟩;have hl:xs.toList.Perm (vs.zip vs):=by rw[<-mB];exact hp
 have e:f=xs.toList.map kd:=by
  rw[<-h1.nums,qs,je];refine Jg λp a=>?_;obtain⟨e1,e2⟩:=p4 (hl.mem_iff.mp a);obtain⟨n,t,e3⟩:=hI.all _ e2;show Fu p.2=kd p;unfold kd;rw[<-e1,e3];rfl
 rw[e,JD];intro i j hi hj hij;rw[JM,JM];rw[ak,dS] at hi hj;have:=hr i j (eT _) (eZ hij) hj;rw[fB hi,fB hj] at this;simpa using this
section
variable{prog:cj}{w:dc}{A:c5}{E:ar->au->Prop}{s:au}
theorem YI{vs:List ar}{P:Fin->au->Prop}(ho:s.heap.get? a=some (l4 "list" vs.toArray n))
  (hI:eI vs ns) (hz:vs.length<=100000)
  (h:∀(out:Array ar) (f:List Int),eI out.toList f->f.Perm ns->f.Pairwise (· <= ·)->P (.done (.ret .none)) {s with heap:=sortedHeap s.heap a vs out}):
  wpAny (bo prog w) A (j1.«list.sort» ⟨[.ref a],[]⟩) P E s:=by
 rw[list_sort_plain];have d:vs.length<=sizeLine:=by rw[lh];omega
 have ha:a<s.heap.objs.size:=cD ho;refine ae (listItems_at ho rfl ?_);refine ae (n7 ho rfl ?_ (hsz:=by rw[eU];exact d));obtain⟨e1,uW⟩:∃e1,(s.heap.update a (eF λ_=> #[])).get? a=some (l4 "list" #[] e1):=⟨_,get?_update_seq ho (λ_=> #[])⟩;refine ae (tm uW rfl ?_);refine ae (wpAny_newTuple ?_);refine ae (n3 ?_);refine ej ?_;have c:(((s.heap.update a (eF λ_=> #[])).push (l4 "tuple" vs.toArray 0)).push (l4 "list" #[] 0)).get? a=some (l4 "list" #[] e1):=by
  rw[oP _ _ _ (by rw[size_push',qB];exact eS (pQ ha)),oP _ _ _ (by rw[qB];exact eS ha)];exact uW
 show wpAny (bo prog w) A _ P E {s with heap:=((s.heap.update a (eF λ_=> #[])).push (l4 "tuple" vs.toArray 0)).push (l4 "list" #[] 0)};dsimp only;have hsz:vs.toArray.size=vs.length:=by simp
 have fin:∀st':bp,(cn st').toList.Perm (lB vs).toList->Ra (cn st') 0 (lB vs).size->
   P (.done (.ret .none)) {s with heap:=sortedHeap s.heap a vs ((cn st').map (·.2))}:=by
  intro st' hp hr;have e:=hp.length_eq;rw[dS,dS] at e;obtain⟨f,h1,h2,h3⟩:=ZX hI hp (by rw[e];exact hr);exact h _ f h1 h2 h3
 by_cases h2:vs.toArray.size<2
 .rw[if_pos h2,if_pos h2];refine ae (aw ?_);rw[StateT.run_pure];refine ae (aw ?_);dsimp only;refine ae (tm c rfl ?_);refine ae (n7 c rfl ?_ (hsz2:=by rw[vi];show(lB vs).size<=_;rw[qa,lh];omega));simp only[bne_self_eq_false,l8,if_false]
  exact aw (fin (wa general' (vs.toArray.zip vs.toArray) #[] 7 none) (Kl _) λi j _ h3 h4=>by
   rw[qa] at h4;have:i=j:=∅
   rw[this];omega)
 .rw[if_neg h2,if_neg h2];obtain⟨v₁,b,rest,rfl⟩:∃v₁ b rest,vs=v₁::b::rest:=by
   match vs,hsz,h2 with
   |[],_,h2=>simp at h2
   |[_],_,h2=>simp at h2
   |v₁::b::rest,_,_=>exact⟨v₁,b,rest,rfl⟩
  rw[keyKind_ints hI];refine ae (aw ?_)
  refine ae (fm (Wb (a₀:=lB (v₁::b::rest)) (st:=wa dO ((v₁::b::rest).toArray.zip (v₁::b::rest).toArray) #[] 7 none)
   (Q:=λ_ st'=>(cn st').toList.Perm (lB (v₁::b::rest)).toList/\Ra (cn st') 0 (lB (v₁::b::rest)).size/\jh st'=none)
   (YP hI) ⟨Kl _,rfl,rfl,rfl⟩ (λv hv=>by have z:v∈([]:List (Nat×Nat×Nat)):=hv;cases z) λst' a1 g a2=>⟨a1,g,a2⟩) ?_ λ_ _ e=>e)
  rintro⟨⟨⟩,st'⟩ s' ⟨rfl,hp,hr,hf⟩;dsimp only;refine ae (tm c rfl ?_)
  refine ae (n7 c rfl ?_ (hsz2:=by
   have:=hp.length_eq;rw[dS,dS,qa] at this;show((cn st').map (·.2)).size<=_;rw[vi,this];omega))
  rw[hf];simp only[bne_self_eq_false,l8,if_false];exact aw (fin st' hp hr)
variable{a:ax}
end
def yP(K:PySem.W.Frag):List V->Hp->VK->Prop:=λxs H Q=>∃p,∃ns:List Int,xs=[.ref p]/\bw K H p (ns.map V.int)/\Q (.int ns.sum) H
def uA(K:PySem.W.Frag):List V->Hp->VK->Prop:=λxs H Q=>∃p,∃bs:List Bool,xs=[.ref p]/\bw K H p (bs.map V.bl)/\Q (.bl (bs.all id)) H
section
variable{X:Cx}
def R5(hc:X.calm=true):fT X (.builtin "sum") (yP X.K):=by
 intro pins s σ H xs us Q I rv h;obtain⟨p,ns,rfl,hp,q⟩:=h;obtain⟨u,rfl,ru⟩:=vals1 rv;cases ru;obtain⟨its,M,a,hz⟩:=I.list hp;have hI:=I0 M;obtain⟨ys,e⟩:=hI.allInts.items;have hn:=hI.numsOf;refine sum_intListG (xs:=ys) (I.ok.hd hc) (by rw[<-e];exact a.isList) λh' tk t' kp=>?_;have e2:preSum (numAt ys) ys.size=ns.sum:=by
  rw[preSum_eq,sN (by simp),<-nums_intItems,<-e,<-hn]
 rw[e2];exact⟨.int ns.sum,H,I.kept kp,⟨_,rfl⟩,q⟩
theorem GR(hc:X.calm=true):fT X (.builtin "all") (uA X.K):=by
  intro pins s σ H xs us Q I rv h;obtain⟨p,bs,rfl,hp,q⟩:=h;obtain⟨u,rfl,ru⟩:=vals1 rv;cases ru;obtain⟨its,M,a,hz⟩:=I.list hp;have hl:=M.length;have hv:∀(i:Nat) (v:ar),its.toArray[i]?=some v->v= .bool (bs.getD i false):=λi v e=>by
    have hi:i<bs.length:=by
      have:=(qX.mp e).1;rw[ak] at hl;simp at this;omega
    obtain⟨u,hu,ru⟩:=M.get (i:=i) (x:= .bl bs[i]) (by rw[cS,aS hi];rfl);rw[L6,hu] at e;cases e;rw[i9,aS hi];exact ru
  have ll:=a.isList;have hlt:p<s.heap.objs.size:=by obtain⟨o,e,_⟩:=ll;exact cD e
  refine call_all_walk (kn ll ⟨s.heap.objs.size,_,_,_,_,_,λi=>bs.getD i false,rfl,EB (A:=X.A.in1) (I.ok.hd hc) _ p (eS hlt) its.toArray,⟨⟨_,gf _ rfl,rfl,rfl⟩,ll.push _⟩,λi v s Q E hP G=>?_,λh' tk kp=>?_⟩);· rw[hv i v hP];exact hQ G
  · have e:(cv its.toArray.size).all (λi=>bs.getD i false)=bs.all id:=by
      have hs:its.toArray.size=bs.length:=by rw[ak] at hl;simp;omega
      rw[hs];clear hv hl M q hp hs hz;induction bs with
      |nil=>rfl
      | cons b r ih =>
        rw[cZ,Tw,oJ,oJ,List.all_map];simpa[oL] using congrArg (b && ·) ih
    rw[e];refine⟨.bl (bs.all id),H,I.kept λb o q=>kp b o (λm=>?_) (cJ _ q),rfl,q⟩;have:=aY.mp m;rw[this] at q;exact absurd (cD q) (kE _)
end
section
variable{G:Gx}{ρ:Rh}{te:TE}{K:PySem.W.Frag}{Φ:Pd}
theorem Ev.sum(h:Ev G ρ te λ_ x=>∃ns:List Int,x= .list (ns.map .int)/\Φ true (.int ns.sum)):Ev G ρ (gv (yP K) (bN te cI)) Φ:=λnb σ H Q W z=>
 h nb σ H _ W λf v H1 x ⟨ns,ex,q⟩ s1 hv=>by
  subst ex;obtain⟨a,xs,rfl,na,hx,hd⟩:=hv.dZ;have e:=A8 hd;subst e;exact⟨a,ns,rfl, .of hx,z true _ H1 _ q s1 (.int _)⟩
theorem S5{nb:ax->Prop}{H:Hp}:∀{is:List Bool} {xs:List V},af nb H (is.map lr) xs->xs=is.map V.bl
  |[],_,h=>by unfold cf af at h;exact h
  | i :: is, _, h => by
    rw[aZ] at h;unfold af at h;obtain⟨y,ys,rfl,h1,h2⟩:=h;unfold ah at h1;rw[aZ,h1,S5 h2]
theorem Ev.all(h:Ev G ρ te λ_ x=>∃bs:List Bool,x= .list (bs.map .bool)/\Φ true (.bool (bs.all id))):Ev G ρ (gv (uA K) (bN te cI)) Φ:=λnb σ H Q W z=>
 h nb σ H _ W λf v H1 x ⟨bs,ex,q⟩ s1 hv=>by
  subst ex;obtain⟨a,xs,rfl,na,hx,hd⟩:=hv.dZ;have e:=S5 hd;subst e;exact⟨a,bs,rfl, .of hx,z true _ H1 _ q s1 (.bl _)⟩
end
noncomputable def P9:PyData->String->Bool
 | .bool _,T=>T=="bool" ||T=="int"
 | .int _,T=>T=="int"
 | .str _,T=>T=="str"
 | .list _,T=>T=="list"
 | .tuple _,T=>T=="tuple"
 |_,_=>false
noncomputable def Pp:PyData->String
 | .none=> "NoneType" | .bool _=> "bool" | .int _=> "int" | .str _=> "str" | .list _=> "list" | .tuple _=> "tuple" | .dict _=> "dict"
def VD{K:PySem.W.Frag}{d:PyData}{v:V}(h:ah nb H d v):jA K H v (.type (Pp d)):=by
 cases d<;>unfold ah at h;·subst h;exact .aL
 .subst h;exact .bl _
 .subst h;exact .int _
 .subst h;exact .str _
 .obtain⟨a,xs,rfl,_,e,_⟩:=h;exact .lst e
 .obtain⟨a,xs,rfl,_,e,_⟩:=h;exact .tup e
 .obtain⟨a,xs,rfl,_,e,_⟩:=h;exact e.elim .dK λ⟨_,e⟩=> .MN e
def Se(T:String):Prop:=T="int" \/T="bool" \/T="list" \/T="tuple" \/T="str"
def ad3{K:PySem.W.Frag}{d:PyData}(hT:Se T):PySem.W.kitOne K (.type (Pp d)) (.type T)=some (P9 d T):=by
 rcases hT with rfl|rfl|rfl|rfl|rfl<;>cases d<;>(with_unfolding_all rfl)
section
variable{G:Gx}{ρ:Rh}{ta tb te:TE}{K:PySem.W.Frag}{Φ:Pd}{T U:String}
def Ev.WO(hT:Se T)(h:Ev G ρ te λ_ x=>Φ true (.bool (P9 x T))):Ev G ρ (gv (JK K) (bN te (bN (tC (.ty T)) cI))) Φ:=λnb σ H Q W z=>
 h nb σ H _ W λf v H1 d q s1 hv=>⟨v,T,_,_,rfl,VD hv,ad3 hT,z true _ H1 _ q s1 (.bl _)⟩
def Ev.Ol(h:Ev G ρ te λ_ x=>∃ds,(x= .list ds\/x= .tuple ds)/\Φ true (.int ds.length)):Ev G ρ (gv (iP K) (bN te cI)) Φ:=λnb σ H Q W z=>
 h nb σ H _ W λf v H1 d ⟨ds,e,q⟩ s1 hv=>by
  rcases e with e|e
  .subst e;obtain⟨a,xs,rfl,n,hx,hd⟩:=hv.dZ;exact⟨a,xs,rfl, .inl (.of hx),by rw[hd.length];exact z true _ H1 _ q s1 (.int _)⟩
  .subst e;obtain⟨a,xs,rfl,n,hx,hd⟩:=hv.ofT;exact⟨a,xs,rfl, .inr (.of hx),by rw[hd.length];exact z true _ H1 _ q s1 (.int _)⟩
def Ev.Pw(h:Ev G ρ ta λf x=>∃ds,(x= .list ds\/x= .tuple ds)/\Ev G ρ tb λ_ y=>∃k,y= .int k/\∃e,bU ds k=some e/\Φ f e):Ev G ρ (dP (Mm K) ta tb) Φ:=
 Ev.lZ (h.mono λf x ⟨ds,ex,q⟩=>q.mono λg y ⟨k,o,e,he,p⟩ nb σ H u v Q W hu hv z=>by
  subst o;rcases ex with ex|ex
  .subst ex;obtain⟨a,xs,rfl,n,hx,hd⟩:=hu.dZ;obtain⟨w,hw,N⟩:=hd.bU he;exact .inl ⟨a,xs,k,w,rfl,hv.cV, .of hx,hw,z f _ H _ p (.refl W.az) N⟩
  .subst ex;obtain⟨a,xs,rfl,n,hx,hd⟩:=hu.ofT;obtain⟨w,hw,N⟩:=hd.bU he;exact .inr (.inl ⟨a,xs,k,w,rfl,hv.cV, .of hx,hw,z f _ H _ p (.refl W.az) N⟩))
end
section
variable{G:Gx}{ρ bM:Rh}{te:TE}{gt:TG}{n i:Nat}{it:Nat->PyData->Prop}{fi:Bool}{Θ:Bool->List PyData->Prop}{E:DE}
def WC(os:List Int):gx (os.map bj)=true:=by
 unfold gx;rw[lU];intro x hx;obtain⟨y,_,rfl⟩:=bH.mp hx
 rfl
def iH.ints(P:Int->Prop)(ht:∀i d,it i d->Gv G bM gt fi d λm=>Wk bM m/\Ev G m te λ_ e=>∃r:Int,e= .int r/\P r)(h:∀os:List Int,os.length=n->(∀x∈os,P x)->Θ true (os.map .int)):iH G bM n it fi gt p9 te Θ:=by
 refine⟨false,λi ds=>ds.length=i/\∃os:List Int,ds=os.map .int/\∀x∈os,P x,⟨rfl,[],rfl,λ_ h=>nomatch h⟩,?_,?_⟩
 .rintro i d ds hd hl ⟨hl2,os,rfl,ho⟩;refine λnb σ H v Q W hv z=>ht i d hd nb σ H v Q W hv λL C ⟨w,q⟩ W'=>z L C ⟨w,Tv.oG (Af (q.mono λf e ⟨r,F,hr⟩=>⟨λz=>(by cases z),?_,os++[r],?_,λx hx=>?_⟩))⟩ W';·rw[cH,gQ,hl2]
  .rw[F];simp
  .rcases fO.mp hx with h|h
   .exact ho x h
   .rw[aY.mp h];exact hr
 .rintro ds hl ⟨hl2,os,rfl,ho⟩;rw[WC,Bool.or_true];exact h os (by rw[ak] at hl2;exact hl2) ho
theorem iH.rel(φ:α->PyData)(fl:Bool)(P:Nat->α->Prop)(ht:∀i d,it i d->Gv G bM gt fi d λm=>Wk bM m/\Ev G m te λf e=>(fl=true->f=true)/\∃r:α,e=φ r/\P i r)
  (h:∀os:List α,os.length=n->(∀(i:Nat) x,os[i]?=some x->P i x)->Θ (fl||gx (os.map φ)) (os.map φ)):iH G bM n it fi gt p9 te Θ:=by
 refine⟨fl,λi ds=>ds.length=i/\∃os:List α,ds=os.map φ/\∀(i:Nat) x,os[i]?=some x->P i x,⟨rfl,[],rfl,λj x e=>by simp at e⟩,?_,?_⟩
 .rintro i d ds hd hl ⟨hl2,os,rfl,ho⟩;refine λnb σ H v Q W hv z=>ht i d hd nb σ H v Q W hv λL C ⟨w,q⟩ W'=>z L C ⟨w,Tv.oG (Af (q.mono λf e ⟨hf,r,F,hr⟩=>⟨hf,?_,os++[r],?_,λj x hj=>?_⟩))⟩ W';·rw[cH,gQ,hl2]
  .rw[F];simp
  .rw[ak] at hl2;rcases Ag j os.length with h|h|h
   .exact ho j x (by rwa[gW h] at hj)
   .subst h;simp at hj;subst hj;rw[hl2];exact hr
   .rw[pS (by rw[cH,gQ];omega)] at hj;cases hj
 .rintro ds hl ⟨hl2,os,rfl,ho⟩;exact h os (by rw[ak] at hl2;exact hl2) ho
def Sv.wK(h:∀a,E.nx (ρ.set i (.own a true []))):Sv G ρ (gD (qw cI) (gZ i)) E:=Sv.vf (aq.lst (Av.nil ⟨⋯,λa=>h a⟩))
end
def qh{X:Cx}{K:PySem.W.Frag}{a:eM}{ta:TE}(c:X.K=K)(ha:PE X a ta)(he:∀whole,isTrue a X.env whole=(do let v<-whole;standAt a.pos;holding [v] (truthy v))):PT X a (Rn K ta):=by
 subst c;exact RH ha he
def iG{X:Cx}{K:PySem.W.Frag}{es:List eM}{k:Nat}{t:jC}{n:Nat}{pos:Pos}(c:X.K=K)(hc:X.calm=true)(h:ug X es t)(hn:(hU es X.env).length=n:=by rfl)(d:(hU es X.env).findIdx? (·.1)=none:=by rfl):PG X (.Tuple es k pos) (Ak K n t):=by
 subst c;exact NV hc h hn d
def Sv.rE{G:Gx}{ρ:Rh}{s:TS}{E:DE}(I:Rh->Prop)(h:Sv G ρ s {E with nx:=I})(hI:∀C,I C->E.nx C):Sv G ρ s E:=λnb σ H D W K=>h nb σ H D W ⟨λnb ρ σ H q W=>K.nx nb ρ σ H (hI ρ q) W,K.bk,K.ct,K.rt,K.rw⟩
def QL(p:Int):Prop:=2<=p/\p<=10^60
theorem pick{k:Int}(h0:0<=k)(h1:k<L.length)(P:Int->Prop)(hP:∀x∈L,P x):∃x,bU (L.map bj) k=some (.int x)/\P x:=by
 have J:k.toNat<L.length:=∅
 exact⟨L[k.toNat],j6 h0 (by rw[cS,aS J];rfl),hP _ (fU J)⟩
theorem Ey{α:Type}{xs:List α}{k:Int}(h0:0<=k)(h1:k<=xs.length):iy xs (some k) none=xs.drop k.toNat:=by
 have e:HT.fk xs.length 0 (some k)=k.toNat:=by
  show(if k<0 then _ else _)=_;rw[if_neg ∅];omega
 unfold iy;rw[e,HT.abv];exact sN (by rw[rF];omega)
def abh(a b:ao)(wd:Wo):aT (a++b) wd=aT a wd+aT b wd:=by
 unfold aT;rw[bh,HG]
def tP(a:Int×Int)(b:ao)(wd:Wo):aT (a::b) wd=iS wd a+aT b wd:=by
 unfold aT;rw[aZ,rV]
theorem Mj:∀xs ys:List Int,gg (xs.map bj) (ys.map bj)=decide (xs=ys)
  |[],[]=>by simp[gg]
  |[],y::ys=>by simp[gg]
  |x::xs,[]=>by simp[gg]
  | x :: xs, y :: ys => by
    simp only[aZ,gg,Mj xs ys];have:fo (.int x) (.int y)=decide (x=y):=by rw[lq];simp[fo]
    rw[this,lq];simp
def Oa(xs ys:List Int):fo (.list (xs.map .int)) (.list (ys.map .int))=decide (xs=ys):=by
 simp only[fo];exact Mj xs ys
def shaped_ints(xs:List Int):ed (.list (xs.map .int))=true:=by
 have h:=Yd (xs.map some);have e:(xs.map some).map bJ=xs.map bj:=by rw[je];rfl
 rw[e] at h;unfold ed;simp[ek,il,h.1,h.2]
def AU{w:List Int}{x:Int}(h:w[pr.1.toNat]?=some x):iS (w.map some) pr=pr.2*x:=by
 unfold iS;rw[cS,h];rfl
def L8(K:PySem.W.Frag)(te:TE)(b:TO):TE:=λσ H Q=>te σ H λx H1=>b σ H1 λk H2=>k=some (-1)/\∃a xs,x= .ref a/\bw K H2 a xs/\∀p,H2 p=none->Q (.ref p) (upd H2 p (.lst xs.reverse))
theorem af.rev{nb:ax->Prop}{H:Hp}:∀{ds:List PyData} {xs:List V},af nb H ds xs->af nb H ds.reverse xs.reverse
  |[],xs,h=>by unfold af at h;subst h;exact .nil
  | d :: ds, xs, h => by
    unfold af at h;obtain⟨y,ys,e,h1,h2⟩:=h;subst e;rw[oT,oT];exact af.append (af.rev h2) (.cons h1 .nil)
section
variable{G:Gx}{ρ:Rh}{Φ:Pd}{ta tb te:TE}{K:PySem.W.Frag}
theorem aq.rev{b:TO}{Θ:Bool->List PyData->Prop}(h:Ev G ρ te λf x=>∃ds,x= .list ds/\Ov G ρ b λo=>o=some (-1)/\Θ (f||gx ds.reverse) ds.reverse):aq G ρ (L8 K te b) Θ:=λnb σ H Q W z=>
 h nb σ H _ W λf v H1 d ⟨ds,e,q⟩ s1 hv=>q nb σ H1 _ (W.step s1) λo H2 ⟨l,q2⟩ s2=>by
  subst e;obtain⟨a,xs,rfl,n,hx,hd⟩:=(hv.keep s2.dX).dZ;exact⟨l,a,xs,rfl, .of hx,λp hp=>aq.fin W (s1.trans s2) hp hd.rev q2 z⟩
theorem Ev.rev{b:TO}(h:Ev G ρ te λf x=>∃ds,x= .list ds/\Ov G ρ b λo=>o=some (-1)/\Φ (f||gx ds.reverse) (.list ds.reverse)):Ev G ρ (L8 K te b) Φ:=(aq.rev (Θ:=λf ds=>Φ f (.list ds)) h).ev
def Nf{K:PySem.W.Frag}(c:X.K=K):c9 X (du .In) (oS K false):=by subst c;exact Xs
def Wp{K:PySem.W.Frag}(c:X.K=K):c9 X (du .NotIn) (oS K true):=by subst c;exact UZ
end
def AK(p n:Int)(prs:ao):Prop:=prs≠[]/\(prs.Pairwise λa b=>a.1<b.1)/\∀pr∈prs,0<=pr.1/\pr.1<n/\1<=pr.2/\pr.2<p
def okN(p n:Int)(cs:List ao):Prop:=2<=p/\1<=n/\n<=400/\cs.length<=400/\∀prs∈cs,AK p n prs
end L2
variable{cs:List L2.ao}{wd:L2.Wo}{ρ:L2.Rh}{G:L2.Gx}{prs:L2.ao}{Φ:L2.Pd}
namespace PC
def aN(n:Nat):Prop:=2<=n/\∀d,d∣n->d=1\/d=n
noncomputable def tr(q:Nat):Nat->Nat->Bool
 |0,_=>false
 |f+1,d=>if q<d*d then true else if q%d=0 then false else tr q f (d+1)
theorem QZ{q:Nat}:∀{f d:Nat},tr q f d=true->∀e,d<=e->e*e<=q->q%e≠0
  |0,_,h=>by simp[tr] at h
  | f + 1, d, h => by
    intro e hde hee;unfold tr at h;by_cases h1:q<d*d
    · have:=vk hde hde
      omega
    · rw[if_neg h1] at h
      by_cases h2:q%d=0;· rw[if_pos h2] at h;cases h
      · rw[if_neg h2] at h
        by_cases h3:d=e;· rw[<-h3];exact h2
        · exact QZ h e ∅ hee
theorem QK{q:Nat}(h2:2<=q)(h:∀e,2<=e->e*e<=q->q%e≠0):aN q:=by
 refine⟨h2,λd hd=>?_⟩;obtain⟨e,he⟩:=hd;by_cases d1:d=1;·exact .inl d1
 by_cases e1:e=1;·right;rw[he,e1,Hj]
 exfalso;have d0:d≠0:=λz=>by rw[z,Im] at he;omega
 have O:e≠0:=λz=>by rw[z,xp] at he;omega
 by_cases C:d<=e
 .refine h d ∅ (by rw[he];exact Nat.mul_le_mul_left d C) ?_;rw[he];exact Nat.mul_mod_right d e
 .refine h e ∅ (by rw[he];exact oA e ∅) ?_;rw[he];exact Nat.mul_mod_left d e
def cQ(f:Nat){q:Nat}(h2:2<=q)(h:tr q f 2=true):aN q:=QK h2 (QZ h)
noncomputable def pw(N:Nat):Nat->Nat->Nat->Nat->Nat
 |0,_,_,acc=>acc
 |f+1,e,g,acc=>pw N f (e/2) (g*g%N) (if e%2=1 then acc*g%N else acc)
theorem Rp{N:Nat}:∀(f e g acc:Nat),e<2^f->pw N f e g acc%N=acc*g^e%N
  | 0, e, g, acc, h => by
    have:e=0:=by simp at h;exact h
    subst this;simp[pw]
  | f + 1, e, g, acc, h => by
    have h2:e/2<2^f:=by rw[xt] at h;omega
    unfold pw;rw[Rp f _ _ _ h2];have e2:g^e=(g*g)^(e/2)*g^(e%2):=by
      conv=>lhs;rw[<-uG e 2]
      rw[Ba,Bz,Nat.pow_two]
    have m1:(g*g%N)^(e/2)%N=(g*g)^(e/2)%N:=(BM _ _ _).symm;rw[e2];by_cases ho:e%2=1
    · rw[if_pos ho,ho,Nat.pow_one,oh,m1,Jc,<-oh]
      congr 1
      rw[vM,wA g]
    · have d:e%2=0:=∅
      rw[if_neg ho,d,xv,Hj,oh,m1,<-oh]
def aeQ{P:Nat->Prop}:∀n,P n->∃m,P m/\∀k,k<m->¬P k:=by
  intro n;induction n using tq with
  | _ n ih =>
    intro h;by_cases hk:∃k,k<n/\P k
    · obtain⟨k,z,V⟩:=hk
      exact ih k z V
    · exact⟨n,h,λk z V=>hk ⟨k,z,V⟩⟩
theorem SR:∀(n:Nat) (f:Nat->Nat),(∀i,i<n+1->f i<n)->∃i j,i<j/\j<n+1/\f i=f j
  |0,f,h=>absurd (h 0 ∅) ∅
  | n + 1, f, h => by
    by_cases he:∃i,i<n+1/\f i=f (n+1)
    · obtain⟨i,h1,h2⟩:=he
      exact⟨i,n+1,h1,∅,h2⟩
    · have T:∀i,i<n+1->f i≠f (n+1):=λi hi e=>he ⟨i,hi,e⟩
      have ur:=h (n+1) ∅
      obtain⟨i,j,h1,h2,h3⟩:=SR n (λi=>if f i=n then f (n+1) else f i) (λi hi=>by
        have g1:=h i ∅;have g2:=T i hi;by_cases c:f i=n
        · simp only[c,if_true]
          have:f (n+1)≠n:=λz=>g2 (c.trans z.symm);omega
        · simp only[c,if_false]
          omega)
      refine⟨i,j,h1,∅,?_⟩;have gi:=T i ∅;have gj:=T j ∅;by_cases b:f i=n
      · by_cases a:f j=n
        · rw[b,a]
        · simp only[b,a,if_true,if_false] at h3
          exact absurd h3.symm gj
      · by_cases a:f j=n
        · simp only[b,a,if_true,if_false] at h3
          exact absurd h3 gi
        · simpa only[b,a,if_false] using h3
noncomputable def lW:List (Nat×Nat)->Nat
 |[]=>1
 |qe::r=>Nat.lcm (qe.1^qe.2) (lW r)
theorem LC{o:Nat}:∀{fs:List (Nat×Nat)},(∀qe∈fs,qe.1^qe.2∣o)->lW fs∣o
 |[],_=>⟨o,by simp[lW]⟩
 |qe::r,h=>Nat.lcm_dvd (h qe cP) (LC λx hx=>h x (cF _ hx))
def YD{q:Nat}(hq:aN q)(h:¬q∣m):lL q m:=by
 rcases hq.2 _ (Nat.gcd_dvd_left q m) with e|e
 .exact e
 .exact absurd (e▸Nat.gcd_dvd_right q m) h
def UC{q:Nat}(h:lL q m)(e:Nat):lL (q^e) m:=yY e h
def mm3(a b c d:Nat):(a%d)*(b%d)%d*(c%d)%d=a*b*c%d:=by
 rw[<-oh a b,<-oh (a*b) c]
theorem SH{N g d:Nat}{fs:List (Nat×Nat)}(hN:2<=N)(hd:d∣N)(d1:1<d)(h1:g^(N-1)%N=1%N)
  (hq:∀qe∈fs,aN qe.1/\qe.1^qe.2∣N-1/\B2 (g^((N-1)/qe.1)%N+(N-1)) N=1):lW fs<d:=by
 have n:∀{a b:Nat},a%N=b%N->a%d=b%d:=λ{a b} e=>by
  rw[<-HA a hd,e,HA b hd]
 have one:1%d=1:=qC d1;have Y:g^(N-1)%d=1:=by rw[n h1,one]
 obtain⟨o,⟨f,o1⟩,B⟩:=aeQ (P:=λk=>0<k/\g^k%d=1) (N-1) ⟨∅,Y⟩;have p:∀q r:Nat,g^(o*q+r)%d=g^r%d:=λq r=>by
  rw[Ba,Bz,oh,BM,o1,Nat.one_pow,one,HY,Jc]
 have t:∀k,g^k%d=1->o∣k:=λk hk=>by
  have e:=uG k o;rw[<-e,p] at hk;by_cases h0:k%o=0;·exact M5 h0
  .exact absurd ⟨∅,hk⟩ (B (k%o) (rD _ f))
 have od:=t _ Y;have l:lW fs∣o:=LC λqe s=>by
  obtain⟨y,⟨c,hc⟩,F⟩:=hq qe s;obtain⟨m,hm⟩:=od;by_cases A:qe.1∣m
  .exfalso;obtain⟨m',hm'⟩:=A;have q0:0<qe.1:=by have:=y.1;omega
   have D:(N-1)/qe.1=o*m':=by
    rw[hm,hm',show o*(qe.1*m')=qe.1*(o*m') by rw[<-vM,wA o,vM],Nat.mul_div_cancel_left _ q0]
   have e1:g^((N-1)/qe.1)%d=1:=by
    have:=p m' 0;rw[vO,xv,one] at this;rw[D];exact this
   have e2:d∣g^((N-1)/qe.1)%N+(N-1):=by
    have e3:(g^((N-1)/qe.1)%N)%d=1:=by rw[HA _ hd];exact e1
    obtain⟨k,hk⟩:=hd;have e4:=uG (g^((N-1)/qe.1)%N) d;rw[e3] at e4;refine⟨(g^((N-1)/qe.1)%N)/d+k,?_⟩;rw[Nat.mul_add,<-hk];omega
   have e5:=Nat.dvd_gcd e2 hd;rw[F] at e5;have:=G4 ∅ e5;omega
  .have cp:=UC (YD y A) qe.2;have v:qe.1^qe.2∣o*m:=⟨c,by rw[<-hm];exact hc⟩;exact cp.dvd_of_dvd_mul_right v
 have x:o<d:=by
  refine qJ λC=>?_;have h:∀i,i<=N-1->(g^i%d)*(g^(N-1-i)%d)%d=1:=λi hi=>by
   rw[<-oh,<-Ba,show i+(N-1-i)=N-1 by omega];exact Y
  have G:o<=N-1:=G4 ∅ od;have pos:∀i,i<o->0<g^i%d:=λi hi=>by
   refine JV λz=>?_;have:=h i ∅;rw[z,Im,Nat.zero_mod] at this;cases this
  obtain⟨i,j,h1,h2,h3⟩:=SR (d-1) (λi=>g^i%d-1) (λi hi=>by
   have a1:=pos i ∅;have a2:=rD (g^i) (show d>0 by omega);omega)
  have pi:=pos i ∅;have pj:=pos j ∅;have e:g^i%d=g^j%d:=∅
  have E:g^j=g^i*g^(j-i):=by rw[<-Ba,show i+(j-i)=j by omega]
  have u:=h i ∅;have k1:g^(j-i)%d=1:=by
   have w:(g^i%d)*(g^(N-1-i)%d)%d*(g^(j-i)%d)%d=(g^j%d)*(g^(N-1-i)%d)%d:=by
    rw[mm3,<-oh (g^j),E]
    congr 1
    rw[vM,vM,wA (g^(N-1-i))]
   rw[u,HY,Jc,<-e,u] at w;exact w
  exact B (j-i) ∅ ⟨∅,k1⟩
 exact yT (G4 f l) x
theorem T8{N g:Nat}(fs:List (Nat×Nat))(hN:2<=N)(h1:g^(N-1)%N=1%N)
  (hq:∀qe∈fs,aN qe.1/\qe.1^qe.2∣N-1/\B2 (g^((N-1)/qe.1)%N+(N-1)) N=1) (I:N<(lW fs+1)*(lW fs+1)):aN N:=by
 refine⟨hN,λd hd=>?_⟩;obtain⟨e,he⟩:=id hd;by_cases d1:d=1;·exact .inl d1
 by_cases e1:e=1;·right;rw[he,e1,Hj]
 exfalso;have d0:d≠0:=λz=>by rw[z,Im] at he;omega
 have O:e≠0:=λz=>by rw[z,xp] at he;omega
 have b1:=SH hN hd ∅ h1 hq;have b2:=SH hN ⟨d,by rw[he,wA]⟩ (show 1<e by omega) h1 hq;have:=vk (show lW fs+1<=d from b1) (show lW fs+1<=e from b2);omega
noncomputable def QV(N g:Nat)(fs:List (Nat×Nat)):Bool:=
 decide (2<=N) && decide (N<2^140) &&(pw N 140 (N-1) g 1%N==1) && fs.all (λqe=>((N-1)%qe.1^qe.2==0) &&(B2 (pw N 140 ((N-1)/qe.1) g 1%N+(N-1)) N==1)) && decide (N<(lW fs+1)*(lW fs+1))
theorem dR{N:Nat}(g:Nat)(fs:List (Nat×Nat))(hp:∀qe∈fs,aN qe.1)(h:QV N g fs=true):aN N:=by
 unfold QV at h;simp only[fQ,decide_eq_true_eq,beq_iff_eq,lU] at h;obtain⟨⟨⟨⟨h1,h2⟩,h3⟩,h4⟩,h5⟩:=h;have P:∀e,e<=N-1->pw N 140 e g 1%N=g^e%N:=λe he=>by
  rw[Rp 140 e g 1 ∅,HY]
 refine T8 (g:=g) fs h1 (by rw[<-P _ (aH _),h3,qC ∅]) (λqe s=>?_) h5;obtain⟨g1,g2⟩:=h4 qe s;refine⟨hp qe s,M5 g1,?_⟩;rw[<-P _ (Nat.div_le_self _ _)];exact g2
def Fo:aN 2:=cQ 4 ⋯ (by decide+kernel)
def Xk:aN 3:=cQ 4 ⋯ (by decide+kernel)
def agx:aN 5:=cQ 5 ⋯ (by decide+kernel)
def FQ:aN 7:=cQ 5 ⋯ (by decide+kernel)
def aau:aN 11:=cQ 6 ⋯ (by decide+kernel)
def Xp:aN 101:=cQ 13 ⋯ (by decide+kernel)
def YV:aN 10007:=cQ 103 ⋯ (by decide+kernel)
def Xi:aN 65537:=cQ 259 ⋯ (by decide+kernel)
def Ve:aN 1000003:=cQ 1003 ⋯ (by decide+kernel)
def Ys:aN 17:=cQ 7 ⋯ (by decide+kernel)
def M2:aN 998244353:=dR 3 [(17,1),(7,1),(2,23)] (λqe h=>by
 simp only[aK,cU,or_false] at h;rcases h with rfl|rfl|rfl
 .exact Ys
 .exact FQ
 .exact Fo) (by decide+kernel)
def aby:aN 148721:=cQ 388 ⋯ (by decide+kernel)
def Vp:aN 500000003:=dR 2 [(148721,1)] (λqe h=>by
 simp only[aK,cU,or_false] at h;subst h;exact aby) (by decide+kernel)
def VG:aN 1000000007:=dR 2 [(500000003,1)] (λqe h=>by
 simp only[aK,cU,or_false] at h;subst h;exact Vp) (by decide+kernel)
def QY:aN 331:=cQ 21 ⋯ (by decide+kernel)
def Oo:aN 151:=cQ 15 ⋯ (by decide+kernel)
def Xd:aN 2147483647:=dR 3 [(331,1),(151,1)] (λqe h=>by
 simp only[aK,cU,or_false] at h;rcases h with rfl|rfl
 .exact QY
 .exact Oo) (by decide+kernel)
def Uw:aN 250049:=cQ 503 ⋯ (by decide+kernel)
def adT:aN 26005097:=dR 2 [(250049,1)] (λqe h=>by
 simp only[aK,cU,or_false] at h;subst h;exact Uw) (by decide+kernel)
def Nw:aN 1000000000039:=dR 2 [(26005097,1)] (λqe h=>by
 simp only[aK,cU,or_false] at h;subst h;exact adT) (by decide+kernel)
def Yn:aN 234931:=cQ 487 ⋯ (by decide+kernel)
def ZI:aN 8740842787:=dR 2 [(234931,1)] (λqe h=>by
 simp only[aK,cU,or_false] at h;subst h;exact Yn) (by decide+kernel)
def afo:aN 52445056723:=dR 2 [(8740842787,1)] (λqe h=>by
 simp only[aK,cU,or_false] at h;subst h;exact ZI) (by decide+kernel)
def Gb:aN 1000000000000000003:=dR 2 [(52445056723,1)] (λqe h=>by
 simp only[aK,cU,or_false] at h;subst h;exact afo) (by decide+kernel)
def UJ:aN 15331:=cQ 126 ⋯ (by decide+kernel)
def WD:aN 2131:=cQ 49 ⋯ (by decide+kernel)
def Uu:aN 5594472617641:=dR 2 [(15331,1),(2131,1)] (λqe h=>by
 simp only[aK,cU,or_false] at h;rcases h with rfl|rfl
 .exact UJ
 .exact WD) (by decide+kernel)
def XQ:aN 18446744073709551557:=dR 2 [(5594472617641,1)] (λqe h=>by
 simp only[aK,cU,or_false] at h;subst h;exact Uu) (by decide+kernel)
def W9:aN 1321:=cQ 39 ⋯ (by decide+kernel)
def Y2:aN 61:=cQ 10 ⋯ (by decide+kernel)
def UL:aN 2305843009213693951:=dR 3 [(1321,1),(331,1),(151,1),(61,1)] (λqe h=>by
 simp only[aK,cU,or_false] at h;rcases h with rfl|rfl|rfl|rfl
 .exact W9
 .exact QY
 .exact Oo
 .exact Y2) (by decide+kernel)
def V6:aN 8707:=cQ 96 ⋯ (by decide+kernel)
def Kj:aN 1913:=cQ 46 ⋯ (by decide+kernel)
def VX:aN 2931542417:=dR 3 [(8707,1),(1913,1)] (λqe h=>by
 simp only[aK,cU,or_false] at h;rcases h with rfl|rfl
 .exact V6
 .exact Kj) (by decide+kernel)
def YT:aN 2113:=cQ 48 ⋯ (by decide+kernel)
def UD:aN 683:=cQ 29 ⋯ (by decide+kernel)
def W8:aN 618970019642690137449562111:=dR 3 [(2931542417,1),(2113,1),(683,1)] (λqe h=>by
 simp only[aK,cU,or_false] at h;rcases h with rfl|rfl|rfl
 .exact VX
 .exact YT
 .exact UD) (by decide+kernel)
def Xx:aN 1097:=cQ 36 ⋯ (by decide+kernel)
def J4:aN 131:=cQ 14 ⋯ (by decide+kernel)
def ZJ:aN 67254877:=dR 2 [(1097,1),(131,1)] (λqe h=>by
 simp only[aK,cU,or_false] at h;rcases h with rfl|rfl
 .exact Xx
 .exact J4) (by decide+kernel)
def Xy:aN 28059810762433:=dR 3 [(67254877,1)] (λqe h=>by
 simp only[aK,cU,or_false] at h;subst h;exact ZJ) (by decide+kernel)
def KZ:aN 53:=cQ 10 ⋯ (by decide+kernel)
def Hc:aN 37:=cQ 9 ⋯ (by decide+kernel)
def XT:aN 13:=cQ 6 ⋯ (by decide+kernel)
def Tb:aN 20394401:=dR 3 [(53,1),(37,1),(13,1)] (λqe h=>by
 simp only[aK,cU,or_false] at h;rcases h with rfl|rfl|rfl
 .exact KZ
 .exact Hc
 .exact XT) (by decide+kernel)
def Xf:aN 162259276829213363391578010288127:=dR 3 [(28059810762433,1),(20394401,1)] (λqe h=>by
 simp only[aK,cU,or_false] at h;rcases h with rfl|rfl
 .exact Xy
 .exact Tb) (by decide+kernel)
def Zx:aN 699053:=cQ 839 ⋯ (by decide+kernel)
def YF:aN 77158673929:=dR 3 [(699053,1)] (λqe h=>by
 simp only[aK,cU,or_false] at h;subst h;exact Zx) (by decide+kernel)
def Z9:aN 649657:=cQ 809 ⋯ (by decide+kernel)
def aev:aN 92737:=cQ 307 ⋯ (by decide+kernel)
def afg:aN 170141183460469231731687303715884105727:=dR 3 [(77158673929,1),(649657,1),(92737,1)] (λqe h=>by
 simp only[aK,cU,or_false] at h;rcases h with rfl|rfl|rfl
 .exact YF
 .exact Z9
 .exact aev) (by decide+kernel)
def Yk:aN 7963:=cQ 92 ⋯ (by decide+kernel)
def adD:aN 3011:=cQ 57 ⋯ (by decide+kernel)
def V1:aN 575438233:=dR 2 [(7963,1),(3011,1)] (λqe h=>by
 simp only[aK,cU,or_false] at h;rcases h with rfl|rfl
 .exact Yk
 .exact adD) (by decide+kernel)
def aeW:aN 52316542391429:=dR 2 [(575438233,1)] (λqe h=>by
 simp only[aK,cU,or_false] at h;subst h;exact V1) (by decide+kernel)
def GH:aN 104633084782859:=dR 2 [(52316542391429,1)] (λqe h=>by
 simp only[aK,cU,or_false] at h;subst h;exact aeW) (by decide+kernel)
def YK:aN 179:=cQ 16 ⋯ (by decide+kernel)
def Zd:aN 31:=cQ 8 ⋯ (by decide+kernel)
def VA:aN 7935071:=dR 2 [(179,1),(31,1)] (λqe h=>by
 simp only[aK,cU,or_false] at h;rcases h with rfl|rfl
 .exact YK
 .exact Zd) (by decide+kernel)
def afj:aN 15870143:=dR 2 [(7935071,1)] (λqe h=>by
 simp only[aK,cU,or_false] at h;subst h;exact VA) (by decide+kernel)
def ZN:aN 401321030361983486780957614729:=dR 2 [(104633084782859,1),(15870143,1)] (λqe h=>by
 simp only[aK,cU,or_false] at h;rcases h with rfl|rfl
 .exact GH
 .exact afj) (by decide+kernel)
def XB:aN 1000000000000000000000000000000000000003:=dR 2 [(401321030361983486780957614729,1)] (λqe h=>by
 simp only[aK,cU,or_false] at h;subst h;exact ZN) (by decide+kernel)
def acu:aN 25733:=cQ 163 ⋯ (by decide+kernel)
def adG:aN 1151:=cQ 36 ⋯ (by decide+kernel)
def Z3:aN 4916701379:=dR 2 [(25733,1),(1151,1)] (λqe h=>by
 simp only[aK,cU,or_false] at h;rcases h with rfl|rfl
 .exact acu
 .exact adG) (by decide+kernel)
def Xl:aN 83:=cQ 12 ⋯ (by decide+kernel)
def aak:aN 23:=cQ 7 ⋯ (by decide+kernel)
def ahz:aN 1676254721:=dR 5 [(83,1),(23,1),(7,3)] (λqe h=>by
 simp only[aK,cU,or_false] at h;rcases h with rfl|rfl|rfl
 .exact Xl
 .exact aak
 .exact FQ) (by decide+kernel)
def PY:aN 149927568276670622397029177:=dR 2 [(4916701379,1),(1676254721,1)] (λqe h=>by
 simp only[aK,cU,or_false] at h;rcases h with rfl|rfl
 .exact Z3
 .exact ahz) (by decide+kernel)
def afz:aN 9999999999999999999999999999999999999983:=dR 2 [(149927568276670622397029177,1)] (λqe h=>by
 simp only[aK,cU,or_false] at h;subst h;exact PY) (by decide+kernel)
end PC
namespace L2
open PC
def gu(p:Int):Prop:=2<=p/\∀d:Int,0<d->d∣p->d=1\/d=p
theorem gk(h:aN n):gu (n:Int):=by
 refine⟨by have:=h.1;omega,λd d0 hd=>?_⟩;obtain⟨k,rfl⟩:=HU (xn d0);rcases h.2 k (Int.natCast_dvd_natCast.mp hd) with e|e
 .left;rw[e];rfl
 .right;rw[e]
theorem V0(h2:2<=p)(h:BI p):gu p:=by
 obtain⟨n,rfl⟩:=HU (show 0<=p by omega);refine gk (QK ∅ λe e1 e2 e3=>?_);refine h (e:Int) ∅ (by rw[<-sk];exact Int.ofNat_le.mpr e2) ?_;have:=congrArg (Nat.cast:Nat->Int) e3;simpa using this
def V2:∀p∈B4,gu p:=by
 intro p hp;simp only[B4,aK,cU,or_false] at hp;rcases hp with rfl|rfl|rfl|rfl|rfl|rfl|rfl|rfl|rfl|rfl|rfl|rfl|rfl|rfl|rfl|rfl|rfl|rfl|rfl|rfl|rfl|rfl
 .exact gk Fo
 .exact gk Xk
 .exact gk agx
 .exact gk FQ
 .exact gk Fo
 .exact gk aau
 .exact gk Xp
 .exact gk YV
 .exact gk Xi
 .exact gk Ve
 .exact gk M2
 .exact gk VG
 .exact gk Xd
 .exact gk Nw
 .exact gk Gb
 .exact gk XQ
 .exact gk UL
 .exact gk W8
 .exact gk Xf
 .exact gk afg
 .exact gk XB
 .exact gk afz
def K5:Sp:=λvs H Q _=>∃p b:Int,vs=[.int p, .int b]/\gu p/\p<10^40/\b%p≠0/\∀u:Int,0<=u->u<p->(∃k,u*b=1+p*k)->Q (.int u) H
def FY:Sp:=λvs H Q _=>∃p a b:Int,vs=[.int p, .int a, .int b]/\gu p/\p<10^40/\b%p≠0/\ -(10^61)<=a/\a<=10^61/\∀x:Int,0<=x->x<p->(∃k,b*x-a=p*k)->Q (.int x) H
end L2
namespace L2
def af.three{a b c:PyData}(h:af nb H [a,b,c] vs):∃x y z,vs=[x,y,z]/\ah nb H a x/\ah nb H b y/\ah nb H c z:=by
 unfold af at h;obtain⟨x,ys,rfl,h1,h⟩:=h;unfold af at h;obtain⟨y,zs,rfl,h2,h⟩:=h;unfold af at h;obtain⟨z,ws,rfl,h3,h⟩:=h;unfold af at h;subst h;exact⟨x,y,z,rfl,h1,h2,h3⟩
def Ev.over(h:Av G ρ t λes=>∃p a b:Int,es.map (·.2)=[.int p, .int a, .int b]/\gu p/\p<10^40/\b%p≠0/\ -(10^61)<=a/\a<=10^61/\∀x:Int,0<=x->x<p->(∃k,b*x-a=p*k)->Φ true (.int x)):
  Ev G ρ (gY FY [] E0 t) Φ:=λnb σ H Q W z=>
 h nb σ H _ W λes vs H1 ⟨p,a,b,e,h1,h2,h3,h4,h5,q⟩ s1 J=>by
  have hd:=J.all (f:=false) (λz=>by cases z);rw[e] at hd;obtain⟨x,y,w,rfl,d1,d2,c⟩:=hd.three;rw[d1.cV,d2.cV,c.cV];exact⟨p,a,b,rfl,h1,h2,h3,h4,h5,λx x1 x2 x3=>z true _ H1 _ (q x x1 x2 x3) s1 (.int x)⟩
theorem Va{a b:Int}(hp:gu p)(h:p∣a*b)(ha:¬p∣a):p∣b:=by
 have p2:=hp.1;have g1:((lM a p:Nat):Int)∣p:=oY ..;have g2:((lM a p:Nat):Int)∣a:=q3 ..;have m:0<((lM a p:Nat):Int):=by
  have:lM a p≠0:=λz=>by have:=(Q6.mp z).2;omega
  omega
 rcases hp.2 _ m g1 with e|e
 .have c:lL p.natAbs a.natAbs:=by
   show B2 p.natAbs a.natAbs=1;have:lM a p=1:=∅
   rw[Nat.gcd_comm];exact this
  have h':p.natAbs∣b.natAbs*a.natAbs:=by rw[wA,<-JU];exact xZ.mpr h
  exact xZ.mp (c.dvd_of_dvd_mul_right h')
 .rw[e] at g2;exact absurd g2 ha
theorem WB{a b:Int}(ha:0<=a)(c:a<p)(hb:0<=b)(m:b<p)(h:p∣a-b):a=b:=by
 obtain⟨k,e⟩:=h;rcases o3 k 0 with z|z|z
 .have:p*k<=p*(-1):=v5 ∅ ∅;omega
 .subst z;omega
 .have:p*1<=p*k:=v5 ∅ ∅;omega
section
variable{X:Cx}{pins:List (ax×Obj)}{σ:List (Option V)}{H:Hp}{s:au}{h':e6}
def Inv.KE{e T:ax}{o:HO}(I:Inv X pins σ H s)(k:∀b u,b≠e->b≠it->s.heap.get? b=some u->h'.get? b=some u)(fe:jG X pins H e)(fi:jG X pins H it)(hT:s.heap.objs.size<=T)(F:T≠e)(L:T≠it)
  (le:∃u,s.heap.get? e=some u) (li:∃u,s.heap.get? it=some u) (new:eE X.prog X.w (upd H T o) h' T o):Inv X pins σ (upd H T o) {s with heap:=h',toks:=t'}:=by
 have hn:=I.hok.fresh hT;obtain⟨O,e1,e2,e3,e4,e5⟩:=fe;obtain⟨t,N,B,A,a,i5⟩:=fi;have ne:∀b u,H b=some u->b≠e:=λb u q z=>by rw[z,O] at q;cases q
 have ni:∀b u,H b=some u->b≠it:=λb u q z=>by rw[z,t] at q;cases q
 have l:∀b u,H b=some u->b≠T:=λb u q z=>by rw[z,hn] at q;cases q
 refine I.step (g':=s.gens) (d':=s.drawn) (ch:=[e,it]) (λb hb=>?_) (λb o _ _ hc q _=>k b o (λz=>hc (by simp[z])) (λz=>hc (by simp[z])) q) (λb o _ _ hc q _=>⟨o.slots,k b o (λz=>hc (by simp[z])) (λz=>hc (by simp[z])) q⟩)
  (λb o hc q n=>?_) (λb o hc q=>⟨o,k b o (λz=>hc (by simp[z])) (λz=>hc (by simp[z])) q⟩) (λb xs q=>by rw[br (l b _ q)];exact q) (λb o u q=>by rw[br (l b _ q)];exact q) (λb ps q=>⟨#[],by rw[br (l b _ q),q];simp⟩) (λm hm=>?_) (λb u q=>?_) I.bare
 .rcases(show b=e\/b=it by simpa using hb) with z|z
  .subst z;exact⟨e3,e1,e4,e5⟩
  .subst z;exact⟨A,N,a,i5⟩
 .rw[br (λz=>absurd (fJ (cD q) (by rw[z];exact hT)) (kE _))];exact n
 .obtain⟨o,es,ep,ho,r⟩:=hm;exact⟨o,es,ep,k _ o (cO e1) (cO N) ho,r⟩
 .by_cases hb:b=T;·subst hb;rw[bB] at q;cases q;exact new
  .rw[br hb] at q;refine(I.hok b u q).stay (λc v hc z=>?_) (λc z=>by rw[br (l c _ z)];exact z) λc xs z=>by rw[br (l c _ z)];exact z
   rcases hc with y|y
   .subst y;exact k _ v (ne _ u q) (ni _ u q) z
   .exact k c v (ne c _ y) (ni c _ y) z
def Inv.agn{e:ax}(I:Inv X pins σ H s)(k:∀b u,b≠e->b≠it->s.heap.get? b=some u->h'.get? b=some u)(fe:jG X pins H e)(fi:jG X pins H it):Inv X pins σ H {s with heap:=h',toks:=t'}:=by
 obtain⟨O,e1,e2,e3,e4,e5⟩:=fe;obtain⟨t,N,B,A,a,i5⟩:=fi;have ne:∀b u,H b=some u->b≠e:=λb u q z=>by rw[z,O] at q;cases q
 have ni:∀b u,H b=some u->b≠it:=λb u q z=>by rw[z,t] at q;cases q
 refine I.step (g':=s.gens) (d':=s.drawn) (ch:=[e,it]) (λb hb=>?_) (λb o _ _ hc q _=>k b o (λz=>hc (by simp[z])) (λz=>hc (by simp[z])) q) (λb o _ _ hc q _=>⟨o.slots,k b o (λz=>hc (by simp[z])) (λz=>hc (by simp[z])) q⟩)
  (λ_ _ _ _ n=>n) (λb o hc q=>⟨o,k b o (λz=>hc (by simp[z])) (λz=>hc (by simp[z])) q⟩) (λ_ _ q=>q) (λ_ _ _ q=>q) (λb ps q=>⟨#[],by rw[q];simp⟩) (λm hm=>?_) (λb u q=>?_) I.bare
 .rcases(show b=e\/b=it by simpa using hb) with z|z
  .subst z;exact⟨e3,e1,e4,e5⟩
  .subst z;exact⟨A,N,a,i5⟩
 .obtain⟨o,es,ep,ho,r⟩:=hm;exact⟨o,es,ep,k _ o (cO e1) (cO N) ho,r⟩
 .refine(I.hok b u q).stay (λc v hc z=>?_) (λc z=>z) λc xs z=>z;rcases hc with y|y
  .subst y;exact k _ v (ne _ u q) (ni _ u q) z
  .exact k c v (ne c _ y) (ni c _ y) z
end
noncomputable def Ck(K:PySem.W.Frag)(a:ax):It:=
 ⟨λi H=>∃xs x,bw K H a xs/\xs[i]?=some x,λi H x H'=>∃p y,x= .ref p/\H p=none/\(∀xs,bw K H a xs->xs[i]?=some y)/\H'=upd H p (.tup [.int i,y]),λi H=>∃xs,bw K H a xs/\xs.length=i⟩
theorem Vi{P:cj}{K:PySem.W.Frag}{g:List eM}{k:Nat}(a e it:ax)(n:e≠it):
  Turn P w K (.Tuple g k pos) (Ck K a) [e,it] e (λi h=>(∃old,IsEnum h e it i old)/\h.IsListIter it a i) where
 mem:=by simp
 obj:=λi h st b hb=>by
  obtain⟨⟨old,s1⟩,⟨o,e1,c,d⟩⟩:=st;rcases(show b=e\/b=it by simpa using hb) with z|z
  .subst z
   exact⟨_,s1,λv z=>by
    have z':y4 _=E6 v:=z;cases z'⟩
  .subst z;exact⟨o,e1,λv z=>by rw[d] at z;cases z⟩
 keep:=λi h h' st k=>⟨let ⟨old,s1⟩:=st.1;⟨old,k e (by simp) _ s1⟩,st.2.at λo q=>k it (by simp) o q⟩
 item:=by
  intro X hP hw hK hc i pins s σ H E I hf st hg;subst hP hw hK;obtain⟨xs,x,hq,hx⟩:=hg;obtain⟨its,rv,p,hz⟩:=I.list hq;obtain⟨u,hu,ru⟩:=rv.get hx;have fe:=hf e (by simp);have fi:=hf it (by simp);obtain⟨⟨old,s1⟩,s2⟩:=st;obtain⟨D,O,G,r⟩:=id p.isList;obtain⟨f,N,B,A⟩:=id s2;have S:a≠e:=λz=>by
   subst z;rw[s1] at O;cases O
   exact absurd G (by simp)
  have m:a≠it:=λz=>by
   subst z;rw[N] at O;cases O
   rw[B] at G;exact absurd G (by simp)
  have W:=q4 (prog:=X.prog) (w:=X.w) (I.ok.hd hc) e it a n S m its.toArray;have hi:i<its.toArray.size:=by
   have:=(bV.mp hu).1;simpa using this
  refine W.item i s _ _ hi ⟨⟨old,s1⟩,s2,p.isList⟩ λT j h' tk hv hT Y4 U kp=>⟨.ref T,rfl,?_⟩;refine W.go g k pos i T _ _ _ U λh'' st' Y=>?_;obtain⟨t,J,M,Q⟩:=hv;have R:J=u:=by
   have:its.toArray[i]?=some u:=by simpa using hu
   rw[M] at this;exact iI this
  subst R Q;have hTw:=W.apart i T h' U;obtain⟨_,_,_,F,L⟩:=U;obtain⟨Z,C,y,l,V⟩:=Y4;have t1':=Y T Z hTw C;refine⟨.ref T,upd H T (.tup [.int i,x]),I.KE (λb v h1 h2 q=>Y b v (by simp[h1,h2]) (kp b v (by simp[h1,h2]) q)) fe fi hT F L ⟨_,s1⟩ ⟨_,N⟩ ?_,rfl,⟨T,x,rfl,I.hok.fresh hT,λys hy=>by rw[I.Mt hy hq];exact hx,rfl⟩,⟨st'.1,st'.2.1⟩,λb hb=>?_⟩;·exact⟨by show 2<=sizeLine;decide,[.int i t,J], .cons ⟨t,rfl⟩ (.cons ru .nil),Z,t1',y,l,V⟩
  .rw[br,(hf b hb).1];rcases(show b=e\/b=it by simpa using hb) with z|z
   .rw[z];exact cO F
   .rw[z];exact cO L
 done:=by
  intro X hP hw hK hc i pins s σ H E I hf st hg;subst hP hw hK;obtain⟨xs,hq,hx⟩:=hg;obtain⟨its,rv,p,hz⟩:=I.list hq;have fe:=hf e (by simp);have fi:=hf it (by simp);obtain⟨⟨old,s1⟩,s2⟩:=st;obtain⟨D,O,G,r⟩:=id p.isList;obtain⟨f,N,B,A⟩:=id s2;have hl:=rv.length;have S:a≠e:=λz=>by
   subst z;rw[s1] at O;cases O
   exact absurd G (by simp)
  have m:a≠it:=λz=>by
   subst z;rw[N] at O;cases O
   rw[B] at G;exact absurd G (by simp)
  have W:=q4 (prog:=X.prog) (w:=X.w) (I.ok.hd hc) e it a n S m its.toArray;have hn:its.toArray.size=i:=by rw[eU];omega
  refine W.done s _ _ (by rw[hn];exact⟨⟨old,s1⟩,s2,p.isList⟩) λh' tk kp=>⟨rfl,?_⟩;exact I.agn (λb v h1 h2 q=>kp b v (by simp[h1,h2]) q) fe fi
 self:=λ_ _ _ _ _ st h=>let ⟨old,s1⟩:=st.1;pa s1 h
def Lf(K:PySem.W.Frag)(tl:TE):TI:=λσ H R=>tl σ H λx H1=>∃a,x= .ref a/\(∃xs,bw K H1 a xs)/\R (Ck K a) H1
def S9{X:Cx}{K:PySem.W.Frag}{g:List eM}{k:Nat}{tpos:Pos}{l:eM}{tl:TE}{p pos:Pos}(c:X.K=K)(hg:Gl X "enumerate")(hm:X.mg "enumerate"=none)(hl:PE X l tl)(hs:c6 [l] X.env=[(false,eval l X.env)]:=by rfl):
    PI X (.Tuple g k tpos) (.Call (.Name "enumerate" p) [l] [] pos) (Lf K tl):=by
  subst c;intro pins s σ H R I h;have ha:PA X [l] (bN tl cI):=aa hl ai (by rw[hs];rfl);refine Call_ (rC I hg hm boot_enumerate (BO (aQ (ha pos pins s σ H (λvs H1=>match vs with|[x]=>∃a,x= .ref a/\(∃xs,bw X.K H1 a xs)/\R (Ck X.K a) H1|_=>False) I h) λus s1 ⟨vs,H1,I1,C,J⟩=>?_) hs rfl));cases C with
  |nil=>exact J.elim
  | cons r d =>
    cases d with
    |cons _ _=>exact J.elim
    |nil=>
    obtain⟨a,e2,⟨xs,hq⟩,q⟩:=J;subst e2;cases r;obtain⟨its,rv,p,hz⟩:=I1.list hq;obtain⟨m,hn,_⟩:=I1.loc;refine enum_rows (h₀:={objs:= #[]}) (L:=X.env.locals) (m:=m) ⟨hn,λb o z=>?_,eT _⟩ p.isList λh' e1 e2 e3 e4 kp ne n1 n2 _ _=>?_;· cases z
    refine pa e1 ?_;have I2:Inv X pins σ H1 {s1 with heap:=h'}:=I1.kept (t':=s1.toks) kp;refine⟨s1.heap.objs.size+1,[s1.heap.objs.size+1,s1.heap.objs.size],_,_,H1,rfl,I2,Vi a _ _ ne,⟨⟨_,e1⟩,e2⟩,λb hb=>?_,q⟩;rcases(show b=s1.heap.objs.size+1\/b=s1.heap.objs.size by simpa using hb) with z|z
    · subst z;exact I1.pR (sf _) (I1.hok.fresh (sf _))
    · subst z;exact I1.pR (aH _) (I1.hok.fresh (aH _))
theorem R.Ug{K:PySem.W.Frag}(Pv:Nat->qr->Hp->Prop)(h0:Pv 0 σ H)(hl:∀i σ H,i<=xs.length->Pv i σ H->bw K H a xs)
  (hs:∀i x σ H p,xs[i]?=some x->Pv i σ H->H p=none->g (.ref p) σ (upd H p (.tup [.int i,x])) λk H2=>tc k H2 λb H3=>if b=true then te k H3 λv H4=>∃ys,H4 acc=some (.lst ys)/\ys.length<sizeLine/\Pv (i+1) k (upd H4 acc (.lst (ys++[v]))) else Pv (i+1) k H3)
  (hd:∀σ H,Pv xs.length σ H->d H):pB (Ck K a) g tc te acc d σ H:=by
 refine⟨λi m σ H=>m=xs.length-i/\i<=xs.length/\Pv i σ H,⟨xs.length,by simp,eT _,h0⟩,?_⟩;rintro i m σ H ⟨rfl,hi,p⟩;have q:=hl i σ H hi p;by_cases hlt:i<xs.length
 .refine .inr ⟨⟨xs,xs[i],q,by simp[hlt]⟩,Pv (i+1),λL H' j=>⟨xs.length-(i+1),∅,rfl,hlt,j⟩,λx H' y=>?_⟩;obtain⟨pp,y,e,hn,hy,e2⟩:=y;subst e e2;exact hs i y σ H pp (hy xs q) p hn
 .have e:i=xs.length:=∅
  subst e;exact .inl ⟨⟨xs,q,rfl⟩,hd σ H p⟩
section
variable{G:Gx}{ρ bM:Rh}{te:TE}{s:TS}{gt:TG}{E:DE}{K:PySem.W.Frag}{Θ:Bool->List PyData->Prop}{tc:TT}{mp:List (Option Nat)}
theorem aq.P8(hm:(mp.filterMap id).Nodup)(r:lz mp ρ=bM)(h:Ev G ρ t0 λfi x=>∃es,x= .list es/\es.length<=10000/\∀v,iH (G.hd fi (.list es) v) bM es.length (λi d=>∃e,es[i]?=some e/\d= .tuple [.int i,e]) fi gt tc te Θ):aq G ρ (jW (Lf K t0) gt tc te mp) Θ:=λnb σ H Q W z=>
 h nb σ H _ W λfi v H1 x ⟨es,ex,hn,q⟩ s1 hv=>by
  subst ex;obtain⟨fl,I,h0,ht,he⟩:=q v;have W0:=(W.step s1).hd hv;obtain⟨a,xs,rfl,n,hx,hd⟩:=hv.dZ;refine⟨a,rfl,⟨xs, .of hx⟩,λacc g=>?_⟩;have t:Wd (G.hd fi (.list es) (.ref a)) nb bM (L2.fV mp σ) H1:=by rw[<-r];exact W0.fV hm
  have W1:=t.more g (o:= .lst []);have hN:=NB.new s1.2 g;have hno:=rJ t g;have aA:Step G.B H1 (upd H1 acc (.lst [])):= .same s1.2 (dw g);have A:NB G.B a:=jm λz=>n (.inr (.inr (.inl z)));refine R.Ug (xs:=xs) (λi σ H=>∃ds ys,Wd (G.hd fi (.list es) (.ref a)) (λx=>nb x\/x=acc) bM σ H/\Step G.B H1 H/\H acc=some (.lst ys)/\af (G.S (λx=>nb x\/x=acc) fl) H ds ys/\ds.length<=i/\I i ds/\H a=some (.lst xs)) ⟨[],[],W1,aA,bB, .nil,aH _,h0,aA.1 _ _ A hx⟩ ?_ ?_ ?_
  .rintro i σ H hi ⟨ds,ys,W,st,_,_,_,_,ha⟩;exact .of ha
  .rintro i x σ H p hi ⟨ds,ys,W,st,hy,j,hl,hI,ha⟩ hp;obtain⟨w,l,e',_,h',d'⟩:=W.nL.2.dZ;cases e';rw[ha] at h';cases h'
   have hil:i<es.length:=by have:=(bV.mp hi).1;have:=d'.length;omega
   obtain⟨J,M,dx⟩:=d'.get (aS hil);rw[hi] at M;cases M
   have st2:Step (G.hd fi (.list es) (.ref a)).B H (upd H p (.tup [.int i,x])):= .same W.az (dw hp);have hap:acc≠p:=λz=>by subst z;rw[hp] at hy;cases hy
   have b:a≠p:=λz=>by subst z;rw[hp] at ha;cases ha
   refine tQ (G:=G.hd fi (.list es) (.ref a)) hn hil (W.step st2) (.inr rfl) hN hno (st.trans st2) g (by rw[br hap];exact hy) (j.keep st2.dX) hl (.tup (W.fresh hp) bB (.cons (.int _) (.cons (dx.keep st2.dX) .nil))) (ht i _ ds ⟨_,aS hil,rfl⟩ hl hI) λL H' k l W' st' M j hl' s=>⟨k,l,W',st',M,j,hl',s,st'.1 _ _ A hx⟩
  .rintro σ H' ⟨ds,ys,W',st,hy,j,hl,hI,_⟩;rw[hd.length] at hl hI;exact vA W s1 g st hy j (he ds hl hI) z
end
def NR(ρ:Rh)(a:ax):Prop:=∃(i:Nat) (f:Bool) (ds:List PyData),ρ[i]?=some (.own a f ds)
def kg(G:Gx)(ρ:Rh)(ta:TA)(Φ:List PyData->Prop):Prop:=∀nb σ H (Q:List V->Hp->Prop),Wd G nb ρ σ H->(∀ds vs H',Φ ds->Step G.B H H'->af (λc=>G.S nb false c/\¬NR ρ c) H' ds vs->Q vs H')->ta σ H Q
section
variable{G:Gx}{ρ:Rh}{Φ:Pd}{te:TE}{t:TA}{i n:Nat}{f:Bool}{ds:List PyData}{Θ:List PyData->Prop}
theorem kg.nil(h:Θ []):kg G ρ cI Θ:=λnb σ H Q W z=>z [] [] H h (.refl W.az) .nil
theorem kg.cons(h:Ev G ρ te λ_ d=>kg G ρ t λds=>Θ (d::ds)):kg G ρ (bN te t) Θ:=λnb σ H Q W z=>
 h nb σ H _ W λf v H1 d j s1 J=>j nb σ H1 _ (W.step s1) λds vs H2 p2 s2 q2=>z _ _ H2 p2 (s1.trans s2) (.cons ((J.keep s2.dX).av λc hc=>cW (λz=>by cases z) (λ_ z=>z) c hc.1) q2)
theorem kg.own{a:ax}(e:ρ[i]?=some (.own a f ds))(h:kg G ρ t λes=>Θ (.list ds::es)):kg G ρ (bN (dD i) t) Θ:=λnb σ H Q W z=>by
 obtain⟨x,e1,h1,h2,h3,xs,hx,hd⟩:=W.ok i _ e;subst h1;refine⟨.ref a,e1,h nb σ H _ W λes vs H1 p s1 J=>z _ _ H1 p s1 (.cons ?_ J)⟩;exact .lst (λhc=>hc.2 ⟨i,f,ds,e⟩) (s1.1 _ _ h3 hx) ((hd.keep s1.dX).av λc hc=>cW (λz=>by cases z) (λ_ z=>z) c hc.1)
def Ev.KA{F:DF}(hm:bW F)(h:kg G ρ t λds=>ds.length=n/\F ds λf d=>(f=true\/iV d=true)/\Φ true d):Ev G ρ (gY (aM n F) [] E0 t) Φ:=λnb σ H Q W z=>
 h nb σ H _ W λds vs H1 ⟨hl,p⟩ s1 J=>by
  have W1:=W.step s1;rw[fW];refine⟨by rw[J.length,hl],λc=>G.S nb false c/\¬NR ρ c,ds,λc hc=>W1.gF c hc.1,J,hm _ _ _ p λf d hp v H' sm hd=>?_⟩;obtain⟨hf,q⟩:=hp;rcases hf with rfl|hs
  .exact z true v H' d q (s1.trans (.same W1.az sm)) (hd.av λa b=> .inr ⟨rfl,W1.gF a b⟩)
  .exact z true v H' d q (s1.trans (.same W1.az sm)) (hd.jj hs)
theorem Ev.ad6(h:Ev G ρ te λ_ x=>∃n:Int,x= .int n/\2<=n/\n<=10002/\∀r:Int,gu r->r<10^40->Φ true (.int r)):Ev G ρ (gY Gr [] E0 (bN te cI)) Φ:=λnb σ H Q W z=>
 h nb σ H _ W λf v H1 d ⟨n,e,h1,h2,p⟩ s1 hv=>by
  subst e;exact⟨n,by rw[hv.cV];rfl,h1,h2,λr H' sm C Y g=>z true _ H' _ (p r (V0 C g) ∅) (s1.trans (.same (W.step s1).az sm)) (.int r)⟩
theorem Ev.str{x:Str}(h:Φ true (.str x)):Ev G ρ (tC (.str x)) Φ:=λnb σ H Q W z=>z true _ H _ h (.refl W.az) (by unfold ah;rfl)
end
theorem Eu.fin{b L lt t:Int}(h:Eu p b L lt 0 t)(hp:gu p)(hb:b%p≠0):∃k,lt%p*b=1+p*k:=by
 obtain⟨g1,g2⟩:=h.dv L (Int.dvd_refl L) (Int.dvd_zero L);have m1:=i7 b (show p≠0 by have:=hp.1;omega);have m2:=iY b (show 0<p by have:=hp.1;omega);have J:L=1:=by
  rcases hp.2 L h.l0 g1 with e|e
  .exact e
  .exfalso;rw[e] at g2;have:=Ej ∅ g2;omega
 obtain⟨k,hk⟩:=h.lc;have e:=mD lt p;refine⟨-k-lt/p*b,?_⟩;have e2:lt%p=lt-p*(lt/p):=∅
 rw[e2,zC,m8,Bh,ki];omega
noncomputable def sol(p b a:Int):Int:=open Classical in if h:∃x,0<=x/\x<p/\∃k,b*x-a=p*k then q5 h else 0
theorem JB{b a x:Int}(hp:gu p)(hb:b%p≠0)(h0:0<=x)(h1:x<p)(hx:∃k,b*x-a=p*k):x=sol p b a:=by
 have ex:∃x,0<=x/\x<p/\∃k,b*x-a=p*k:=⟨x,h0,h1,hx⟩;unfold sol;rw[dif_pos ex];obtain⟨m,g1,k',c⟩:=LK ex;generalize q5 ex=y at*;obtain⟨k,hk⟩:=hx;refine WB h0 h1 m g1 (Va hp (a:=b) ⟨k-k',?_⟩ λz=>hb (Ls z));rw[m8,m8];omega
theorem GC{b a:Int}(hp:0<p):0<=sol p b a/\sol p b a<p:=by
 unfold sol;split
 .rename_i h
  obtain⟨m,g1,_⟩:=LK h;exact⟨m,g1⟩
 .omega
noncomputable def dz(wd:Wo)(prs:ao):ao:=prs.filter λpr=>wd[pr.1.toNat]?==some none
def yS:dz wd (prs++[pr])=if wd[pr.1.toNat]?=some none then dz wd prs++[pr] else dz wd prs:=by
 unfold dz;rw[sA];by_cases c:wd[pr.1.toNat]?=some none;·rw[if_pos c,tK (by rw[c];rfl)];rfl
 .rw[if_neg c,qY (by simpa using c)];simp
noncomputable def dU(p:Int)(prs:ao)(rest:Int)(wd:Wo):Option (Int×Int):=match dz wd prs with
 |[pr]=>some (pr.1,sol p pr.2 (rest-aT prs wd%p))
 |_=>none
noncomputable def vW:Option (Int×Int)->PyData
 |none=> .none
 |some pr=>F1 pr
noncomputable def gh(wd:Wo):List Int:=((cv wd.length).filter λi=>wd[i]?==some none).map λ(i:Nat)=>(i:Int)
def Dy(p:Int)(prs:ao):Prop:=∀pr∈prs,pr.2%p≠0
def fG(p:Int)(cs:List ao)(m:Nat):Prop:=gu p/\p<10^40/\cs.length<=1000/\∀prs∈cs,prs.length<=1000/\nX prs m/\Dy p prs
theorem fG.at{c:Int}(h:fG p cs m)(h0:0<=c)(h1:c<cs.length):∃prs,cs[c.toNat]?=some prs/\cs.getD c.toNat []=prs/\prs.length<=1000/\nX prs m/\Dy p prs:=by
 have hc:c.toNat<cs.length:=∅
 refine⟨cs[c.toNat],aS hc,?_,h.2.2.2 _ (fU hc)⟩;rw[i9,aS hc];rfl
noncomputable abbrev bK:=Int×Int×Int
noncomputable abbrev kj(m:bK):PyData:= .tuple [.int m.1, .int m.2.1, .int m.2.2]
noncomputable def qK(p:Int)(cs:List ao)(wd:Wo)(m:bK):PyData:=
 if m.2.1<0\/(cs.length:Int)<=m.2.1 then .str "check" else match dU p (cs.getD m.2.1.toNat []) 0 wd with
 |none=> .str "place"
 |some (a,x)=>if a≠m.1 then .str "place" else if x≠m.2.2 then .str "letter" else .none
noncomputable def FV(wd:Wo)(ms:List bK):Wo:=ms.foldl (λw m=>w.set m.1.toNat (some m.2.2)) wd
def F3{ms:List bK}{m:bK}:FV wd (ms++[m])=(FV wd ms).set m.1.toNat (some m.2.2):=by
 unfold FV;rw[pb];rfl
def Py(p:Int)(cs:List ao)(wd:Wo)(ms:List bK)(j:Nat):Prop:=∃m,ms[j]?=some m/\qK p cs (FV wd (ms.take j)) m= .none
noncomputable def outs(p:Int)(cs:List ao)(w:Wo):List Nat:=(cv cs.length).filter λc=>(dU p (cs.getD c []) 0 w).isSome
def vm(h:pr∈dz wd prs):pr∈prs/\wd[pr.1.toNat]?=some none:=by
 unfold dz at h;have:=jw.mp h;exact⟨this.1,by simpa using this.2⟩
def vD{rest:Int}{a x:Int}(hp:0<p)(h:dU p prs rest wd=some (a,x)):∃pr∈prs,pr.1=a/\wd[a.toNat]?=some none/\0<=x/\x<p:=by
 unfold dU at h;split at h
 .rename_i pr e
  cases h;have:=vm (wd:=wd) (prs:=prs) (pr:=pr) (by rw[e];simp);exact⟨pr,this.1,rfl,this.2,GC hp⟩
 .cases h
theorem Iv{m:bK}(hN:fG p cs wd.length)(hW:dN wd)(h:qK p cs wd m= .none):0<=m.1/\m.1<wd.length/\0<=m.2.2/\m.2.2<p/\0<=m.2.1/\m.2.1<cs.length:=by
 have p2:=hN.1.1;unfold qK at h;split at h;·cases h
 rename_i c
 have c1:0<=m.2.1:=∅
 have c2:m.2.1<cs.length:=∅
 split at h;·cases h
 rename_i a x e
 split at h;·cases h
 rename_i L
 split at h;·cases h
 rename_i o
 have L:a=m.1:=∅
 have o:x=m.2.2:=∅
 obtain⟨prs,e1,e2,e3,e4,e5⟩:=hN.at c1 c2;rw[e2] at e;obtain⟨pr,g1,g2,N,g,g5⟩:=vD ∅ e;have:=e4 pr g1;omega
def Et{k:Int}(h0:0<=k)(h1:k<n):iR n k=some k.toNat:=by
 unfold iR;rw[if_pos h0,if_pos h1]
def ie{ms:List bK}:(FV wd ms).length=wd.length:=by
 unfold FV;induction ms generalizing wd with
 |nil=>rfl
 |cons m r ih=>rw[tj,ih,jx]
def dN.put{k:Nat}{x:Int}(h:dN wd)(hx:Sm x):dN (wd.set k (some x)):=λy hy=>by
 rcases G5 hy with z|z
 .exact h y z
 .cases z;exact hx
theorem Jk{p:Int}{cs:List ao}{wd:Wo}{ms:List bK}(hN:fG p cs wd.length)(hW:dN wd):∀{i:Nat},(∀j<i,Py p cs wd ms j)->dN (FV wd (ms.take i))
  |0,_=>by simpa[FV] using hW
  | i + 1, h => by
    have ih:=Jk hN hW (i:=i) λj hj=>h j ∅;obtain⟨m,e1,e2⟩:=h i ∅;rw[FX e1,F3];have p2:=hN.1.1;have qZ:=hN.2.1;have:=Iv (by rw[ie];exact hN) ih e2;exact ih.put (by unfold Sm;omega)
def dh{K:PySem.W.Frag}{l:eM}(c:X.K=K)(hl:PE X l tl):PI X tg l (oU K tl):=by subst c;exact KY hl
def lK(p:Int)(cs:List ao)(wd:Wo)(ms:List bK):Prop:=∀j<ms.length,Py p cs wd ms j
theorem yH{m:bK}(h:qK p cs wd m= .none):0<=m.2.1/\m.2.1<cs.length/\dU p (cs.getD m.2.1.toNat []) 0 wd=some (m.1,m.2.2):=by
 unfold qK at h;split at h;·cases h
 rename_i c
 split at h;·cases h
 rename_i a x e
 split at h;·cases h
 rename_i L
 split at h;·cases h
 rename_i o
 have L:a=m.1:=∅
 have o:x=m.2.2:=∅
 subst L o;exact⟨∅,∅,e⟩
def Ei{a x:Int}(h:dU p prs 0 wd=some (a,x)):∃pr,dz wd prs=[pr]/\pr.1=a/\x=sol p pr.2 (0-aT prs wd%p):=by
 unfold dU at h;split at h
 .rename_i pr e
  cases h;exact⟨pr,e,rfl,rfl⟩
 .cases h
theorem Uq{a c x:Int}(h0:0<=c)(h1:c<cs.length)(h:dU p (cs.getD c.toNat []) 0 wd=some (a,x)):qK p cs wd (a,c,x)= .none:=by
 unfold qK;rw[if_neg (by show¬(c<0\/(cs.length:Int)<=c);omega)];show(match dU p (cs.getD c.toNat []) 0 wd with|none=>_|some (w,x')=>_)=_;rw[h];simp
noncomputable def cnt(wd:Wo):Nat:=wd.countP λo=>o.isNone
theorem Lx:∀{wd:Wo} {k:Nat} {x:Int},wd[k]?=some none->cnt (wd.set k (some x))+1=cnt wd
  |[],k,x,h=>by simp at h
  | o :: wd, 0, x, h => by
    simp at h;subst h;simp[cnt]
  | o :: wd, k + 1, x, h => by
    have ih:=Lx (wd:=wd) (k:=k) (x:=x) (by simpa using h);unfold cnt at ih⊢;rw[List.set_cons_succ,q7,q7];omega
theorem xm{p:Int}{cs:List ao}{wd:Wo}{ms:List bK}(hp:0<p)(h1:lK p cs wd ms):∀j,j<=ms.length->cnt (FV wd (ms.take j))+j=cnt wd
  |0,_=>by simp[FV]
  | j + 1, hj => by
    have ih:=xm hp h1 j ∅;obtain⟨m,e1,e2⟩:=h1 j ∅;rw[FX e1,F3];obtain⟨c0,c1,e3⟩:=yH e2;obtain⟨pr,g1,g2,N,_⟩:=vD hp e3;have:=Lx (x:=m.2.2) N;omega
def DP(wd:Wo):cnt wd<=wd.length:=List.countP_le_length
def Agree(os:List Int)(wd:Wo):Prop:=∀(i:Nat) (x:Int),wd[i]?=some (some x)->os[i]?=some x
theorem Qo{os:List Int}{wd:Wo}(hl:wd.length=os.length)(ha:Agree os wd):∀{prs:ao},(∀pr∈prs,0<=pr.1/\pr.1<wd.length)->
    aT prs (os.map some)=aT prs wd+((dz wd prs).map λq=>q.2*os.getD q.1.toNat 0).sum
  |[],_=>by simp[aT,dz]
  | pr :: prs, h => by
    have ih:=Qo hl ha (prs:=prs) λq hq=>h q (cF _ hq);obtain⟨h0,h1⟩:=h pr (cP ..);have k1:pr.1.toNat<wd.length:=∅
    have k2:pr.1.toNat<os.length:=∅
    rw[tP,tP,ih,AU (w:=os) (aS k2)];have a:os.getD pr.1.toNat 0=os[pr.1.toNat]:=by rw[i9,aS k2];rfl
    cases e:wd[pr.1.toNat] with
    | none =>
      have e2:wd[pr.1.toNat]?=some none:=by rw[aS k1,e]
      have e3:dz wd (pr::prs)=pr::dz wd prs:=by unfold dz;rw[tK (by rw[e2];rfl)]
      have e4:iS wd pr=0:=by unfold iS;rw[e2]
      rw[e3,aZ,rV,e4,a];omega
    | some x =>
      have e2:wd[pr.1.toNat]?=some (some x):=by rw[aS k1,e]
      have e3:dz wd (pr::prs)=dz wd prs:=by unfold dz;rw[qY (by rw[e2];simp)]
      have e4:iS wd pr=pr.2*x:=by unfold iS;rw[e2]
      have e5:=ha _ _ e2;rw[aS k2] at e5;cases e5;rw[e3,e4];omega
theorem Tp{p:Int}{cs:List ao}{wd:Wo}{ms:List bK}{os:List Int}(hN:fG p cs wd.length)(hl:wd.length=os.length)(t:∀x∈os,0<=x/\x<p)(ht:∀prs∈cs,aT prs (os.map some)%p=0)(ha:Agree os wd)(h1:lK p cs wd ms):
    ∀j,j<=ms.length->Agree os (FV wd (ms.take j))
  |0,_=>by simpa[FV] using ha
  | j + 1, hj => by
    have ih:=Tp hN hl t ht ha h1 j ∅;obtain⟨m,e1,e2⟩:=h1 j ∅;rw[FX e1,F3];obtain⟨c0,c1,e3⟩:=yH e2;obtain⟨prs,g1,g2,N,g,g5⟩:=hN.at c0 c1;rw[g2] at e3;obtain⟨pr,e4,e5,d⟩:=Ei e3;have y:prs∈cs:=bP g1;have C:(FV wd (ms.take j)).length=wd.length:=ie;have hd:=Qo (by rw[C];exact hl) ih (prs:=prs) λq hq=>by rw[C];exact⟨(g q hq).1,(g q hq).2.1⟩
    have b:pr∈prs:=(vm (wd:=FV wd (ms.take j)) (by rw[e4];simp)).1;have k2:pr.1.toNat<os.length:=by have:=g pr b;omega
    rw[e4] at hd;simp only[aZ,jU,rV,List.sum_nil,xI] at hd;have a:os.getD pr.1.toNat 0=os[pr.1.toNat]:=by rw[i9,aS k2];rfl
    rw[a] at hd;have ho:=t _ (fU k2);have hz:=ht prs y;have p2:=hN.1.1;have es:os[pr.1.toNat]=sol p pr.2 (0-aT prs (FV wd (ms.take j))%p):=by
      refine JB hN.1 (g5 pr b) ho.1 ho.2 ?_;have d1:=mD (aT prs (FV wd (ms.take j))) p;have d2:=mD (aT prs (os.map some)) p;generalize aT prs (FV wd (ms.take j))=S at*;generalize aT prs (os.map some)=T at*;generalize os[pr.1.toNat]=o at*;refine⟨T/p-S/p,?_⟩;rw[m8];omega
    intro i x hx;by_cases c:m.1.toNat=i
    · subst c
      have hk:m.1.toNat<(FV wd (ms.take j)).length:=by
        rw[C,hl,<-e5];exact k2
      rw[dB hk] at hx;cases hx;rw[<-e5,aS k2,es,d]
    · rw[bO c] at hx
      exact ih i x hx
section
variable{G:Gx}{ρ:Rh}{Φ:Pd}{ta tb te:TE}{E:DE}{K:PySem.W.Frag}
def Ev.Pu{b:Bool}(h:Ev G ρ ta λ_ x=>∃o:Option Int,x=bJ o/\Ev G ρ tb λ_ y=>∃wd:Wo,y=bI wd/\Φ true (.bool (decide (o∈wd) !=b))):Ev G ρ (dP (oS K b) ta tb) Φ:=λnb σ H Q W z=>
  h nb σ H _ W λf v H1 d ⟨o,e,q⟩ s1 hv=>q nb σ H1 _ (W.step s1) λg u H2 d2 ⟨wd,e2,p⟩ s2 hu=>by
    subst e e2;have hk:v=kI o:=by
      cases o with
      |none=>unfold bJ ah at hv;exact hv
      |some x=>exact hv.cV
    subst hk;obtain⟨a,xs,rfl,na,hx,hd⟩:=hu.dZ;have ex:=IJ hd;subst ex;refine⟨a,wd.map kI,rfl, .inl (.of hx),by cases o<;>rfl,?_,?_⟩
    · rw[lU]
      intro x hx;obtain⟨o',_,rfl⟩:=bH.mp hx;cases o'<;>rfl
    · have e:jJ (kI o) (wd.map kI)=decide (o∈wd):=by
        unfold jJ;rw[Dm,lq,rL,decide_eq_true_eq];constructor
        · rintro⟨o',m,h⟩
          have:o'=o:=by
            cases o' with
            | none => cases o with
              |none=>rfl
              |some x=>cases h
            | some y => cases o with
              |none=>cases h
              |some x=>exact congrArg some (eq_of_beq h)
          exact this▸m
        · intro m
          refine⟨o,m,?_⟩;cases o with
          |none=>rfl
          |some x=>exact beq_self_eq_true x
      have e2:(if b=true then !jJ (kI o) (wd.map kI) else jJ (kI o) (wd.map kI))=(decide (o∈wd) !=b):=by
        rw[e];cases b<;>simp
      rw[e2];exact z true _ H2 _ p (s1.trans s2) (.bl _)
end
noncomputable def yU(es:List Fd):Bool:=es.all λe=>e.1||iV e.2
section
variable{G:Gx}{ρ:Rh}{Φ:Pd}{t:TA}{te:TE}
theorem lg.MH{nb:ax->Prop}{H:Hp}:∀{es:List Fd} {vs:List V} {f:Bool},lg G nb H es vs->(f=true->yU es=true)->af (G.S nb f) H (es.map (·.2)) vs
  |[],_,_,h,_=>by unfold lg at h;subst h;exact .nil
  | e :: es, _, f, h, hf => by
    obtain⟨v,ws,rfl,h1,h2⟩:=h;have L:f=true->(e.1||iV e.2)=true/\yU es=true:=λz=>by
      have:=hf z;unfold yU at this;rw[oJ,fQ] at this;exact this
    refine .cons ?_ (h2.MH λz=>(L z).2);cases hs:iV e.2 with
    |true=>exact h1.jj hs
    |false=>exact h1.av (cW (λz=>by have:=(L z).1;rw[hs,tU] at this;exact this) λ_ z=>z)
def Ev.T6(h:Av G ρ t λes=>es.length<=10000/\Φ (yU es) (.tuple (es.map (·.2)))):Ev G ρ (qQ t) Φ:=λnb σ H Q W z=>
 h nb σ H _ W λes vs H1 ⟨hl,p⟩ s1 J=>⟨eu (by rw[J.len];exact hl) ⋯,λa ha=>z _ _ _ _ p (s1.trans (.same (W.step s1).az (dw ha)))
  (.tup ((W.step s1).fresh ha) bB ((J.MH λz=>z).keep (bu.of (dw ha))))⟩
end
section
variable{κ:Type}[DecidableEq κ]
noncomputable def iU(kvs:List (κ×V))(k:κ):Option V:=(kvs.find? λa=>decide (a.1=k)).map (·.2)
noncomputable def putK(kvs:List (κ×V))(k:κ)(v:V):List (κ×V):=
 if(kvs.any λa=>decide (a.1=k))=true then kvs.map (λa=>if a.1=k then(a.1,v) else a) else kvs++[(k,v)]
def Vn{k:κ}:iU ([]:List (κ×V)) k=none:=rfl
def AB{p:κ×V}{r:List (κ×V)}{k:κ}(e:p.1=k):iU (p::r) k=some p.2:=by simp[iU,o9,e]
def BK{p:κ×V}{r:List (κ×V)}{k:κ}(e:¬p.1=k):iU (p::r) k=iU r k:=by simp[iU,o9,e]
theorem D5(k:κ):∀kvs:List (κ×V),(kvs.any λa=>decide (a.1=k))=(iU kvs k).isSome
  |[]=>rfl
  | p :: r => by
    rw[sD];by_cases e:p.1=k;· simp only[AB e,decide_eq_true e,wu,Option.isSome_some]
    · rw[BK e,decide_eq_false e,vX];exact D5 k r
theorem Zn(kvs:List (κ×V))(k:κ)(v:V):(putK kvs k v).length<=kvs.length+1:=by
 unfold putK;split;·rw[ak];omega
 .rw[cH,cZ,Jb];omega
def jD.AH{o:Option V}{u:Option ar}(r:jD o u):o.isSome=u.isSome:=by
  cases o with
  | none => cases u with
    |none=>rfl
    |some _=>exact(show False from r).elim
  | some _ => cases u with
    |none=>exact(show False from r).elim
    |some _=>rfl
def KV.val{kvs:List (κ×V)}{vs:List (κ×ar)}(r:KV kvs vs)(k:κ):jD (iU kvs k) (pe vs k):=by
  unfold KV at r;induction r with
  |nil=>exact fH
  | @cons p q ps c h t ih =>
    obtain⟨h1,h2⟩:=h;by_cases e:p.1=k
    · have e':q.1=k:=h1.symm.trans e
      have b:pe (q::c) k=some q.2:=by simp[pe,o9,e']
      rw[AB e,b];exact h2
    · have e':¬q.1=k:=λz=>e (h1.trans z)
      have b:pe (q::c) k=pe c k:=by simp[pe,o9,e']
      rw[BK e,b];exact ih
theorem KV.any{kvs:List (κ×V)}{vs:List (κ×ar)}(r:KV kvs vs)(k:κ):(kvs.any λa=>decide (a.1=k))=vs.any λa=>decide (a.1=k):=by
 unfold KV at r;induction r with
 |nil=>rfl
 |cons h t ih=>rw[sD,sD,ih,h.1]
def KV.repl{kvs:List (κ×V)}{vs:List (κ×ar)}(r:KV kvs vs)(k:κ){y:V}{u:ar}(m:RelV y u):
    KV (kvs.map λa=>if a.1=k then(a.1,y) else a) (vs.map λa=>if a.1=k then(a.1,u) else a):=by
  unfold KV at r⊢;induction r with
  |nil=>exact .nil
  | @cons p q ps c h t ih =>
    rw[aZ,aZ];refine .cons ?_ ih;obtain⟨h1,h2⟩:=h;by_cases e:p.1=k;· rw[if_pos e,if_pos (h1.symm.trans e)];exact⟨h1,m⟩
    · rw[if_neg e,if_neg (λz=>e (h1.trans z))];exact⟨h1,h2⟩
def KV.put{kvs:List (κ×V)}{vs:List (κ×ar)}(r:KV kvs vs)(k:κ){y:V}{u:ar}(m:RelV y u):KV (putK kvs k y) (stored vs k u):=by
 unfold putK stored;rw[r.any k];by_cases e:(vs.any λa=>decide (a.1=k))=true;·rw[if_pos e,if_pos e];exact r.repl k m
 .rw[if_neg e,if_neg e];exact Paired.snoc r ⟨rfl,m⟩
def KV.keys{kvs:List (κ×V)}{vs:List (κ×ar)}(r:KV kvs vs):kvs.map (·.1)=vs.map (·.1):=by
 unfold KV at r;induction r with
 |nil=>rfl
 |cons h t ih=>rw[aZ,aZ,ih,h.1]
theorem KV.length{kvs:List (κ×V)}{vs:List (κ×ar)}(r:KV kvs vs):kvs.length=vs.length:=Paired.length r
end
def uE{P:cj}{k:Key}(r:RelV (kV k) u):(jr P w).is k u=true:=by
 cases k with
 |inl i=>obtain⟨t,e⟩:=(show∃t,u=me i t from r);subst e;exact acF P w i t
 |inr x=>obtain⟨t,e⟩:=(show∃t,u=m3 x t from r);subst e;exact PQ P w x t
theorem SM{P:cj}{w:dc}:∀{ks:List Key} {us:List ar},Vals (ks.map kV) us->ItemsAre (jr P w) ks us
  |[],_,r=>by rw[jU] at r;cases r;exact .nil
  | k :: ks, _, r => by
    rw[aZ] at r;cases r with
    |cons h t=>exact .cons (uE h) (SM t)
abbrev KT(H:Hp):List (List Key×V)->List (List Key×ax×ar)->Prop:=Paired λp q=>p.1=q.1/\H q.2.1=some (.tup (p.1.map kV))/\RelV p.2 q.2.2
def KT.val{kvs:List (List Key×V)}{xs:List (List Key×ax×ar)}(r:KT H kvs xs)(k:List Key):jD (iU kvs k) ((Fy xs k).map (·.2)):=by
  induction r with
  |nil=>exact fH
  | @cons p q ps c h t ih =>
    obtain⟨h1,_,h2⟩:=h;by_cases e:p.1=k
    · have e':q.1=k:=h1.symm.trans e
      have b:Fy (q::c) k=some q.2:=by simp[Fy,o9,e']
      rw[AB e,b];exact h2
    · have e':¬q.1=k:=λz=>e (h1.trans z)
      have b:Fy (q::c) k=Fy c k:=by simp[Fy,o9,e']
      rw[BK e,b];exact ih
section
variable{P:cj}{w:dc}{H:Hp}{h:e6}{a:ax}
def Mr{u:HO}(ok:ez P w H h)(e:Rd H a u):eE P w H h a u:=e.ok ok
def qN(ok:ez P w H h)(e:Rd H a (.dK kvs)):kvs.length<=sizeLine/\(a==fD)=false/\∃vs,KV kvs vs/\h.DictOf (jr P w) a vs:=
 show eE P w H h a (.dK kvs) from Mr ok e
def aaR(ok:ez P w H h)(e:H a=some (.dK kvs)):kvs.length<=sizeLine/\(a==fD)=false/\∃vs,KV kvs vs/\h.DictOf (jr P w) a vs:=qN ok (.inl e)
def Gs{ks:List Key}(ok:ez P w H h)(e:H a=some (.tup (ks.map kV))):(rz (jr P w)).is h ks a:=by
 obtain⟨_,its,r,o,h1,h2,n,h3⟩:=(show eE P w H h a (.tup (ks.map kV)) from ok a _ e);exact⟨o,its.toArray,n,h1,h2,h3,by simpa using SM r⟩
def Su{kvs:List (List Key×V)}(ok:ez P w H h)(e:Rd H a (.dT kvs)):kvs.length<=sizeLine/\(a==fD)=false/\
    ∃xs,KT H kvs xs/\h.DictOfH (rz (jr P w)) a xs:=by
  obtain⟨z,y,xs,r,o,es,ep,h1,h2,h3,h4,h5⟩:=(show eE P w H h a (.dT kvs) from Mr ok e);refine⟨z,y,xs,r,o,es,ep,h1,h2,h3,h4,λx hx=>?_,h5⟩;have all:∀{l:List (List Key×V)} {m:List (List Key×ax×ar)},KT H l m->∀x∈m,(rz (jr P w)).is h x.1 x.2.1:=by
    intro l m q;induction q with
    |nil=>intro x hx;exact nomatch hx
    | @cons p q ps c hq t ih =>
      intro x hx;rcases aK.mp hx with e|hx
      · subst e
        exact Gs ok (by rw[<-hq.1];exact hq.2.1)
      · exact ih x hx
  exact all r x hx
end
def tG(H:Hp)(a:ax)(y:V)(r:Option V):Prop:=
 (∃kvs k,Rd H a (.dK kvs)/\y=kV k/\r=iU kvs k)\/∃kvs k b,Rd H a (.dT kvs)/\y= .ref b/\H b=some (.tup (k.map kV))/\r=iU kvs k
theorem tG.k{H:Hp}{a:ax}{kvs:List (Key×V)}{k:Key}(e:H a=some (.dK kvs)):tG H a (kV k) (iU kvs k):= .inl ⟨kvs,k, .inl e,rfl,rfl⟩
section
variable{X:Cx}{pins:List (ax×Obj)}{σ:qr}{H:Hp}{s:au}{a:ax}{y v:V}{u r:ar}{o:Option V}{A:c5}{E:ar->au->Prop}
def Inv.big(I:Inv X pins σ H s):fD<s.heap.objs.size:=by
 have h:cc<s.heap.objs.size:=(I.mod.glob.keeps I.bk).lt;exact uT ⋯ h
def Zb(hu:A.units+1<D3)(I:Inv X pins σ H s)(g:tG H a y o)(m:RelV y u)(h:∀s',Inv X pins σ H s'->Q (.bool (!o.isSome)) s'):
  wpAny (bo X.prog X.w) A (du .NotIn u (.ref a)) Q E s:=by
 rcases g with ⟨kvs,k,e,ey,l⟩|⟨kvs,k,b,e,ey,eb,l⟩
 .subst ey;obtain⟨z,hd,vs,rel,dd⟩:=qN I.hok e;refine wpAny_notIn_of (uE m) hd dd.mapOf ?_;rw[<-(rel.val k).AH,<-l];exact h _ (I.tok _)
 .subst ey;cases (show u=dC b from m);obtain⟨z,hd,xs,rel,dd⟩:=Su I.hok e;refine wpAny_notIn_heap (tupleKind_room_in1 hu) (Gs I.hok eb) hd dd ?_;have q:=(rel.val k).AH;rw[Dq] at q;rw[<-q,<-l];exact h _ (I.tok _)
def ac2{ob:HO}(I:Inv X pins σ H s)(d:tS (H a))(hs:fw a s.heap h')(he:∃q,h'.get? a=some q)(new:eE X.prog X.w (upd H a ob) h' a ob):
  Inv X pins σ (upd H a ob) {s with heap:=h',toks:=t'}:=
 I.write (x:=a) (e:=a) d (.inl rfl) (λb q hb z=>(hs.2 b hb).trans z) he new
def Hm{P:cj}{vs:List (Key×ar)}(z:kvs.length<=sizeLine)(hd:(a==fD)=false)(rel:KV kvs vs)(dd:h'.DictOf (jr P w) a vs):
  eE P w H' h' a (.dK kvs):=⟨z,hd,vs,rel,dd⟩
end
def YM{P:cj}(h:e6)(hb:fD<h.objs.size):eE P w H (h.push {cls:= .type "dict",data:= .dict #[]}) h.objs.size (.dK []):=
 ⟨eT _,beq_eq_false_iff_ne.mpr (cO (eS hb)),[], .nil,FC h⟩
def Io:TE:=λ_ H Q=>∀p,H p=none->Q (.ref p) (upd H p (.dK []))
section
variable{X:Cx}{pos:Pos}
def Dv:PE X (.Dict [] [] pos) Io:=λpins s σ H Q I h=>
 wpAny_Dict_empty ⟨.ref s.heap.objs.size,_,I.laid (a:=s.heap.objs.size) (o:= .dK []) (t':=s.toks) (λ_ _ q=>cJ _ q) (aH _) (YM s.heap I.big),rfl,h _ (I.hok.fresh (aH _))⟩
end
end L2
variable{ms:List L2.bK}
/-THE LAST THEOREM (shape;LID,My.*are yours):
   My.Adr:a structure of the addresses that your layer names (classes,functions);My.Txt K t:a structure (Prop) of the equations over K;
   My.txt_mk:{K} {implicit addresses ..} (e1:nsIn K cc "law"=some (some (.ref f))) (e2:K.lookup f=some ⟨oc,od, .func (fnOf "law" "law" params body scope dV kV doc pm an cdv ct),sl⟩) (e3:codeIn K cdv "law"=true) .. :∃t,My.Txt K t
(the tactic k_is has no namespace:write k_is)-/
namespace L2
section
variable{prog:cj}{w:dc}{A:c5}{E:ar->au->Prop}{s:au}
def Iq{r d:ax}{P:Nat->ar->Prop}{c:e6->Prop}{Q:List ar->au->Prop}(K:PySem.W.KdlSrc prog w T r d n P c)(L:A.handled=none)(hok:c s.heap)(hn:n<=sizeLine)
  (G:∀h' tk' items,(∀b o,s.heap.get? b=some o->h'.get? b=some o)->s.heap.objs.size<=h'.objs.size->items.length=n->(∀(i:Nat) v,items[i]?=some v->P i v)->Q items {s with heap:=h',toks:=tk'}):wpAny (bo prog w) A (Bi (.ref r)) Q E s:=by
 obtain⟨f,ld⟩:=K.there _ hok;unfold Bi;refine ae (my (en Sf ?_));rw[qm NI _];show wpAny _ A.in1 (A5 []>>=λl=>again (.builtin "list.__iadd__" ⟨[l, .ref r],[]⟩)) _ _ s;refine ae (ec ?_);refine aw ⟨hJ yo _,en O8 ?_⟩;rw[qm yo _];have p:(s.heap.push ({cls:= .type "list",data:= .seq ([]:List ar).toArray}:Obj)).get? s.heap.objs.size=some {cls:= .type "list",data:= .seq ([]:List ar).toArray}:=gf _ rfl;show wpAny _ A.in1 (fA (.ref s.heap.objs.size) (.ref r) (.ref s.heap.objs.size)) _ _ {s with heap:=s.heap.push ({cls:= .type "list",data:= .seq ([]:List ar).toArray}:Obj)}
 refine PySem.W.kdl_extend (A:=A) (R:=λr s'=>match r with
    | .ok (.ret v)=>wpAny (bo prog w) A (match v with| .ref x=>(do match(<-load x).data with| .seq xs _=>pure xs.toList|_=>eC "internal:collect")|_=>eC "internal:collect") Q E s'
    | .ok _=>False
    | .error e=>E e s') (s:={s with heap:=s.heap.push ({cls:= .type "list",data:= .seq ([]:List ar).toArray}:Obj)}) K L (K.keep _ _ hok λb _ o e=>cJ _ e) s.heap.objs.size (sr f) (sr ld) _ _ p (λh' tk a c' hk M g=>?_) hn
 refine ae (vB M (aw ?_));refine G h' tk a.toList (λb o e=>hk b o (eS (cD e)) (cJ _ e)) (eZ (cD M)) (by rw[dS];exact g.1) λi v e=>g.2 i v (by rw[<-jK];exact e)
end
section
variable{X:Cx}
def Bk:R2:=λx y H Q=>∃a kvs k v,x= .ref a/\y=kV k/\Rd H a (.dK kvs)/\iU kvs k=some v/\Q v H
def Rk:yb X Bk:=by
 intro value slice pins s σ H x y v u Q I rx ry h hs;obtain⟨a,kvs,k,z,rfl,rfl,p,hv,q⟩:=h;cases rx;obtain⟨hz,hd,vs,rel,dd⟩:=qN I.hok p;have hT:=dd.typeIs (s:=s);obtain⟨w',hw,c⟩:=jD.some_of (v:=z) (o:=pe vs k) (by rw[<-hv];exact rel.val k);unfold nr;refine ae ?_;rw[getitemInPython_of_ne hT.not_modules];refine ae (sT hT PySem.F.slot_dict_getitem.lookup ?_);have fin:wpAny (bo X.prog X.w) X.A (r7 slice false (.ref a) u) (λr b=>wpAny (bo X.prog X.w) X.A (letTemporaryGo value (.ref a) r>>=λ_=>pure r) (EP X pins σ Q) X.xe b) X.xe s:=by
  rw[hs];refine wpAny_operating (wpAny_getItem_of (uE ry) dd.mapOf hw ?_);exact ae (wpAny_letTemporaryGo (aw ⟨z,H,I.tok _,c,q⟩))
 first
  |exact aw (ae fin)
  |exact ae (aw (ae fin))
  |exact ae fin
def MX:V->V->V->Hp->(Hp->Prop)->Prop:=λo i v H Q=>∃a kvs k,o= .ref a/\i=kV k/\H a=some (.dK kvs)/\kvs.length<sizeLine/\Q (upd H a (.dK (putK kvs k v)))
theorem set_dict:Fx X MX:=by
 intro pins s σ H o i v ov iv u Q I ro ri rv h;obtain⟨a,kvs,k,rfl,rfl,p,HF,q⟩:=h;cases ro;obtain⟨z,hd,vs,rel,dd⟩:=aaR I.hok p;have hz:vs.length<=sizeLine:=by rw[<-rel.length];exact z
 have hl:(putK kvs k v).length<=sizeLine:=by have:=Zn kvs k v;omega
 refine wpAny_setItem_pairs (hsz:=hz) (uE ri) dd λh' b hs=>?_;have he:∃q,h'.get? a=some q:=let ⟨q,_,_,hq,_⟩:=b;⟨q,hq⟩;exact⟨_,ac2 I (by rw[p];exact fH) hs he (Hm hl hd (rel.put k rv) b),q⟩
end
def TF{P:qr->Hp->Prop}(hl:iX nb H)(hd:af nb H ds vs)(r:ρ=ds.map (Sl.d false)++cq (N.length-ds.length) .no)
  (h:∀aP σ H1,Wd ⟨none,H,nb,[]⟩ aP ρ σ H1->P σ H1):P (start N vs) H:=
 Sv.dH (t:=λ_ σ H1=>P σ H1) (Φ:=λ_ _=>False) (Q:=λ_ _=>True) hl hd (λ_ _ _ _ z=>z.elim) r (λaP σ H1 _ W _=>h aP σ H1 W)
noncomputable abbrev Cn:=List (Int×Int)
structure LG(cs:Cn):Prop where
 Bl:∀c∈cs,0<=c.1/\c.1<=12/\0<=c.2/\c.2<=10^7
 nd:(cs.map (·.1)).Nodup
 len:cs.length<=14
 pos:∃c∈cs,0<c.1/\0<c.2
noncomputable def Me:Cn->Rat->Rat
 |[],_=>0
 |c::r,v=>(if 0<c.1 then((c.1*c.2:Int):Rat)*v^(c.1.toNat-1) else 0)+Me r v
noncomputable def M8:Cn->Int
 |[]=>0
 |c::r=>c.1*c.2+M8 r
noncomputable def Oe(cs:Cn)(v:Rat):Rat:=Me cs v/(M8 cs:Int)
noncomputable def VP(l c:Cn)(s v:Rat):Rat:=s*Oe l (1-Oe c (1-v))
section
variable{l c:Cn}{s:Rat}(hl:LG l)(hc:LG c)(s0:0<=s)
include hl hc s0
end
noncomputable def Te(x:Rat):Int:= -((-x).floor)
structure Gw where
 l:Cn
 c:Cn
 s:Rat
 u:Int
noncomputable def Gw.gr(g:Gw)(x:Int):Rat:=VP g.l g.c g.s ((x:Rat)/g.u)*g.u
noncomputable def Gw.lo(g:Gw):Nat->Int
 |0=>(g.s*g.u).floor
 |k+1=>(g.gr (g.lo k)).floor
noncomputable def Gw.hi(g:Gw):Nat->Int
 |0=>Te (g.s*g.u)
 |k+1=>Te (g.gr (g.hi k))
section
variable{X:Cx}
def Qt:R2:=λx y H Q=>∃i j,x= .str i/\y= .str j/\i.length+j.length<=sizeLine/\Q (.str (i++j)) H
def gV:c9 X (iC .Add) Qt:=afC
def BW:List V->Hp->VK->Prop:=λxs H Q=>∃(x:Str) (n:Int),xs=[.str x]/\x.length<=640/\PySem.intText? x=some n/\Q (.int n) H
def Wq:fT X (.type "int") BW:=by
 intro pins s σ H xs us Q I r h;obtain⟨x,n,rfl,hl,hn,q⟩:=h;obtain⟨u,rfl,t,rfl⟩:=vals1 r;exact PySem.W.KIN.call_text hn hl ⟨.int n,H,I.tok _,⟨_,rfl⟩,q⟩
end
section
variable{G:Gx}{ρ:Rh}{te ta tb:TE}{s:TS}{gt:TG}{E:DE}{K:PySem.W.Frag}{Φ:Pd}
def Ev.Wx(h:Ev G ρ te λ_ x=>∃i n,x= .str i/\i.length<=640/\PySem.intText? i=some n/\Φ true (.int n)):Ev G ρ (gv BW (bN te cI)) Φ:=λnb σ H Q W z=>
 h nb σ H _ W λf v H1 d ⟨i,n,e,hl,hn,q⟩ s1 hv=>by
  subst e;unfold ah at hv;subst hv;exact⟨i,n,rfl,hl,hn,z true _ H1 _ q s1 (.int _)⟩
end
def U7(K:PySem.W.Frag)(n:Nat)(t:jC):TG:=λv σ H Q=>∃a xs,v= .ref a/\bw K H a xs/\xs.length=n/\t xs σ H Q
def Gv.lst{G:Gx}{ρ:Rh}{f:Bool}{ds:List PyData}{K:PySem.W.Frag}{Θ:Rh->Prop}{n:Nat}{u:jC}(hl:ds.length=n)(h:nN G ρ u f ds Θ):Gv G ρ (U7 K n u) f (.list ds) Θ:=λnb σ H v Q W hv z=>by
 obtain⟨a,xs,rfl,m,hx,hd⟩:=hv.dZ;exact⟨a,xs,rfl, .of hx,by rw[hd.length];exact hl,h nb σ H xs Q W hd z⟩
end L2
namespace L2
open PySem PySem.Spec PyProof.Rows PySem.W
section
variable{n:Nat}{cmp:Nat->Nat->(Bool->au->Prop)->au->Prop}{s:au}
variable(h0:0<n)(hc:∀i j C,i<n->j<n->(∀b,C b s)->cmp i j C s)
include h0 hc
end
section
variable{n:Nat}{key:Nat->Int}{cmp:Nat->Nat->(Bool->au->Prop)->au->Prop}{s:au}
variable(h0:0<n)(hc:∀i j C,i<n->j<n->C (decide (key i<key j)) s->cmp i j C s)
include h0 hc
end
end L2
namespace L2
noncomputable abbrev Ks:=List (Int×PyData)
noncomputable def kQ(ks:Ks)(k:Int):Option PyData:=(ks.find? λp=>decide (p.1=k)).map (·.2)
noncomputable def k8(ks:Ks)(k:Int):Bool:=ks.any λp=>decide (p.1=k)
noncomputable def wF(ks:Ks)(k:Int)(d:PyData):Ks:=if k8 ks k then ks.map λp=>if p.1=k then(p.1,d) else p else ks++[(k,d)]
def Jm(ks:Ks)(k:Int):(kQ ks k).isSome=k8 ks k:=by
  unfold kQ k8;rw[Dq];induction ks with
  |nil=>rfl
  | cons p r ih =>
    rw[o9,sD];by_cases h:p.1=k;· simp[h]
    · simp only[h,decide_false,vX];exact ih
def BG{ks:Ks}{k:Int}:k8 ks k=true↔k∈ks.map (·.1):=by
 unfold k8;rw[rL,bH];constructor;·rintro⟨p,h1,h2⟩;exact⟨p,h1,by simpa using h2⟩
 .rintro⟨p,h1,h2⟩;exact⟨p,h1,by simpa using h2⟩
def uQ{p:Int×PyData}{r:Ks}{k:Int}:kQ (p::r) k=if p.1=k then some p.2 else kQ r k:=by
 unfold kQ;rw[o9];by_cases h:p.1=k<;>simp[h]
section
variable{S:ax->Prop}{H:Hp}
theorem aB.val:∀{ks:Ks} {ps:List (Key×V)} (k:Int),aB S H (ks.map jn) ps->match kQ ks k with|some d=>∃v,iU ps (ei k)=some v/\ah S H d v|none=>iU ps (ei k)=none
  |[],ps,k,h=>by unfold aB at h;subst h;exact Vn
  | p :: r, ps, k, h => by
    rw[aZ] at h;unfold aB at h;obtain⟨q,c,rfl,h1,h2⟩:=h;unfold cX at h1;obtain⟨h3,h4⟩:=h1;have h3:q.1=ei p.1:=h3;rw[uQ];have ih:=aB.val k h2;by_cases e:p.1=k
    · rw[if_pos e]
      refine⟨q.2,?_,h4⟩;rw[AB (by rw[h3,e])]
    · rw[if_neg e,BK (λz=>e (by rw[h3] at z;exact FP z))]
      exact ih
theorem aB.snoc:∀{ks:Ks} {ps:List (Key×V)} {k:Int} {d:PyData} {v:V},aB S H (ks.map jn) ps->ah S H d v->aB S H ((ks++[(k,d)]).map jn) (ps++[(ei k,v)])
  | [], ps, k, d, v, h, hd => by
    unfold aB at h;subst h;show aB S H [jn (k,d)] [(ei k,v)];unfold aB;exact⟨_,_,rfl,by unfold cX;exact⟨rfl,hd⟩,by unfold aB;rfl⟩
  | p :: r, ps, k, d, v, h, hd => by
    rw[aZ] at h;unfold aB at h;obtain⟨q,c,rfl,h1,h2⟩:=h;rw[jk,aZ,jk];unfold aB;exact⟨q,_,rfl,h1,aB.snoc h2 hd⟩
theorem aB.repl:∀{ks:Ks} {ps:List (Key×V)} {k:Int} {d:PyData} {v:V},aB S H (ks.map jn) ps->ah S H d v->aB S H ((ks.map λp=>if p.1=k then(p.1,d) else p).map jn) (ps.map λa=>if a.1=ei k then(a.1,v) else a)
  |[],ps,k,d,v,h,hd=>by unfold aB at h;subst h;simp only[jU];unfold aB;rfl
  | p :: r, ps, k, d, v, h, hd => by
    rw[aZ] at h;unfold aB at h;obtain⟨q,c,rfl,h1,h2⟩:=h;rw[aZ,aZ,aZ];unfold cX at h1;obtain⟨h3,h4⟩:=h1;have h3:q.1=ei p.1:=h3;unfold aB;refine⟨_,_,rfl,?_,aB.repl h2 hd⟩;by_cases e:p.1=k
    · rw[if_pos e,if_pos (by rw[h3,e])]
      unfold cX;exact⟨h3,hd⟩
    · rw[if_neg e,if_neg (λz=>e (by rw[h3] at z;exact FP z))]
      unfold cX;exact⟨h3,h4⟩
theorem aB.any:∀{ks:Ks} {ps:List (Key×V)} (k:Int),aB S H (ks.map jn) ps->(ps.any λa=>decide (a.1=ei k))=k8 ks k:=λ{ks ps} k h=>by
 rw[D5,<-Jm];have:=aB.val k h;cases hv:kQ ks k with
 |none=>rw[hv] at this;rw[this];rfl
 |some d=>rw[hv] at this;obtain⟨v,e,_⟩:=this;rw[e];rfl
def aB.put{ks:Ks}{ps:List (Key×V)}{k:Int}{d:PyData}{v:V}(h:aB S H (ks.map jn) ps)(hd:ah S H d v):aB S H ((wF ks k d).map jn) (putK ps (ei k) v):=by
 unfold wF putK;rw[aB.any k h];split;·exact aB.repl h hd
 .exact aB.snoc h hd
theorem aB.len:∀{ks:Ks} {ps:List (Key×V)},aB S H (ks.map jn) ps->ps.length=ks.length
  |[],ps,h=>by unfold aB at h;subst h;rfl
  | p :: r, ps, h => by
    rw[aZ] at h;unfold aB at h;obtain⟨q,c,rfl,_,h2⟩:=h;simp[aB.len h2]
theorem aB.keys:∀{ks:Ks} {ps:List (Key×V)},aB S H (ks.map jn) ps->ps.map (·.1)=(ks.map (·.1)).map ei
  |[],ps,h=>by unfold aB at h;subst h;rfl
  | p :: r, ps, h => by
    rw[aZ] at h;unfold aB at h;obtain⟨q,c,rfl,h1,h2⟩:=h;unfold cX at h1;have h3:q.1=ei p.1:=h1.1;simp[aB.keys h2,h3]
end
def vH(G:Gx)(ρ:Rh)(te:TE)(Φ:Bool->Ks->Prop):Prop:=∀nb σ H (Q:VK),Wd G nb ρ σ H->
 (∀f a ps H' ks,Φ f ks->Step G.B H H'->H a=none->H' a=some (.dK ps)->aB (λx=>G.S nb f x\/x=a) H' (ks.map jn) ps->Q (.ref a) H')->te σ H Q
section
variable{G:Gx}{ρ bM:Rh}{Φ Ψ:Pd}{ta tb te:TE}{t:TA}{i:Nat}{f g:Bool}{d e:PyData}{ks:Ks}{K:PySem.W.Frag}{E:DE}{Θ:Bool->Ks->Prop}
def Wd.grow{o:HO}(W:Wd G nb ρ σ H)(s1:Step G.B H H1)(ha:H a=none)(e:H1 a=some o):Wd G (λx=>nb x\/x=a) ρ σ H1/\NB G.B a/\∀f x,G.S (λx=>nb x\/x=a) f x->(G.S nb f x\/x=a):=by
  have hN:NB G.B a:=NB.new W.az ha;have hA:∀f x,G.S (λx=>nb x\/x=a) f x->(G.S nb f x\/x=a):=λf x z=>by
    rcases z with (z|z)|z|z|z
    · exact .inl (.inl z)
    · exact .inr z
    · exact .inl (.inr (.inl z))
    · exact .inl (.inr (.inr (.inl z)))
    · exact .inl (.inr (.inr (.inr z)))
  have W1:=W.step s1;refine⟨?_,hN,hA⟩;refine⟨W1.az,λx n=>?_,W1.old,λx n q=>?_,W.gA,W.len,W.gB,λh m=>(((W.fL h m).fresh ha).keep (s1.but λx z=> .inl (.inr (.inr (.inl z))))).av (hA h.1),λj s e'=>?_,W.apart,W.g9,W.fu⟩
  · rcases n with n|n
    · exact W1.live x n
    · subst n;rw[e];exact gy _
  · rcases n with n|n
    · exact W.dY x n q
    · subst n
      cases z:G.H0 x with
      |none=>rfl
      |some o=>rw[W.old x o q z] at ha;cases ha
  · obtain⟨x,e1,h⟩:=W.ok j s e'
    refine⟨x,e1,?_⟩;cases s with
    |no=>trivial
    |d f d=>obtain⟨v,e,h⟩:=h;exact⟨v,e,((h.fresh ha).keep (s1.but λx z=> .inl (.inr (.inr (.inl z))))).av (hA f)⟩
    |own c f es=>obtain⟨e,n,q,xs,hx,hd⟩:=h;exact⟨e, .inl n,q,xs,s1.1 _ _ q hx,((hd.fresh ha).keep (s1.but λx z=> .inl (.inr (.inr (.inl z))))).av (hA f)⟩
    |az=>exact h
    |raw v=>exact h
    |cE c f es=>obtain⟨e,n,q,xs,hx,hd⟩:=h;exact⟨e, .inl n,q,xs,s1.1 _ _ q hx,((hd.fresh ha).keep (s1.but λx z=> .inl (.inr (.inr (.inl z))))).av (hA f)⟩
    | cu c =>
      obtain⟨e,n,q⟩:=h;refine⟨e,λa ha=>⟨.inl (n a ha).1,(n a ha).2⟩,c.av (hA c.f) (c.keep (.of λx o hx e=>s1.1 x o ?_ e) (c.fresh ha q))⟩;rcases hx with hx|hx
      · exact jm λz=>hx (.inl (.inr (.inr (.inl z))))
      · exact(n x hx).2
def XS{ps:List (Key×V)}(W:Wd G nb ρ σ H)(s1:Step G.B H H1)(ha:H a=none)(e:H1 a=some (.dK ps))(hd:aB (λx=>G.S nb f x\/x=a) H1 (ks.map jn) ps):
  Wd G (λx=>nb x\/x=a) (ρ.set i (.cE a f ks)) (σ.set i (some (.ref a))) H1:=by
 obtain⟨W2,hN,hA⟩:=W.grow s1 ha e;refine W2.set ⟨rfl, .inr rfl,hN,ps,e,hd.av (hA f)⟩ (λ_ _ _ z=>by cases z) ?_ (λx hx j t hj ht hc=>?_)
 rotate_left
 .have hx:x=a:=aY.mp hx;subst hx;rcases hc with ⟨c,z⟩|⟨c,rfl⟩
  .cases z
  .exact λz=>W.live x ((W.ok j _ ht).choose_spec.2.2.1 x z).1 ha
 rintro a' f' ds' ⟨rfl,rfl,rfl⟩ j c g cs hj hc z;subst z;obtain⟨x,e1,h1,h2,h3,ys,hy,_⟩:=W.ok j _ hc;rw[hy] at ha;cases ha
def Sv.Sx(h:vH G ρ te λf ks=>∀a,E.nx (ρ.set i (.cE a f ks))):Sv G ρ (gD te (gZ i)) E:=λnb σ H D W K=>h nb σ H _ W λf a ps H1 ks q s1 ha e hd=>K.nx _ _ _ H1 (q a) (XS W s1 ha e hd)
def vH.new(h:Θ true []):vH G ρ Io Θ:=λnb σ H Q W z p hp=>z true p [] _ [] h (.same W.az (dw hp)) hp bB (by unfold aB;rfl)
def X5{ps:List (Key×V)}{b:Ks}(W:Wd G nb ρ σ H)(e:ρ[i]?=some (.cE a f ks))(hd:aB (G.S nb g) H (b.map jn) ps):Wd G nb (ρ.set i (.cE a g b)) σ (upd H a (.dK ps)):=by
 obtain⟨x,e1,h1,h2,h3,ys,hy,_⟩:=W.ok i _ e;subst h1;have hil:i<ρ.length:=(bV.mp e).1;have W0:Wd G nb (ρ.set i .no) (σ.set i (some (.ref a))) H:=W.set trivial λ_ _ _ z=>by cases z
 have W1:Wd G nb (ρ.set i .no) (σ.set i (some (.ref a))) (upd H a (.dK ps)):=W0.write h2 h3 (λj c d cs hc z=>by
   subst z;have hij:i≠j:=λz=>by subst z;rw[dB hil] at hc;cases hc
   rw[bO hij] at hc;obtain⟨_,_,_,_,_,ps,hp,_⟩:=W.ok j _ hc;rw[hy] at hp;cases hp) (λj c d cs hc=>by
   by_cases hij:i=j;·subst hij;rw[dB hil] at hc;cases hc
   .rw[bO hij] at hc;exact(W.g9 i j _ _ _ _ _ _ hij e hc).symm) (λj c hc z=>by
   have hij:i≠j:=λz=>by subst z;rw[dB hil] at hc;cases hc
   rw[bO hij] at hc;exact W.fu j i c _ (cO hij) hc e a z (aY.mpr rfl))
 have W2:=W1.set (i:=i) (s:= .cE a g b) (x:=some (.ref a)) ⟨rfl,h2,h3,ps,bB,hd.keep (bu.set (.inl h2))⟩ (λ_ _ _ z=>by cases z) (by
  rintro a' d ds' ⟨rfl,rfl,rfl⟩ j c g' cs hj hc;rw[bO (cO hj)] at hc;exact W.g9 i j _ _ _ _ _ _ (cO hj) e hc) (λx hx j t hj ht hc z=>by
  rw[bO (cO hj)] at ht;have hx:x=a:=aY.mp hx;subst hx;rcases hc with ⟨c,q⟩|⟨c,rfl⟩
  .cases q
  .exact W.fu j i c _ hj ht e x z (aY.mpr rfl))
 rw[mS,mS] at W2;have:σ.set i (some (.ref a))=σ:=by
  apply pG;intro j;by_cases hij:i=j;·subst hij;rw[dB (by rw[W.len];exact hil),e1]
  .rw[bO hij]
 rwa[this] at W2
def Sv.QO(e:ρ[i]?=some (.cE a f ks))(h:Ev G ρ te λg d=>Ev G ρ tb λ_ y=>∃k,y= .int k/\ks.length<10000/\E.nx (ρ.set i (.cE a (f && g) (wF ks k d)))):Sv G ρ (gD te (qq (dD i) tb MX)) E:=λnb σ H D W KK=>
 h nb σ H _ W λg v H1 d q s1 hv=>by
  obtain⟨x,e1,h1,h2,h3,ps,hp,hd⟩:=(W.step s1).ok i _ e;subst h1;refine⟨.ref a,e1,q nb σ H1 _ (W.step s1) λg' u H2 y ⟨k,o,hl,p⟩ s2 hu=>?_⟩;subst o;have W2:=(W.step s1).step s2;have hlen:=hd.len;refine⟨a,ps, .inl k,rfl,hu.cV,s2.1 _ _ h3 hp,fJ (by rw[hlen];exact hl) ⋯,KK.nx nb _ _ _ p (X5 W2 e ?_)⟩;exact aB.put ((hd.keep s2.dX).av (cW (λz=>(fQ _ _▸z).1) λ_ z=>z)) ((hv.keep s2.dX).av (cW (λz=>(fQ _ _▸z).2) λ_ z=>z))
namespace Ev
def N3(e:ρ[i]?=some (.cE a f ks))(h:Ev G ρ tb λ_ y=>∃k,y= .int k/\∃d,kQ ks k=some d/\Φ f d):Ev G ρ (dP Bk (dD i) tb) Φ:=λnb σ H Q W z=>by
 obtain⟨x,e1,h1,h2,h3,ps,hp,hd⟩:=W.ok i _ e;subst h1;refine⟨.ref a,e1,h nb σ H _ W λg w H1 y ⟨k,o,d,hv,p⟩ s1 hw=>?_⟩;subst o;have:=aB.val k (hd.keep s1.dX);rw[hv] at this;obtain⟨v,b,N⟩:=this;exact⟨a,ps, .inl k,v,rfl,hw.cV, .inl (s1.1 _ _ h3 hp),b,z f _ H1 _ p s1 N⟩
end Ev
end
def DQ(b:Bool):R2:=λx y H Q=>∃a o,y= .ref a/\tG H a x o/\Q (.bl (o.isSome !=b)) H
theorem S3(hu:X.A.units+64<D3):c9 X (du .NotIn) (DQ true):=by
 intro pins s σ H x y v u Q I rx ry h;obtain⟨a,o,rfl,g,q⟩:=h;cases ry;exact Zb ∅ I g rx λs' b=>⟨.bl (!o.isSome),H,b,rfl,by simpa using q⟩
section
variable{G:Gx}{ρ:Rh}{Φ:Pd}{ta tb te:TE}{i:Nat}{f:Bool}{ks:Ks}{K:PySem.W.Frag}{E:DE}
def Ev.RA{b:Bool}(e:ρ[i]?=some (.cE a f ks))(h:Ev G ρ ta λ_ y=>∃k,y= .int k/\Φ true (.bool (k8 ks k !=b))):Ev G ρ (dP (DQ b) ta (dD i)) Φ:=λnb σ H Q W z=>
 h nb σ H _ W λg w H1 y ⟨k,o,p⟩ s1 hw=>by
  obtain⟨x,e1,h1,h2,h3,ps,hp,hd⟩:=(W.step s1).ok i _ e;subst h1 o;refine⟨.ref a,e1,a,_,rfl,by rw[hw.cV];exact tG.k (k:= .inl k) hp,?_⟩;have:(iU ps (ei k)).isSome=k8 ks k:=by rw[<-D5];exact aB.any k hd
  rw[this];exact z true _ H1 _ p s1 (.bl _)
end
def jN{K:PySem.W.Frag}{r:V->List V->Hp->VK->Prop}{to:TE}(c:X.K=K)(h:PE X e (oq X.K T r to t)):PE X e (oq K T r to t):=by subst c;exact h
structure NM(n:Int)(cs:List ao):Prop where
 n0:1<=n
 n1:n<=10
 c0:cs≠[]
 c1:cs.length<=8
 ok:∀prs∈cs,prs≠[]/\prs.length<=4/\(prs.map (·.1)).Pairwise (· < ·)/\∀pr∈prs,0<=pr.1/\pr.1<n
section
variable{n:Int}{cs:List ao}(h:NM n cs)
include h
end
section
variable{G:Gx}{ρ:Rh}{te:TE}{E:DE}{i j:Nat}{f:Bool}{ds:List PyData}{K:PySem.W.Frag}
def Sv.extend(e:ρ[i]?=some (.own a f ds))(h:Ev G ρ te λg y=>∃es,y= .list es/\ds.length+es.length<=10000/\E.nx (ρ.set i (.own a (f && g) (ds++es)))):
  Sv G ρ (vI (oq K "list" NO (dD i) (bN te cI))) E:=λnb σ H D W KK=>by
 obtain⟨x,e1,h1,h2,h3,xs,hx,hd⟩:=W.ok i _ e;subst h1;refine⟨.ref a,e1, .inl ⟨rfl,_,bw.of hx⟩,h nb σ H _ W λg v H1 y ⟨es,o,hl,q⟩ s1 hv=>?_⟩;subst o;obtain⟨c,ys,rfl,n,hy,he⟩:=hv.dZ;have W1:=W.step s1;have o4:=s1.1 _ _ h3 hx;have hd1:=hd.keep s1.dX;refine⟨a,c,xs,ys,rfl,rfl,o4,hy,eu (by rw[hd.length,he.length];exact hl) ⋯,KK.nx nb _ _ _ q (Jq W1 e ?_)⟩;exact af.append (hd1.av (cW (λz=>(fQ _ _▸z).1) λ_ z=>z)) (he.av (cW (λz=>(fQ _ _▸z).2) λ_ z=>z))
end
def RL{xs ys:List (Key×V)}(h:Rd H a (.dK xs))(g:Rd H a (.dK ys)):xs=ys:=by
 rcases h with h|⟨o,h⟩<;>rcases g with g|⟨u,g⟩<;>rw[h] at g<;>cases g<;>rfl
def wQ.fn:∀{d e:PyData} {k:Key},wQ d k->wQ e k->d=e
  | .int i, e, k, h, g => by
    have h:k= .inl i:=h;cases e<;>first|exact g.elim|(have g:k=_:=g;rw[h] at g;injection g with g;subst g;rfl)|(have g:k=_:=g;rw[h] at g;cases g)
  | .str i, e, k, h, g => by
    have h:k= .inr i:=h;cases e<;>first|exact g.elim|(have g:k=_:=g;rw[h] at g;injection g with g;subst g;rfl)|(have g:k=_:=g;rw[h] at g;cases g)
  | .none,_,_,h,_=>h.elim
  | .bool _,_,_,h,_=>h.elim
  | .list _,_,_,h,_=>h.elim
  | .tuple _,_,_,h,_=>h.elim
  | .dict _,_,_,h,_=>h.elim
mutual
theorem ah.fn{S S':ax->Prop}{H:Hp}:∀{d e:PyData} {v:V},ah S H d v->ah S' H e v->d=e
  | .none, e, v, h, g => by
    unfold ah at h;subst h;cases e<;>unfold ah at g<;>first|rfl|(cases g;done)|(obtain⟨_,_,z,_⟩:=g;cases z)
  | .bool b, e, v, h, g => by
    unfold ah at h;subst h;cases e<;>unfold ah at g<;>first|(cases g;done)|(cases g;rfl)|(obtain⟨_,_,z,_⟩:=g;cases z)
  | .int b, e, v, h, g => by
    unfold ah at h;subst h;cases e<;>unfold ah at g<;>first|(cases g;done)|(cases g;rfl)|(obtain⟨_,_,z,_⟩:=g;cases z)
  | .str b, e, v, h, g => by
    unfold ah at h;subst h;cases e<;>unfold ah at g<;>first|(cases g;done)|(cases g;rfl)|(obtain⟨_,_,z,_⟩:=g;cases z)
  | .list ds, e, v, h, g => by
    unfold ah at h;obtain⟨a,xs,rfl,n,hx,hd⟩:=h;cases e<;>unfold ah at g<;>first|(cases g;done)|skip
    all_goals (obtain⟨w,l,z,c,M,j⟩:=g;cases z)
    all_goals first
      |(rcases M with M|⟨o,M⟩<;>rw[hx] at M<;>cases M;done)
      |(rw[hx] at M;cases M;done)
      |(rw[hx] at M;cases M;rw[af.fn hd j])
  | .tuple ds, e, v, h, g => by
    unfold ah at h;obtain⟨a,xs,rfl,n,hx,hd⟩:=h;cases e<;>unfold ah at g<;>first|(cases g;done)|skip
    all_goals (obtain⟨w,l,z,c,M,j⟩:=g;cases z)
    all_goals first
      |(rcases M with M|⟨o,M⟩<;>rw[hx] at M<;>cases M;done)
      |(rw[hx] at M;cases M;done)
      |(rw[hx] at M;cases M;rw[af.fn hd j])
  | .dict ds, e, v, h, g => by
    unfold ah at h;obtain⟨a,xs,rfl,n,hx,hd⟩:=h;cases e<;>unfold ah at g<;>first|(cases g;done)|skip
    all_goals (obtain⟨w,l,z,c,M,j⟩:=g;cases z)
    all_goals first
      |(rcases hx with hx|⟨o,hx⟩<;>rw[hx] at M<;>cases M;done)
      |(rw[aB.fn hd (by rw[RL hx M];exact j)])
  termination_by structural d=>d
theorem af.fn{S S':ax->Prop}{H:Hp}:∀{ds es:List PyData} {vs:List V},af S H ds vs->af S' H es vs->ds=es
  | [], es, vs, h, g => by
    unfold af at h;subst h;cases es with
    |nil=>rfl
    |cons e es=>unfold af at g;obtain⟨_,_,z,_⟩:=g;cases z
  | d :: ds, es, vs, h, g => by
    unfold af at h;obtain⟨y,ys,rfl,h1,h2⟩:=h;cases es with
    |nil=>unfold af at g;cases g
    | cons e es =>
      unfold af at g;obtain⟨a,b,z,g1,g2⟩:=g;cases z;rw[ah.fn h1 g1,af.fn h2 g2]
  termination_by structural ds=>ds
theorem aB.fn{S S':ax->Prop}{H:Hp}:∀{ds es:List (PyData×PyData)} {vs:List (Key×V)},aB S H ds vs->aB S' H es vs->ds=es
  | [], es, vs, h, g => by
    unfold aB at h;subst h;cases es with
    |nil=>rfl
    |cons e es=>unfold aB at g;obtain⟨_,_,z,_⟩:=g;cases z
  | d :: ds, es, vs, h, g => by
    unfold aB at h;obtain⟨y,ys,rfl,h1,h2⟩:=h;cases es with
    |nil=>unfold aB at g;cases g
    | cons e es =>
      unfold aB at g;obtain⟨a,b,z,g1,g2⟩:=g;cases z;rw[cX.fn h1 g1,aB.fn h2 g2]
  termination_by structural ds=>ds
theorem cX.fn{S S':ax->Prop}{H:Hp}:∀{d e:PyData×PyData} {v:Key×V},cX S H d v->cX S' H e v->d=e
  | (k, d), (k', e), v, h, g => by
    unfold cX at h g;rw[wQ.fn h.1 g.1,ah.fn h.2 g.2]
  termination_by structural d=>d
end
mutual
theorem ah.out{S:ax->Prop}{H:Hp}{c:ax}{D:PyData}(hc:ah S H D (.ref c)):∀{d:PyData} {v:V},sizeOf d<sizeOf D->ah S H d v->ah (λx=>S x\/x=c) H d v
  | .none,_,_,h=>by unfold ah at h⊢;exact h
  | .bool _,_,_,h=>by unfold ah at h⊢;exact h
  | .int _,_,_,h=>by unfold ah at h⊢;exact h
  | .str _,_,_,h=>by unfold ah at h⊢;exact h
  | .list ds, v, hs, h => by
    have h0:=h;unfold ah at h⊢;obtain⟨a,xs,rfl,n,hx,hd⟩:=h;refine⟨a,xs,rfl,λz=>z.elim n λz=>?_,hx,af.out hc (by simp at hs;omega) hd⟩;subst z;rw[ah.fn hc h0] at hs;exact absurd hs (kE _)
  | .tuple ds, v, hs, h => by
    have h0:=h;unfold ah at h⊢;obtain⟨a,xs,rfl,n,hx,hd⟩:=h;refine⟨a,xs,rfl,λz=>z.elim n λz=>?_,hx,af.out hc (by simp at hs;omega) hd⟩;subst z;rw[ah.fn hc h0] at hs;exact absurd hs (kE _)
  | .dict ds, v, hs, h => by
    have h0:=h;unfold ah at h⊢;obtain⟨a,xs,rfl,n,hx,hd⟩:=h;refine⟨a,xs,rfl,λz=>z.elim n λz=>?_,hx,aB.out hc (by simp at hs;omega) hd⟩;subst z;rw[ah.fn hc h0] at hs;exact absurd hs (kE _)
theorem af.out{S:ax->Prop}{H:Hp}{c:ax}{D:PyData}(hc:ah S H D (.ref c)):∀{ds:List PyData} {vs:List V},sizeOf ds<sizeOf D->af S H ds vs->af (λx=>S x\/x=c) H ds vs
  |[],_,_,h=>by unfold af at h⊢;exact h
  | d :: ds, _, hs, h => by
    unfold af at h⊢;obtain⟨y,ys,e,h1,h2⟩:=h;exact⟨y,ys,e,ah.out hc (by simp at hs;omega) h1,af.out hc (by simp at hs;omega) h2⟩
theorem aB.out{S:ax->Prop}{H:Hp}{c:ax}{D:PyData}(hc:ah S H D (.ref c)):∀{ds:List (PyData×PyData)} {vs:List (Key×V)},sizeOf ds<sizeOf D->aB S H ds vs->aB (λx=>S x\/x=c) H ds vs
  |[],_,_,h=>by unfold aB at h⊢;exact h
  | d :: ds, _, hs, h => by
    unfold aB at h⊢;obtain⟨y,ys,e,h1,h2⟩:=h;exact⟨y,ys,e,cX.out hc (by simp at hs;omega) h1,aB.out hc (by simp at hs;omega) h2⟩
theorem cX.out{S:ax->Prop}{H:Hp}{c:ax}{D:PyData}(hc:ah S H D (.ref c)):∀{d:PyData×PyData} {v:Key×V},sizeOf d<sizeOf D->cX S H d v->cX (λx=>S x\/x=c) H d v
  | (k, d), _, hs, h => by
    unfold cX at h⊢;exact⟨h.1,ah.out hc (by simp at hs;omega) h.2⟩
end
def jH(G:Gx)(ρ:Rh)(te:TE)(Φ:PyData->Prop):Prop:=∀nb σ H (Q:VK),Wd G nb ρ σ H->(∀v H' d,Φ d->Step G.B H H'->ah (λa=>H a≠none) H' d v->Q v H')->te σ H Q
section
variable{G:Gx}{ρ:Rh}{ta tb te:TE}{t:TA}{E:DE}{i j k m:Nat}{f:Bool}{K:PySem.W.Frag}{Φ:PyData->Prop}
def Wd.MP(W:Wd G nb ρ σ H)(s:Step G.B H H1)(h:H a≠none):H1 a≠none:=λe=>h (W.none_of s e)
def jH.mO{F:DF}(hm:bW F)(e:ρ[i]?=some .az)(h:Av G ρ t λes=>es.length+1=n/\F (es.map (·.2)) λf d=>f=true/\Φ d):jH G ρ (gY (ir n F) [] E0 (bN (dD i) t)) Φ:=λnb σ H Q W z=>by
 obtain⟨b,l,O,e1,B⟩:=W.Ct e;refine⟨.ref b,e1,h nb σ H _ W λes vs H1 ⟨hl,p⟩ s1 J=>?_⟩;have W1:=W.step s1;show ir n F ((V.ref b::vs)++[]) H1 Q E0;rw[fW];have hb:∀f,G.S nb f b:=λf=> .inr (.inr (.inl λn=>n b l O rfl));refine⟨by rw[cZ,J.len,hl],b,l,vs,G.S nb (gX es),es.map (·.2),rfl,W1.az b l O,W1.gF,hb _,J.all λz=>z,hm _ _ _ p λf d ⟨hf,hp⟩ v H' bt c hd=>z v H' d hp (s1.trans (.B7 O bt c)) (hd.av λa q=>?_)⟩;exact .inr ⟨hf,W.MP s1 q⟩
def jH.cg{F:DF}(hm:bW F)(h:Av G ρ t λes=>es.length=n/\F (es.map (·.2)) λf d=>f=true/\Φ d):jH G ρ (gY (aM n F) [] E0 t) Φ:=λnb σ H Q W z=>
 h nb σ H _ W λes vs H1 ⟨hl,p⟩ s1 J=>by
  have W1:=W.step s1;rw[fW];refine⟨by rw[J.len,hl],G.S nb (gX es),es.map (·.2),W1.gF,J.all λz=>z,hm _ _ _ p λf d ⟨hf,hp⟩ v H' sm hd=>z v H' d hp (s1.trans (.same W1.az sm)) (hd.av λa q=>?_)⟩;exact .inr ⟨hf,W.MP s1 q⟩
def jH.Hb(h:jH G ρ te λd=>∃ds,d= .list ds/\Θ true ds):aq G ρ te Θ:=λnb σ H Q W z=>
 h nb σ H _ W λv H' d ⟨ds,e,p⟩ st hd=>by
  subst e;have h0:=hd;obtain⟨c,xs,rfl,n,hx,u⟩:=hd.dZ;have hc:H c=none:=jm λz=>n z;refine z true c xs H' ds p st hc hx ((af.out h0 (by simp) u).av λx z=>?_);rcases z with z|z
  .exact .inl (W.gF x z)
  .exact .inr z
end
noncomputable def nA(n5:List Int)(prs:ao):Nat:=(prs.filter λpr=>decide (pr.1∈n5)).length
noncomputable def Cq(cs:List ao)(n5:List Int):Bool:=cs.all λprs=>decide (nA n5 prs≠1)
section
variable{G:Gx}{ρ:Rh}{ta tb te:TE}{t:TA}{E:DE}{i j m n:Nat}{f:Bool}{K K2 K3:PySem.W.Frag}{Φ:Pd}
def aq.aaL(i:Nat)(e:ρ[i]?=some (.own a f ds))(h:aq G (ρ.set i (.d f (.list ds))) te λ_ es=>es.all iV=true/\Θ true es):aq G ρ te Θ:=λnb σ H Q W z=>
 h _ σ H Q (Sv.share W e) λf c xs H' es ⟨hs,p⟩ st hc hx hd=>z true c xs H' es p st hc hx (af.jj hs hd)
end
structure R9(cs:List ao)(n5 g:List Int):Prop where
 sub:∃q:Int->Bool,g=n5.filter q
 out:Cq cs g=true
 max:∀T:List Int,(∀x∈T,x∈n5)->Cq cs T=true->∀x∈T,x∈g
def R9.mem{n5 g:List Int}(h:R9 cs n5 g):∀x∈g,x∈n5:=λx hx=>by
 obtain⟨q,e⟩:=h.sub;rw[e] at hx;exact(jw.mp hx).1
noncomputable def KR(row:List Int):Int:=match row.getLast? with|none=>0|some l=>l+1
noncomputable def Yb(n:Int)(a:List Int):List Int:=(cv (n-KR a).toNat).map λ(i:Nat)=>KR a+(i:Int)
noncomputable def ext(n:Int)(a:List Int):List (List Int):=(Yb n a).map λp=>a++[p]
def Lk{c:Type}{φ:α->c}{O G:List c}(h:O.Perm G):∀xs:List α,G=xs.map φ->∃ys:List α,O=ys.map φ/\ys.Perm xs:=by
  induction h with
  |nil=>intro xs e;exact⟨[],rfl,by cases xs<;>first|exact .nil|cases e⟩
  | cons x _ ih =>
    intro xs e;cases xs with
    |nil=>cases e
    | cons a xs =>
      obtain⟨e1,e2⟩:=t7 e;obtain⟨ys,e3,p⟩:=ih xs e2;exact⟨a::ys,by rw[e3,e1];rfl,p.cons a⟩
  | swap x y l =>
    intro xs e
    match xs,e with
    | a :: b :: xs, e =>
      obtain⟨e1,e2⟩:=t7 e;obtain⟨e3,e4⟩:=t7 e2;exact⟨b::a::xs,by rw[e1,e3,e4];rfl, .swap a b xs⟩
  | trans _ _ f d =>
    intro xs e;obtain⟨ys,e1,j⟩:=d xs e;obtain⟨zs,e2,p2⟩:=f ys e1;exact⟨zs,e2,p2.trans j⟩
noncomputable def gI(r:List Int)(i:Nat):Int:=r.getD i 0
noncomputable def co(prs:ao)(j:Nat):Int:=(prs.map λpr=>if pr.1.toNat=j then pr.2 else 0).sum
def HB(p:Int)(m:Nat)(prs:ao):Prop:=(prs.map (·.1)).Nodup/\prs.length<=1000/\∀pr∈prs,0<=pr.1/\pr.1<m/\1<=pr.2/\pr.2<p
theorem ly{P:(ax->Prop)->Prop}{H:Hp}(hP:∀{S S':ax->Prop},(∀a,S' a->S a)->P S->P S')(hf:∀{S:ax->Prop} {p:ax},H p=none->P S->P λa=>S a\/a=p):∀{L:List ax} {S:ax->Prop},(∀a∈L,H a=none)->P S->P λa=>S a\/a∈L
 |[],S,_,h=>hP (λa z=>z.elim (λz=>z) λz=>by cases z) h
 | p :: L, S, hL, h => hP (λa z => by
   rcases z with z|z
   .exact .inl (.inl z)
   .rcases aK.mp z with z|z
    .exact .inr z
    .exact .inl (.inr z)) (hf (hL p (cP ..)) (ly hP hf (L:=L) (λa m=>hL a (cF _ m)) h))
section
variable{G:Gx}{ρ:Rh}{nb:ax->Prop}{σ:qr}{H H1:Hp}{i:Nat}{L:List ax}{c c':Cu}{f:Bool}{d:PyData}{p:ax}{o:HO}{E:DE}
def Wd.Lg(W:Wd G nb ρ σ H)(s1:Step G.B H H1)(ha:∀a∈L,H a=none)(e:∀a∈L,H1 a≠none):Wd G (λx=>nb x\/x∈L) ρ σ H1/\(∀a∈L,NB G.B a)/\∀f x,G.S (λx=>nb x\/x∈L) f x->(G.S nb f x\/x∈L):=by
  have hN:∀a∈L,NB G.B a:=λa m=>NB.new W.az (ha a m);have hA:∀f x,G.S (λx=>nb x\/x∈L) f x->(G.S nb f x\/x∈L):=λf x z=>by
    rcases z with (z|z)|z|z|z
    · exact .inl (.inl z)
    · exact .inr z
    · exact .inl (.inr (.inl z))
    · exact .inl (.inr (.inr (.inl z)))
    · exact .inl (.inr (.inr (.inr z)))
  have W1:=W.step s1;have A:∀{S:ax->Prop} {d:PyData} {v:V},ah S H d v->ah (λa=>S a\/a∈L) H d v:=λ{S d v} h=>ly (P:=λS=>ah S H d v) (λz h=>ah.av z h) (λhp h=>ah.fresh hp h) ha h;have D:∀{S:ax->Prop} {d:List PyData} {v:List V},af S H d v->af (λa=>S a\/a∈L) H d v:=λ{S d v} h=>ly (P:=λS=>af S H d v) (λz h=>af.av z h) (λhp h=>af.fresh hp h) ha h;have y:∀{S:ax->Prop} {d:List (PyData×PyData)} {v:List (Key×V)},aB S H d v->aB (λa=>S a\/a∈L) H d v:=λ{S d v} h=>ly (P:=λS=>aB S H d v) (λz h=>aB.av z h) (λhp h=>aB.fresh hp h) ha h;have C:∀{S:ax->Prop} {d:HD} {v:V},gR S H d v->gR (λa=>S a\/a∈L) H d v:=λ{S d v} h=>ly (P:=λS=>gR S H d v) (λz h=>gR.av h z) (λhp h=>gR.fresh h hp) ha h;refine⟨?_,hN,hA⟩;refine⟨W1.az,λx n=>?_,W1.old,λx n q=>?_,W.gA,W.len,W.gB,λh m=>((C (W.fL h m)).keep (s1.but λx z=> .inl (.inr (.inr (.inl z))))).av (hA h.1),λj s e'=>?_,W.apart,W.g9,W.fu⟩
  · rcases n with n|n
    · exact W1.live x n
    · exact e x n
  · rcases n with n|n
    · exact W.dY x n q
    · cases z:G.H0 x with
      |none=>rfl
      |some o=>have:=ha x n;rw[W.old x o q z] at this;cases this
  · obtain⟨x,e1,h⟩:=W.ok j s e'
    refine⟨x,e1,?_⟩;cases s with
    |no=>trivial
    |d f d=>obtain⟨v,e,h⟩:=h;exact⟨v,e,((A h).keep (s1.but λx z=> .inl (.inr (.inr (.inl z))))).av (hA f)⟩
    |own c f es=>obtain⟨e,n,q,xs,hx,hd⟩:=h;exact⟨e, .inl n,q,xs,s1.1 _ _ q hx,((D hd).keep (s1.but λx z=> .inl (.inr (.inr (.inl z))))).av (hA f)⟩
    |az=>exact h
    |raw v=>exact h
    |cE c f es=>obtain⟨e,n,q,xs,hx,hd⟩:=h;exact⟨e, .inl n,q,xs,s1.1 _ _ q hx,((y hd).keep (s1.but λx z=> .inl (.inr (.inr (.inl z))))).av (hA f)⟩
    | cu c =>
      obtain⟨e,n,q⟩:=h;refine⟨e,λa ha=>⟨.inl (n a ha).1,(n a ha).2⟩,c.av (hA c.f) (c.keep (.of λx o hx e=>s1.1 x o ?_ e) (ly (P:=λS=>c.P S H) (λz h=>c.av z h) (λhp h=>c.fresh hp h) ha q))⟩;rcases hx with hx|hx
      · exact jm λz=>hx (.inl (.inr (.inr (.inl z))))
      · exact(n x hx).2
def qy.FN{x:Option V}{s:Sl}(h:qy G nb H x s):∀a∈s.adr,nb a/\NB G.B a:=by
 cases s with
 |own a f ds=>intro x hx;rw[aY.mp hx];exact⟨h.2.1,h.2.2.1⟩
 |cE a f ds=>intro x hx;rw[aY.mp hx];exact⟨h.2.1,h.2.2.1⟩
 |cu c=>exact h.2.1
 |no=>intro _ z;cases z
 |d _ _=>intro _ z;cases z
 |az=>intro _ z;cases z
 |raw _=>intro _ z;cases z
def Wd.CQ(W:Wd G nb ρ σ H)(s1:Step G.B H H1)(ha:∀a∈c.F,H a=none)(e:∀a∈c.F,H1 a≠none)(hP:c.P (λx=>G.S nb c.f x\/x∈c.F) H1):Wd G (λx=>nb x\/x∈c.F) (ρ.set i (.cu c)) (σ.set i (some c.v)) H1:=by
 obtain⟨W2,hN,hA⟩:=W.Lg s1 ha e;refine W2.set ⟨rfl,λa m=>⟨.inr m,hN a m⟩,c.av (hA c.f) hP⟩ (λ_ _ _ z=>by cases z) (λ_ _ _ z=>by cases z) (λx hx j t hj ht hc z=>?_);obtain⟨y,e1,h⟩:=W.ok j _ ht;exact W.live x (h.FN x z).1 (ha x hx)
def Wd.R6(W:Wd G nb ρ σ H)(e:ρ[i]?=some (.cu c))(hp:p∈c.F)(hv:c'.v=c.v)(I:∀a∈c'.F,a∈c.F)(h:c'.P (G.S nb c'.f) (upd H p o)):Wd G nb (ρ.set i (.cu c')) σ (upd H p o):=by
 obtain⟨x,e1,h1,h2,h3⟩:=W.ok i _ e;subst h1;have hil:i<ρ.length:=(bV.mp e).1;have W0:Wd G nb (ρ.set i .no) (σ.set i (some c.v)) H:=W.set trivial λ_ _ _ z=>by cases z
 have r:∀(j:Nat) s,(ρ.set i .no)[j]?=some s->s≠ .no->p∉s.adr:=λj s hs hn=>by
  have hij:i≠j:=λz=>by subst z;rw[dB hil] at hs;cases hs;exact hn rfl
  rw[bO hij] at hs;exact W.fu i j c s hij e hs p hp
 have W1:Wd G nb (ρ.set i .no) (σ.set i (some c.v)) (upd H p o):=W0.write (h2 p hp).1 (h2 p hp).2 (λj a f ds hs z=>r j _ hs (by intro z;cases z) (aY.mpr z.symm)) (λj a f ds hs z=>r j _ hs (by intro z;cases z) (aY.mpr z.symm)) (λj c hs=>r j _ hs (by intro z;cases z))
 have W2:=W1.set (i:=i) (s:= .cu c') (x:=some c.v) ⟨by rw[hv],λa m=>h2 a (I a m),h⟩ (λ_ _ _ z=>by cases z) (λ_ _ _ z=>by cases z) (λx hx j t hj ht hc=>by
  rw[bO (cO hj)] at ht;exact W.fu i j c t (cO hj) e ht x (I x hx))
 rw[mS,mS] at W2;have:σ.set i (some c.v)=σ:=by
  apply pG;intro j;by_cases hij:i=j;·subst hij;rw[dB (by rw[W.len];exact hil),e1]
  .rw[bO hij]
 rwa[this] at W2
def Wd.aaK(W:Wd G nb ρ σ H)(e:ρ[i]?=some (.cu c))(h:c.P (G.S nb c.f) H->(∀a∈c.F,G.H0 a=none/\¬G.A a/\NB G.B a)->ah (G.S (λx=>nb x/\x∉c.F) f) H d c.v):Wd G (λx=>nb x/\x∉c.F) (ρ.set i (.d f d)) σ H:=by
 obtain⟨x,e1,h1,h2,h3⟩:=W.ok i _ e;subst h1;have hil:i<ρ.length:=(bV.mp e).1;have W0:Wd G nb (ρ.set i .no) (σ.set i (some c.v)) H:=W.set trivial λ_ _ _ z=>by cases z
 have W1:Wd G (λx=>nb x/\x∉c.F) (ρ.set i .no) (σ.set i (some c.v)) H:=by
  refine⟨W0.az,λx n=>W0.live x n.1,W0.old,λx n=>W0.dY x n.1,W0.gA,W0.len,W0.gB,λh m=>(W0.fL h m).av (cW (λz=>z) λ_ z=>z.1),λj s e'=>?_,W0.apart,W0.g9,W0.fu⟩;obtain⟨x,nH,L⟩:=W0.ok j s e';refine⟨x,nH,?_⟩;have hij:s≠ .no->i≠j:=λn z=>by subst z;rw[dB hil] at e';cases e';exact n rfl
  have ap:s≠ .no->∀a∈s.adr,a∉c.F:=λn a m z=>by
   have hij:=hij n;rw[bO hij] at e';exact W.fu i j c s hij e e' a z m
  cases s with
  |no=>trivial
  |d f d=>obtain⟨v,e,L⟩:=L;exact⟨v,e,L.av (cW (λz=>z) λ_ z=>z.1)⟩
  |own a f es=>obtain⟨e2,n,q,xs,hx,hd⟩:=L;exact⟨e2,⟨n,ap (by intro z;cases z) a (aY.mpr rfl)⟩,q,xs,hx,hd.av (cW (λz=>z) λ_ z=>z.1)⟩
  |az=>exact L
  |raw v=>exact L
  |cE a f es=>obtain⟨e2,n,q,xs,hx,hd⟩:=L;exact⟨e2,⟨n,ap (by intro z;cases z) a (aY.mpr rfl)⟩,q,xs,hx,hd.av (cW (λz=>z) λ_ z=>z.1)⟩
  |cu c2=>obtain⟨e2,n,q⟩:=L;exact⟨e2,λa m=>⟨⟨(n a m).1,ap (by intro z;cases z) a m⟩,(n a m).2⟩,c2.av (cW (λz=>z) λ_ z=>z.1) q⟩
 have W2:=W1.pU (i:=i) (f:=f) (d:=d) (v:=c.v) (h h3 λa m=>⟨W.dY a (h2 a m).1 (h2 a m).2,λz=>W.gA a z (W.dY a (h2 a m).1 (h2 a m).2),(h2 a m).2⟩);rw[mS,mS] at W2;have:σ.set i (some c.v)=σ:=by
  apply pG;intro j;by_cases hij:i=j;·subst hij;rw[dB (by rw[W.len];exact hil),e1]
  .rw[bO hij]
 rwa[this] at W2
end
noncomputable def Ad(prs:ao)(pl:Int):Option Int:=(prs.find? λpr=>decide (pr.1=pl)).map (·.2)
noncomputable def IG(p:Int)(c:Nat):Option Int->List (Int×Int)
 |some f=>[((c:Int),sol p f 1)]
 |none=>[]
noncomputable def Ke(p:Int)(cs:List ao)(pl:Int)(i:Nat):List (Int×Int):=(cv i).flatMap λc=>IG p c (Ad (cs.getD c []) pl)
theorem acv{pl:Int}{q:Int×Int}(hi:i<=cs.length)(h:q∈Ke p cs pl i):∃(c:Nat) (prs:ao) (f:Int),cs[c]?=some prs/\c<i/\Ad prs pl=some f/\q=((c:Int),sol p f 1):=by
  unfold Ke at h;obtain⟨c,hc,hq⟩:=wV.mp h;have hc:=lY.mp hc;have e:cs[c]?=some cs[c]:=aS ∅;rw[i9,e] at hq;cases hf:Ad cs[c] pl with
  |none=>simp[IG,hf] at hq
  | some f =>
    have hq:q∈IG p c (Ad cs[c] pl):=hq;rw[hf] at hq;exact⟨c,cs[c],f,e,hc,hf,aY.mp hq⟩
noncomputable def wj(p:Int)(cs:List ao)(ws:List Int)(pl:Int):List Int:=
 (Ke p cs pl cs.length).map λq=>(ws.getD pl.toNat 0-aT (cs.getD q.1.toNat []) (ws.map some)%p*q.2)%p
structure Ec(p n:Int)(cs:List ao):Prop where
 hp:gu p
 qZ:p<10^40
 n0:1<=n
 n1:n<=400
 cl:cs.length<=400
 ok:∀prs∈cs,HB p n.toNat prs
noncomputable def NY(L:List Int)(w x:Int):Bool:=decide (x≠w) && decide (L.length<2*L.count x)
noncomputable def xS(L:List Int)(w:Int):List Int:=(L.filter (NY L w)).take 1
@[reducible] noncomputable def vN(t:Int×Int×Int):PyData:= .tuple [.int t.1, .int t.2.1, .int t.2.2]
noncomputable def RC(p:Int)(cs:List ao)(ws:List Int)(i:Nat):List (Int×Int×Int):=(xS (wj p cs ws (i:Int)) (ws.getD i 0)).map λx=>((i:Int),ws.getD i 0,x)
noncomputable def wG(p:Int)(cs:List ao)(ws:List Int)(m:Nat):List (Int×Int×Int):=(cv m).flatMap (RC p cs ws)
noncomputable def brk(p:Int)(cs:List ao)(ws:List Int):Nat:=cs.countP λprs=>decide (aT prs (ws.map some)%p≠0)
noncomputable abbrev LW:=Int×Int×Int
theorem Vh(b:List LW):ed (.list (b.map vN))=true:=by
 have h:ee (b.map vN)<=1/\df (b.map vN)=true:=by
  induction b with
  |nil=>simp[ee,df]
  |cons a r ih=>simp[vN,ee,il,df,ek,ih.2];have:=ih.1;omega
 unfold ed;simp only[ek,il,h.2,EC];have:=h.1;simp;omega
def VH:ed (.list [])=true:=by with_unfolding_all rfl
def V9(b:List LW):(fo (.list (b.map vN)) (.list []) !=false)=decide (b=[]):=by
 cases b<;>simp[fo,gg]
structure oQ(P:cj)(w:dc)(K:PySem.W.Frag)(mg:Str->Option ar)(base:e6)(C:ax)(m:Str)(k:Nat)(ps:List Str)(sp:Sp):Prop where
 cl:gm K C
 ex:∃f fd,aU P w K mg base bf k f fd ps sp/\Binds K fd ps []/\Meth K C m f
structure G3(P:cj)(w:dc)(K:PySem.W.Frag)(mg:Str->Option ar)(base:e6)(C:ax)(x:Str)(k:Nat)(ps:List Str)(sp:Sp):Prop where
 ex:∃f fd,aU P w K mg base bf k f fd ps sp/\Binds K fd ps []/\Mk K C f/\mg x=some (.ref C)
section
variable{X:Cx}{C:ax}{k:Nat}{ps:List Str}{sp:Sp}{x m:Str}{p pos apos:Pos}{e o:eM}{es:List eM}{ta:TE}{t:TA}
def yW{pl:Sem Bool}(c:oQ X.prog X.w X.K X.mg X.base C m k ps sp)(he:PE X o ta)(hr:eV k X.A)
  (ht : eval (.Call (.Attribute o m apos) [] [] pos) X.env = (do
   let ov<-eval o X.env
   standAt apos.atName
   let (f,first)<-holding [ov] (rB ov m pl)
   callWith pos f first (lS pos (c6 [] X.env)) (C6 pos (r3 [] X.env))):=by rfl):
  PE X (.Call (.Attribute o m apos) [] [] pos) (ud C m sp [] E0 ta cI):=by
 obtain⟨f,fd,F,b,mm⟩:=c.ex;exact Ut (pl:=pl) he c.cl mm F hr b .nil z5 ht
def Wl(c:G3 X.prog X.w X.K X.mg X.base C x k ps sp)(hr:eV (k+1) X.A)(ha:PA X (e::es) t)(hg:Gl X x:=by rfl)
  (a:(x==("__debug__":Str))=false:=by decide) (he:c6 (e::es) X.env=(false,eval e X.env)::c6 es X.env:=by rfl) (hpl:(lS pos (c6 es X.env)).any (·.1)=false:=by rfl):
  PE X (.Call (.Name x p) (e::es) [] pos) (GX C sp [] E0 t):=by
 obtain⟨f,fd,F,b,M,m⟩:=c.ex;exact Zj M F hr hg m b .nil z5 ha a he hpl
end
section
variable{G:Gx}{ρ:Rh}{nb:ax->Prop}{σ:qr}{H H':Hp}{i:Nat}{c c':Cu}{E:DE}
def Wd.Np(W:Wd G nb ρ σ H)(e:ρ[i]?=some (.cu c))(p:∀a o,a∉c.F->H a=some o->H' a=some o)(hv:c'.v=c.v)(I:∀a∈c'.F,a∈c.F\/H a=none\/(nb a/\NB G.B a/\∀(j:Nat) s,ρ[j]?=some s->a∉s.adr))(hl:∀a,a∈c.F\/a∈c'.F->H' a≠none)
    (h:c'.P (G.S (λx=>nb x\/x∈c'.F) c'.f) H'):Wd G (λx=>nb x\/x∈c'.F) (ρ.set i (.cu c')) σ H':=by
  obtain⟨M,e1,h1,h2,h3⟩:=W.ok i _ e;subst h1;have hil:i<ρ.length:=(bV.mp e).1;obtain⟨L,J⟩:∃L,L=c'.F.filter λa=>(H a).isNone:=⟨_,rfl⟩;have ha:∀a∈L,H a=none:=λa m=>by
    rw[J,jw] at m;exact LX.mp m.2
  have E:∀a∈c'.F,nb a\/a∈L:=λa m=>by
    rcases I a m with z|z|z
    · exact .inl (h2 a z).1
    · exact .inr (by rw[J];exact jw.mpr ⟨m,LX.mpr z⟩)
    · exact .inl z.1
  have hA:∀f x,G.S (λx=>nb x\/x∈c'.F) f x->(G.S nb f x\/x∈L):=λf x z=>by
    rcases z with (z|z)|z|z|z
    · exact .inl (.inl z)
    · exact(E x z).elim (λz=> .inl (.inl z)) .inr
    · exact .inl (.inr (.inl z))
    · exact .inl (.inr (.inr (.inl z)))
    · exact .inl (.inr (.inr (.inr z)))
  have bt:∀f,bu (G.S (λx=>nb x\/x∈c'.F) f) H H':=λf a o n q=>p a o (λz=>n (.inl (.inl (h2 a z).1))) q;have A:∀{S:ax->Prop} {d:PyData} {v:V},ah S H d v->ah (λa=>S a\/a∈L) H d v:=λ{S d v} h=>ly (P:=λS=>ah S H d v) (λz h=>ah.av z h) (λhp h=>ah.fresh hp h) ha h;have D:∀{S:ax->Prop} {d:List PyData} {v:List V},af S H d v->af (λa=>S a\/a∈L) H d v:=λ{S d v} h=>ly (P:=λS=>af S H d v) (λz h=>af.av z h) (λhp h=>af.fresh hp h) ha h;have y:∀{S:ax->Prop} {d:List (PyData×PyData)} {v:List (Key×V)},aB S H d v->aB (λa=>S a\/a∈L) H d v:=λ{S d v} h=>ly (P:=λS=>aB S H d v) (λz h=>aB.av z h) (λhp h=>aB.fresh hp h) ha h;have C:∀{S:ax->Prop} {d:HD} {v:V},gR S H d v->gR (λa=>S a\/a∈L) H d v:=λ{S d v} h=>ly (P:=λS=>gR S H d v) (λz h=>gR.av h z) (λhp h=>gR.fresh h hp) ha h;have u:∀a∈c'.F,NB G.B a:=λa m=>(I a m).elim (λz=>(h2 a z).2) λz=>z.elim (λz=>NB.new W.az z) λz=>z.2.1;have K:kJ G.B H':=λb l eb=>by
    obtain⟨ns,t,c0,st,n,g1,g2,N⟩:=W.az b l eb;have hb:b∉c.F:=λz=>(h2 b z).2 b l eb rfl;have pI:l∉c.F:=λz=>by
      obtain⟨_,_,_,_,_,_,q2,_⟩:=W.gB b l eb;rw[W.dY l (h2 l z).1 (h2 l z).2] at q2;cases q2
    exact⟨ns,t,c0,st,n,p _ _ hb g1,p _ _ pI g2,N⟩
  have r:∀(j:Nat) s,i≠j->ρ[j]?=some s->∀a∈s.adr,a∉c.F:=λj s hij hs a m z=>W.fu i j c s hij e hs a z m;refine⟨K,λa n=>?_,λa o n q=>?_,λa n q=>?_,W.gA,by rw[jx];exact W.len,W.gB,λh m=>((C (W.fL h m)).av (hA h.1)).keep (bt h.1),λj s e'=>?_,?_,?_,?_⟩
  · rcases n with n|n
    · by_cases z:a∈c.F
      · exact hl a (.inl z)
      · cases q:H a with
        |none=>exact absurd q (W.live a n)
        |some o=>rw[p a o z q];exact gy _
    · exact hl a (.inr n)
  · refine p a o (λz=>?_) (W.old a o n q)
    rw[W.dY a (h2 a z).1 n] at q;cases q
  · rcases n with n|n
    · exact W.dY a n q
    · rcases I a n with z|z|z
      · exact W.dY a (h2 a z).1 q
      · cases w:G.H0 a with
        |none=>rfl
        |some o=>rw[W.old a o q w] at z;cases z
      · exact W.dY a z.1 q
  · by_cases hij:i=j
    · subst hij
      rw[dB hil] at e';cases e';exact⟨some c.v,e1,by rw[hv],λa m=>⟨.inr m,u a m⟩,h⟩
    · rw[bO hij] at e'
      obtain⟨x,e2,q⟩:=W.ok j s e';refine⟨x,e2,?_⟩;have ap:=r j s hij e';cases s with
      |no=>trivial
      |d f d=>obtain⟨v,e,h⟩:=q;exact⟨v,e,((A h).av (hA f)).keep (bt f)⟩
      |own a f es=>obtain⟨e,n,q,xs,hx,hd⟩:=q;exact⟨e, .inl n,q,xs,p _ _ (ap a (aY.mpr rfl)) hx,((D hd).av (hA f)).keep (bt f)⟩
      |az=>exact q
      |raw v=>exact q
      |cE a f es=>obtain⟨e,n,q,xs,hx,hd⟩:=q;exact⟨e, .inl n,q,xs,p _ _ (ap a (aY.mpr rfl)) hx,((y hd).av (hA f)).keep (bt f)⟩
      | cu c2 =>
        obtain⟨e,n,q⟩:=q;refine⟨e,λa ha=>⟨.inl (n a ha).1,(n a ha).2⟩,c2.keep (.of λx o hx e=>p x o ?_ e) (c2.av (hA c2.f) (ly (P:=λS=>c2.P S H) (λz h=>c2.av z h) (λhp h=>c2.fresh hp h) ha q))⟩;rcases hx with hx|hx
        · exact λz=>hx (.inl (.inl (h2 x z).1))
        · exact ap x hx
  all_goals
    intro j k
  · intro a f as c2 g cs hjk q1 q2
    have hj:i≠j:=λz=>by subst z;rw[dB hil] at q1;cases q1
    have hk:i≠k:=λz=>by subst z;rw[dB hil] at q2;cases q2
    rw[bO hj] at q1;rw[bO hk] at q2;exact W.apart j k a f as c2 g cs hjk q1 q2
  · intro a f as c2 g cs hjk q1 q2
    have hj:i≠j:=λz=>by subst z;rw[dB hil] at q1;cases q1
    have hk:i≠k:=λz=>by subst z;rw[dB hil] at q2;cases q2
    rw[bO hj] at q1;rw[bO hk] at q2;exact W.g9 j k a f as c2 g cs hjk q1 q2
  · intro c2 s hjk q1 q2 a m z
    have O:∀(j:Nat) s,i≠j->ρ[j]?=some s->∀a∈s.adr,a∉c'.F:=λj s hij hs a m z=>by
      rcases I a z with w|w|w
      · exact r j s hij hs a m w
      · obtain⟨x,_,q⟩:=W.ok j s hs
        exact W.live a (q.FN a m).1 w
      · exact w.2.2 j s hs m
    by_cases hj:i=j
    · subst hj
      rw[dB hil] at q1;cases q1;rw[bO hjk] at q2;exact O k s hjk q2 a z m
    · rw[bO hj] at q1
      by_cases hk:i=k
      · subst hk
        rw[dB hil] at q2;cases q2;exact O j _ hj q1 a m z
      · rw[bO hk] at q2
        exact W.fu j k c2 s hjk q1 q2 a m z
end
def gP(G:Gx)(ρ:Rh)(te:TE)(Φ:Rh->Pd):Prop:=∀nb σ H (Q:VK),Wd G nb ρ σ H->(∀aP C f v H' d,Φ C f d->Wd G aP C σ H'->ah (G.S aP f) H' d v->Q v H')->te σ H Q
def Cj(G:Gx)(ρ:Rh)(ta:TA)(Φ:Rh->List Fd->Prop):Prop:=∀nb σ H (Q:List V->Hp->Prop),Wd G nb ρ σ H->(∀aP C es vs H',Φ C es->Wd G aP C σ H'->lg G aP H' es vs->Q vs H')->ta σ H Q
section
variable{G:Gx}{ρ:Rh}{Φ:Rh->Pd}{ta tb te:TE}{t:TA}{c u:TT}{i:Nat}{E:DE}{s s':TS}
def gP.of(h:Ev G ρ te (Φ ρ)):gP G ρ te Φ:=λnb σ H Q W z=>h nb σ H Q W λf v H' d q st hv=>z nb ρ f v H' d q (W.step st) hv
def Cj.cons{Θ:Rh->List Fd->Prop}(h:gP G ρ te λC f d=>Av G C t λes=>Θ C ((f,d)::es)):Cj G ρ (bN te t) Θ:=λnb σ H Q W z=>
 h nb σ H _ W λaP C f v H1 d j W1 J=>j aP σ H1 _ W1 λes vs H2 p2 s2 q2=>z aP C _ _ H2 p2 (W1.step s2) ⟨v,vs,rfl,J.keep s2.dX,q2⟩
namespace Sv
def Ka(h:gP G ρ te λC f d=>Gv G C g f d E.nx):Sv G ρ (gD te g) E:=λnb σ H D W K=>h nb σ H _ W λaP C f v H1 d q W1 hv=>q aP σ H1 v _ W1 hv λL C p W'=>K.nx aP C L H1 p W'
def retS(h:gP G ρ te λ_=>E.rt):Sv G ρ (nZ te) E:=λnb σ H D W K=>h nb σ H _ W λaP C f v H1 d q W1 hv=>K.rt aP C σ f v H1 d q W1 (hv.av (cW (λz=>z) λ_ z=>z.elim))
def JR(h:gP G ρ te λC f d=>∀nb v H,ah (G.S nb f) H d v->E.rw nb C v H):Sv G ρ (nZ te) E:=λnb σ H D W K=>h nb σ H _ W λaP C f v H1 d q W1 hv=>K.rw aP C σ v H1 (q aP v H1 hv) W1
end Sv
end
structure sj(c c':Cu)(H H':Hp):Prop where
 v:c'.v=c.v
 f:c'.f=false
 sub:∀a∈c.F,a∈c'.F
 new:∀a∈c'.F,a∈c.F\/H a=none
 kp:∀a o,a∉c.F->H a=some o->H' a=some o
 lv:∀a∈c'.F,H' a≠none
abbrev CF:=Cu->List PyData->(Cu->Pd)->Prop
def qt(F:CF):Prop:=∀c ds (Φ Ψ:Cu->Pd),F c ds Φ->(∀c f d,Φ c f d->Ψ c f d)->F c ds Ψ
def jo(n:Nat)(F:CF):Sp:=λvs H Q _=>vs.length=n/\∃(nb:ax->Prop) (c:Cu) (ws:List V) (ds:List PyData),vs=c.v::ws/\iX nb H/\(∀a∈c.F,nb a)/\c.f=false/\c.P nb H/\af nb H ds ws/\
 F c ds λc' f d=>∀v H',sj c c' H H'->c'.P (λa=>nb a\/a∈c'.F) H'->ah (λa=>nb a\/a∈c'.F\/(f=true/\H a≠none)) H' d v->Q v H'
section
variable{G:Gx}{ρ:Rh}{Φ:Rh->Pd}{ta tb te:TE}{t:TA}{i:Nat}{E:DE}{c:Cu}{C:ax}{m:Str}{n:Nat}{F:CF}
def gP.abf{Q:VK}{es:List Fd}(hm:qt F)(e:ρ[i]?=some (.cu c))(W1:Wd G nb ρ σ H1)(J:lg G nb H1 es vs)(hl:es.length+1=n)(b:c.f=false)(p:F c (es.map (·.2)) λc' f d=>Φ (ρ.set i (.cu c')) f d)
  (z:∀aP C f v H' d,Φ C f d->Wd G aP C σ H'->ah (G.S aP f) H' d v->Q v H'):jo n F (c.v::(vs++[])) H1 Q E0:=by
 rw[fW];obtain⟨M,e1,h1,h2,h3⟩:=W1.ok i _ e;refine⟨by rw[cZ,J.len,hl],G.S nb false,c,vs,es.map (·.2),rfl,W1.gF,λa m=> .inl (h2 a m).1,b,by rw[b] at h3;exact h3,J.all (f:=false) (λz=>by cases z),hm _ _ _ _ p λc' f d hp v H' to hP hd=>?_⟩;refine z _ _ f v H' d hp (W1.Np (c':=c') e to.kp to.v (λa m=>(to.new a m).imp id .inl) (λa m=>m.elim (λm=>to.lv a (to.sub a m)) λm=>to.lv a m) (c'.av (λa y=>?_) hP)) (hd.av λa y=>?_)
 .rw[to.f] at y;rcases y with (y|y)|y|y|y
  .exact .inl (.inl y)
  .exact .inr y
  .exact .inl (.inr (.inl y))
  .exact .inl (.inr (.inr (.inl y)))
  .cases y.1
 .rcases y with (y|y)|y|y|y
  .exact .inl (.inl y)
  .exact .inr (.inl y)
  .exact .inl (.inr (.inl y))
  .exact .inl (.inr (.inr (.inl y)))
  .exact .inr (.inr ⟨y.1,W1.gF (f:=true) a (.inr (.inr (.inr ⟨rfl,y.2⟩)))⟩)
def gP.zj(hm:qt F)(e:ρ[i]?=some (.cu c))(b:c.f=false)(hi:∀S H,c.P S H->∃a dx fs,c.v= .ref a/\H a=some (.ins C dx fs)/\fs.lookup m=none)
  (h:Av G ρ t λes=>es.length+1=n/\F c (es.map (·.2)) λc' f d=>Φ (ρ.set i (.cu c')) f d):gP G ρ (ud C m (jo n F) [] E0 (dD i) t) Φ:=λnb σ H Q W z=>by
 obtain⟨M,e1,h1,h2,h3⟩:=W.ok i _ e;subst h1;obtain⟨a,dx,fs,g1,g2,N⟩:=hi _ _ h3;refine⟨c.v,e1,a,dx,fs,g1,g2,N,h nb σ H _ W λes vs H1 ⟨hl,p⟩ s1 J=>?_⟩;exact gP.abf hm e (W.step s1) J hl b p z
end
noncomputable def qH(F:List ax)(H:Hp)(nb:ax->Prop):Gx:=⟨none,λa=>if a∈F then none else H a,λa=>nb a/\a∉F,[]⟩
structure EM(c c':Cu):Prop where
 v:c'.v=c.v
 f:c'.f=false
 sub:∀a∈c.F,a∈c'.F
noncomputable def objE(G:Gx)(c:Cu)(Φ:Cu->Pd):DE where
 nx:=λρ=>∃c',ρ[0]?=some (.cu c')/\EM c c'/\Φ c' true .none
 rt:=λ_ _=>False
 rw:=λnb ρ v H=>∃c' f d,ρ[0]?=some (.cu c')/\EM c c'/\Φ c' f d/\ah (G.S nb f) H d v
section
variable{ρ:Rh}{t:TS}{N:List Str}{ws:List V}{ds:List PyData}{nb:ax->Prop}{H:Hp}{Q:VK}{Φ:Cu->Pd}{c:Cu}
theorem Sv.AA(hl:iX nb H)(I:∀a∈c.F,nb a)(hf:c.f=false)(hP:c.P nb H)(hd:af nb H ds ws)
    (D:∀c' f d v H',Φ c' f d->sj c c' H H'->c'.P (λa=>nb a\/a∈c'.F) H'->ah (λa=>nb a\/a∈c'.F\/(f=true/\H a≠none)) H' d v->Q v H')
    (r:ρ= .cu c::ds.map (Sl.d false)++cq (N.length-(ds.length+1)) .no) (h:Sv (qH c.F H nb) ρ t (objE (qH c.F H nb) c Φ)):t {nx:=λ_ H'=>Q .aL H',rt:=Q} (start N (c.v::ws)) H:=by
  have hlen:=hd.length;have u:∀a,NB (qH c.F H nb).B a:=λa b l e=>by cases e
  have key:∀{aP C L H' c'} {f:Bool} {d:PyData} {v:V},Wd (qH c.F H nb) aP C L H'->C[0]?=some (.cu c')->EM c c'->Φ c' f d->ah ((qH c.F H nb).S aP f) H' d v->Q v H':=λ{aP C L H' c' f d v} W e up p hv=>by
    obtain⟨M,e1,h1,h2,h3⟩:=W.ok 0 _ e;have A0:∀(f:Bool) a,nb a\/a∈c'.F\/(f=true/\H a≠none)->(qH c.F H nb).S aP f a:=λf a z=>by
      by_cases m:a∈c'.F;· exact .inl (h2 a m).1
      have m':a∉c.F:=λz=>m (up.sub a z);rcases z with z|z|z
      · exact .inr (.inl ⟨z,m'⟩)
      · exact absurd z m
      · exact .inr (.inr (.inr ⟨z.1,by show(if a∈c.F then none else H a)≠none;rw[if_neg m'];exact z.2⟩))
    refine D c' f d v H' p ⟨up.v,up.f,up.sub,λa m=>?_,λa o n q=>?_,λa m=>W.live a (h2 a m).1⟩ (c'.av (λa z=>by rw[up.f];exact A0 false a (z.elim .inl λz=> .inr (.inl z))) h3) (hv.av (A0 f))
    · have:=W.dY a (h2 a m).1 (h2 a m).2
      by_cases z:a∈c.F;· exact .inl z
      · exact .inr (by have q:(if a∈c.F then none else H a)=none:=this;rwa[if_neg z] at q)
    · exact W.old a o (u a) (by show(if a∈c.F then none else H a)=_;rw[if_neg n];exact q)
  refine h (λa=>a∈c.F) _ H _ ⟨λ_ _ z=>(by cases z),λa z=>hl a (I a z),λa o _ e=>?_,λa z _=>by show(if a∈c.F then none else H a)=none;rw[if_pos z],λa z=>?_,?_,λ_ _ z=>(by cases z),λ_ m=>(by cases m),λi s e=>?_,?_,?_,?_⟩ ⟨λaP C L H' ⟨c',e,up,p⟩ W=>key W e up p .aL,λ_ _ _ _ q _=>q.elim,λ_ _ _ _ q _=>q.elim,λ_ _ _ _ _ _ _ q _ _=>q.elim,λaP C L v H' ⟨c',f,d,e,up,p,hv⟩ W=>key W e up p hv⟩
  · have e:(if a∈c.F then none else H a)=some o:=e
    by_cases z:a∈c.F;· rw[if_pos z] at e;cases e
    · rwa[if_neg z] at e
  · show(if a∈c.F then none else H a)≠none
    rw[if_neg z.2];exact hl a z.1
  · rw[r];unfold start;simp[hlen]
  · rw[r] at e
    unfold start;have av:∀a,(qH c.F H nb).S (λa=>a∈c.F) false a->nb a:=λa z=>by
      rcases z with z|z|z|z
      · exact I a z
      · exact z.1
      · exact absurd (u a) z
      · cases z.1
    cases i with
    |zero=>simp at e;subst e;exact⟨some c.v,by simp,rfl,λa m=>⟨m,u a⟩,by rw[hf];exact c.av av hP⟩
    | succ i =>
      simp only[jk,mV,aZ,cZ] at e⊢;by_cases hi:i<ds.length
      · rw[gW (by rw[ak];exact hi)] at e
        obtain⟨v,d,hv,rfl,q⟩:=l7 hd e;refine⟨some v,?_,v,rfl,q.av av⟩;rw[gW (by rw[ak,hlen];exact hi),cS,hv];rfl
      · rw[iK (by rw[ak];omega),iF] at e
        split at e
        · rename_i h'
          cases e;refine⟨none,?_,trivial⟩;rw[ak] at h';rw[iK (by rw[ak];omega),iF,if_pos (by rw[ak,hlen];exact h')]
        · cases e
  all_goals
    have sl:∀{i:Nat} {s:Sl},ρ[i+1]?=some s->s.adr=[]:=λ{i s} e1=>by
      rw[r] at e1;simp only[jk,mV] at e1;by_cases hi:i<ds.length
      · rw[gW (by rw[ak];exact hi)] at e1
        obtain⟨_,_,_,z,_⟩:=l7 hd e1;subst z;rfl
      · rw[iK (by rw[ak];omega),iF] at e1
        split at e1;· cases e1;rfl
        · cases e1
    have s0:∀{s:Sl},ρ[0]?=some s->s= .cu c:=λ{s} e1=>by rw[r] at e1;simp at e1;exact e1.symm
  · intro i j a f as c2 g cs hij e1
    cases i with
    |zero=>cases s0 e1
    |succ i=>cases sl e1
  · intro i j a f as c2 g cs hij e1
    cases i with
    |zero=>cases s0 e1
    |succ i=>cases sl e1
  · intro i j c2 s hij e1 e2 a m
    cases i with
    | zero =>
      cases j with
      |zero=>exact absurd rfl hij
      |succ j=>rw[sl e2];exact λz=>by cases z
    | succ i =>
      have:=sl e1;rw[show Sl.adr (.cu c2)=c2.F from rfl] at this;rw[this] at m;cases m
end
def Kp.sub{S:ax->Prop}{F b:List ax}(k:Kp S F H H')(h:∀a∈b,a∈F):Kp S b H H':=⟨λa m=>k.own a (h a m),k.lst,k.tup,k.cE⟩
noncomputable def mU(a:ax)(ds:List PyData):Cu where
 v:= .ref a
 F:=[a]
 f:=false
 P:=λS H=>∃xs,H a=some (.lst xs)/\af S H ds xs
 keep:=λk ⟨xs,h,q⟩=>⟨xs,k.own _ (aY.mpr rfl) _ h,af.kp k q⟩
 av:=λz ⟨xs,h,q⟩=>⟨xs,h,q.av z⟩
 fresh:=λz ⟨xs,h,q⟩=>⟨xs,h,q.fresh z⟩
inductive Fl where
 |d (d:PyData)|cu (c:Cu)
noncomputable def Fl.adr:Fl->List ax
 | .d _=>[]
 | .cu c=>c.F
def mz(S:ax->Prop)(H:Hp)(v:V):Fl->Prop
 | .d d=>ah S H d v
 | .cu c=>v=c.v/\c.P S H
noncomputable abbrev Fs:=List (Str×Fl)
def cL(S:ax->Prop)(H:Hp):Fs->List (Str×V)->Prop
 |[],vs=>vs=[]
 |f::fs,vs=>∃v ws,vs=(f.1,v)::ws/\mz S H v f.2/\cL S H fs ws
noncomputable def dG(x dx:ax)(fs:Fs):List ax:=x::dx::fs.flatMap λf=>f.2.adr
def mz.map{S S':ax->Prop}{v:V}{fl:Fl}(h:mz S H v fl)(hd:∀d v,ah S H d v->ah S' H' d v)(hc:∀c,fl= .cu c->c.P S H->c.P S' H'):mz S' H' v fl:=by
 cases fl with
 |d d=>exact hd _ _ h
 |cu c=>exact⟨h.1,hc c rfl h.2⟩
theorem cL.map{S S':ax->Prop}{H H':Hp}:∀{fs:Fs} {vs:List (Str×V)},cL S H fs vs->(∀d v,ah S H d v->ah S' H' d v)->(∀f∈fs,∀c,f.2= .cu c->c.P S H->c.P S' H')->cL S' H' fs vs
 |[],_,h,_,_=>h
 |f::fs,_,⟨v,ws,e,h1,h2⟩,hd,hc=>⟨v,ws,e,h1.map hd (hc f (cP ..)),cL.map h2 hd λg m=>hc g (cF _ m)⟩
def Ly{x:ax}{fs:Fs}{f:Str×Fl}(h:f∈fs){a:ax}(m:a∈f.2.adr):a∈dG x dx fs:=cF _ (cF _ (wV.mpr ⟨f,h,m⟩))
noncomputable def cG(C x dx:ax)(fs:Fs):Cu where
 v:= .ref x
 F:=dG x dx fs
 f:=false
 P:=λS H=>(dG x dx fs).Nodup/\H dx=some (.own x)/\fs.length<=900/\∃vs,H x=some (.ins C dx vs)/\cL S H fs vs
 keep:=λk ⟨n,h,l,vs,q,r⟩=>⟨n,k.own _ (by simp[dG]) _ h,l,vs,k.own _ (by simp[dG]) _ q,r.map (λd v z=>ah.kp k z) λf m c e z=>c.keep (k.sub λa y=>Ly m (by rw[e];exact y)) z⟩
 av:=λz ⟨n,h,l,vs,q,r⟩=>⟨n,h,l,vs,q,r.map (λd v y=>y.av z) λf m c e y=>c.av z y⟩
 fresh:=λz ⟨n,h,l,vs,q,r⟩=>⟨n,h,l,vs,q,r.map (λd v y=>y.fresh z) λf m c e y=>c.fresh z y⟩
theorem cL.get{S:ax->Prop}{H:Hp}{f:Str}{fl:Fl}:∀{fs:Fs} {vs:List (Str×V)},cL S H fs vs->fs.lookup f=some fl->∃v,vs.lookup f=some v/\mz S H v fl
  |[],_,h,e=>by simp at e
  | (g, x) :: fs, _, ⟨v, ws, e, h1, h2⟩, q => by
    subst e;rw[cA] at q⊢;cases hb:(f==g) with
    |true=>rw[hb] at q;cases q;exact⟨v,rfl,h1⟩
    |false=>rw[hb] at q;exact cL.get h2 q
theorem cL.no{S:ax->Prop}{H:Hp}{f:Str}:∀{fs:Fs} {vs:List (Str×V)},cL S H fs vs->fs.lookup f=none->vs.lookup f=none
  |[],_,h,e=>by unfold cL at h;subst h;rfl
  | (g, x) :: fs, _, ⟨v, ws, e, h1, h2⟩, q => by
    subst e;rw[cA] at q⊢;cases hb:(f==g) with
    |true=>rw[hb] at q;cases q
    |false=>rw[hb] at q;exact cL.no h2 q
noncomputable def fR(f:Str)(v:Fl):Fs->Fs
 |[]=>[(f,v)]
 |(g,x)::r=>if g=f then(g,v)::r else(g,x)::fR f v r
theorem cL.put{S:ax->Prop}{H:Hp}{f:Str}{fl:Fl}{v:V}(hv:mz S H v fl):∀{fs:Fs} {vs:List (Str×V)},cL S H fs vs->cL S H (fR f fl fs) (gE f v vs)
  |[],_,h=>by unfold cL at h;subst h;exact⟨v,[],rfl,hv,rfl⟩
  | (g, x) :: fs, _, ⟨w, ws, e, h1, h2⟩ => by
    subst e;unfold fR gE;by_cases h:g=f;· rw[if_pos h,if_pos h];exact⟨v,ws,rfl,hv,h2⟩
    · rw[if_neg h,if_neg h];exact⟨w,_,rfl,h1,cL.put hv h2⟩
theorem cL.len{S:ax->Prop}{H:Hp}:∀{fs:Fs} {vs:List (Str×V)},cL S H fs vs->vs.length=fs.length
 |[],_,h=>by unfold cL at h;subst h;rfl
 |f::fs,_,⟨v,ws,e,h1,h2⟩=>by subst e;simp[cL.len h2]
def cG.is{x:ax}{fs:Fs}{m:Str}(hm:fs.lookup m=none):∀S H,(cG C x dx fs).P S H->∃a dx' vs,(cG C x dx fs).v= .ref a/\H a=some (.ins C dx' vs)/\vs.lookup m=none:=λS H ⟨n,h,l,vs,q,r⟩=>⟨x,dx,vs,rfl,q,r.no hm⟩
section
variable{G:Gx}{ρ:Rh}{Φ:Pd}{ta tb te:TE}{t:TA}{i:Nat}{E:DE}{C x dx l:ax}{fs:Fs}{K:PySem.W.Frag}{f m:Str}{d:PyData}{ds:List PyData}
def Wd.qb(W:Wd G nb ρ σ H)(e:ρ[i]?=some (.cu (cG C x dx fs))):∃vs,σ[i]?=some (some (.ref x))/\(∀a∈dG x dx fs,nb a/\NB G.B a)/\(dG x dx fs).Nodup/\H dx=some (.own x)/\fs.length<=900/\H x=some (.ins C dx vs)/\cL (G.S nb false) H fs vs:=by
 obtain⟨M,e1,h1,h2,n,h,l,vs,q,r⟩:=W.ok i _ e;subst h1;exact⟨vs,e1,h2,n,h,l,q,r⟩
def Ev.fld(e:ρ[i]?=some (.cu (cG C x dx fs)))(cl:gm K C)(na:iA K C f)(hl:fs.lookup f=some (.d d))(h:Φ false d):Ev G ρ (oV K (dD i) f) Φ:=λnb σ H Q W z=>by
 obtain⟨vs,e1,h2,n,h3,l,q,r⟩:=W.qb e;obtain⟨v,g1,g2⟩:=r.get hl;exact⟨.ref x,e1,x,C,dx,vs,v,rfl,q,cl,na,g1,z false v H d h (.refl W.az) g2⟩
theorem lookup_mem{fl:Fl}:∀{fs:Fs},fs.lookup f=some fl->(f,fl)∈fs
  |[],h=>by simp at h
  | (g, y) :: r, h => by
    rw[cA] at h;cases hb:(f==g) with
    |true=>rw[hb] at h;cases h;rw[beq_iff_eq.mp hb];exact cP ..
    |false=>rw[hb] at h;exact cF _ (lookup_mem h)
def MR{fl:Fl}(hl:fs.lookup f=some fl){a:ax}(m:a∈fl.adr):a∈dG x dx fs:=Ly (lookup_mem hl) m
def Fp{Q:VK}{c:Cu}(W:Wd G nb ρ σ H)(e:ρ[i]?=some (.cu (cG C x dx fs)))(cl:gm K C)(na:iA K C f)(hl:fs.lookup f=some (.cu c))
  (z:(∀a∈c.F,nb a/\NB G.B a)->c.P (G.S nb false) H->Q c.v H):oV K (dD i) f σ H Q:=by
 obtain⟨vs,e1,h2,n,h3,len,q,r⟩:=W.qb e;obtain⟨v,g1,g2,N⟩:=r.get hl;exact⟨.ref x,e1,x,C,dx,vs,v,rfl,q,cl,na,g1,by rw[g2];exact z (λa m=>h2 a (MR hl m)) N⟩
theorem Fg{fl rW:Fl}(h':rW.adr=fl.adr):∀{fs:Fs},fs.lookup f=some fl->((fR f rW fs).flatMap λg=>g.2.adr)=fs.flatMap λg=>g.2.adr
  |[],h=>by simp at h
  | (g, y) :: r, h => by
    unfold fR;rw[cA] at h;cases hb:(f==g) with
    | true =>
      rw[hb] at h;cases h
      rw[if_pos (beq_iff_eq.mp hb).symm,rN,rN,h']
    | false =>
      rw[hb] at h;rw[if_neg (λz=>by rw[z,beq_self_eq_true] at hb;cases hb),rN,rN,Fg h' h]
theorem Du{fl rW:Fl}:∀{fs:Fs},fs.lookup f=some fl->(fR f rW fs).length=fs.length
  |[],h=>by simp at h
  | (g, y) :: r, h => by
    unfold fR;rw[cA] at h;cases hb:(f==g) with
    |true=>rw[if_pos (beq_iff_eq.mp hb).symm];rfl
    | false =>
      rw[hb] at h;rw[if_neg (λz=>by rw[z,beq_self_eq_true] at hb;cases hb),cZ,cZ,Du h]
def mz.wr{S:ax->Prop}{v:V}{fl:Fl}{p:ax}{o:HO}(M:S p)(hp:p∉fl.adr)(h:mz S H v fl):mz S (upd H p o) v fl:=
 h.map (λd v z=>z.keep (bu.set M)) λc e z=>c.keep (.of λa o' m q=>by
  rw[br];·exact q
  .rintro rfl;rcases m with m|m
   .exact m M
   .rw[e] at hp;exact hp m) z
theorem cL.Km{S:ax->Prop}{H:Hp}{p:ax}{o:HO}(M:S p):∀{fs:Fs} {vs:List (Str×V)},(p∉fs.flatMap λg=>g.2.adr)->cL S H fs vs->cL S (upd H p o) fs vs
  |[],_,_,h=>h
  | g :: fs, _, hp, ⟨v, ws, e, h1, h2⟩ => by
    rw[rN,fO] at hp;exact⟨v,ws,e,h1.wr M λz=>hp (.inl z),cL.Km M (λz=>hp (.inr z)) h2⟩
theorem cL.wr{S:ax->Prop}{H:Hp}{p:ax}{o:HO}{c c':Cu}(M:S p)(hp:p∈c.F)(hv:c'.v=c.v)(hc:c'.P S (upd H p o)):∀{fs:Fs} {vs:List (Str×V)},(fs.flatMap λg=>g.2.adr).Nodup->fs.lookup f=some (.cu c)->cL S H fs vs->cL S (upd H p o) (fR f (.cu c') fs) vs
  |[],_,_,h,_=>by simp at h
  | (g, y) :: r, _, hn, h, ⟨v, ws, e, h1, h2⟩ => by
    unfold fR;rw[rN,tX] at hn;rw[cA] at h;cases hb:(f==g) with
    | true =>
      rw[hb] at h;cases h
      rw[if_pos (beq_iff_eq.mp hb).symm];exact⟨v,ws,e,⟨by rw[hv];exact h1.1,hc⟩,cL.Km M (λz=>hn.2.2 p hp p z rfl) h2⟩
    | false =>
      rw[hb] at h;rw[if_neg (λz=>by rw[z,beq_self_eq_true] at hb;cases hb)];exact⟨v,ws,e,h1.wr M λz=>hn.2.2 p z p (wV.mpr ⟨_,lookup_mem h,hp⟩) rfl,cL.wr M hp hv hc hn.2.1 h h2⟩
def Wd.ZE{c c':Cu}{p:ax}{o:HO}(W:Wd G nb ρ σ H)(e:ρ[i]?=some (.cu (cG C x dx fs)))(hl:fs.lookup f=some (.cu c))(hp:p∈c.F)(hv:c'.v=c.v)(I:c'.F=c.F)(h:c'.P (G.S nb false) (upd H p o)):
  Wd G nb (ρ.set i (.cu (cG C x dx (fR f (.cu c') fs)))) σ (upd H p o):=by
 obtain⟨vs,e1,h2,n,h3,len,q,r⟩:=W.qb e;have y:p∈dG x dx fs:=MR hl hp;have M:G.S nb false p:= .inl (h2 p y).1;have hn:=n;unfold dG at hn;obtain⟨n1,n2⟩:=iT.mp hn;obtain⟨j,k⟩:=iT.mp n2;have u:p∈fs.flatMap λg=>g.2.adr:=wV.mpr ⟨_,lookup_mem hl,hp⟩;have d:x≠p:=λz=>n1 (by rw[z];exact cF _ u);have b:dx≠p:=λz=>j (by rw[z];exact u);have t:dG x dx (fR f (.cu c') fs)=dG x dx fs:=by unfold dG;rw[Fg (fl:= .cu c) (rW:= .cu c') I hl]
 refine W.R6 (c':=cG C x dx (fR f (.cu c') fs)) e y rfl (λa m=>by rw[show(cG C x dx (fR f (.cu c') fs)).F=dG x dx fs from t] at m;exact m) ?_;exact⟨by rw[t];exact n,by rw[br b];exact h3,by rw[Du hl];exact len,vs,by rw[br d];exact q,cL.wr M hp hv h k hl r⟩
def cL.Qf{S:ax->Prop}{fl:Fl}{v:V}{p:ax}{o:HO}(M:S p)(hv:mz S (upd H p o) v fl){fs:Fs}{vs:List (Str×V)}(hp:p∉fs.flatMap λg=>g.2.adr)(h:cL S H fs vs):cL S (upd H p o) (fR f fl fs) (gE f v vs):=cL.put hv (cL.Km M hp h)
theorem Ci{fl:Fl}:∀{fs:Fs},fs.lookup f=none->fR f fl fs=fs++[(f,fl)]
  |[],_=>rfl
  | (g, y) :: r, h => by
    unfold fR;rw[cA] at h;cases hb:(f==g) with
    |true=>rw[hb] at h;cases h
    | false =>
      rw[hb] at h;rw[if_neg (λz=>by rw[z,beq_self_eq_true] at hb;cases hb),Ci h];rfl
theorem Sv.Vb(e:ρ[i]?=some (.cu (cG C x dx fs)))(cl:gm K C)(na:iA K C f)(hl:fs.lookup f=none\/∃d0,fs.lookup f=some (.d d0))(hlen:fs.length<900)(h:Ev G ρ te λ_ d=>E.nx (ρ.set i (.cu (cG C x dx (fR f (.d d) fs))))):Sv G ρ (Jp K (dD i) te f) E:=λnb σ H D W KK=>
 h nb σ H _ W λb v H1 d q s1 hv=>by
  have W1:=W.step s1;obtain⟨vs,e1,h2,n,h3,len,u,r⟩:=W1.qb e;have w:G.S nb false x:= .inl (h2 x (by simp[dG])).1;have hn:=n;unfold dG at hn;obtain⟨n1,n2⟩:=iT.mp hn;have k:dx≠x:=λz=>n1 (by rw[z];exact cP ..);have hx:x∉fs.flatMap λg=>g.2.adr:=λz=>n1 (cF _ z);have t:dG x dx (fR f (.d d) fs)=dG x dx fs:=by
   unfold dG;rcases hl with hl|⟨d0,hl⟩
   .rw[Ci hl,OA];show _::_::(_++([]++[]))=_;rw[fW,fW]
   .rw[Fg (fl:= .d d0) (rW:= .d d) rfl hl]
  have c:(fR f (.d d) fs).length<=900:=by
   rcases hl with hl|⟨d0,hl⟩
   .rw[Ci hl,cH,gQ];omega
   .rw[Du hl];exact len
  refine⟨.ref x,e1,x,C,dx,vs,rfl,u,cl,na,by rw[r.len];omega,KK.nx nb _ _ _ q ?_⟩;refine W1.R6 (c':=cG C x dx (fR f (.d d) fs)) e (by show x∈dG x dx fs;simp[dG]) rfl (λa m=>by rw[show(cG C x dx (fR f (.d d) fs)).F=dG x dx fs from t] at m;exact m) ?_;refine⟨by rw[t];exact n,by rw[br k];exact h3,c,_,bB,cL.Qf w ?_ hx r⟩;exact(hv.av (cW (λz=>by cases z) λ_ z=>z)).keep (bu.set w)
theorem Wd.JN{c:Cu}{vs:List (Str×V)}{l:ax}(W:Wd G nb ρ σ H)(s1:Step G.B H H1)(e:ρ[i]?=some (.cu (cG C x dx fs)))(hl:fs.lookup f=none)(hlen:fs.length<900)(J:c.F=[l])(N:c.v= .ref l)(p:H l=none)(hl1:H1 l≠none)
  (hP:c.P (λa=>G.S nb false a\/a=l) H1) (u:H1 x=some (.ins C dx vs)):Wd G (λa=>(nb a\/a∈[l])\/a∈dG x dx (fs++[(f, .cu c)])) (ρ.set i (.cu (cG C x dx (fs++[(f, .cu c)])))) σ (upd H1 x (.ins C dx (gE f c.v vs))):=by
 have R:∀a∈[l],H a=none:=λa m=>by rw[aY.mp m];exact p
 obtain⟨L,O,K,_⟩:=W.qb e;have vG:l∉dG x dx fs:=λz=>W.live l (K l z).1 p;obtain⟨W1,D,A⟩:=W.Lg s1 R (λa m=>by rw[aY.mp m];exact hl1);obtain⟨Q,e1,h2,n,h3,len,E,r⟩:=W1.qb e;rw[u] at E;cases E;have hn:=n;unfold dG at hn;obtain⟨n1,n2⟩:=iT.mp hn;have k:dx≠x:=λz=>n1 (by rw[z];exact cP ..);have hx:x∉fs.flatMap λg=>g.2.adr:=λz=>n1 (cF _ z);have h:l≠x:=λz=>vG (by rw[z];simp[dG]);have I:x∈dG x dx fs:=by simp[dG]
 have t:dG x dx (fs++[(f, .cu c)])=dG x dx fs++[l]:=by
  unfold dG;rw[OA];show _::_::(_++(c.F++[]))=_;rw[J]
  rfl
 have M:∀{a},G.S (λy=>(nb y\/y∈[l])\/y∈dG x dx (fs++[(f, .cu c)])) false a->G.S (λy=>nb y\/y∈[l]) false a:=λ{a} z=>by
  rcases z with (z|z)|z|z|z
  .exact .inl z
  .rw[t,fO] at z;rcases z with z|z
   .exact .inl (h2 a z).1
   .exact .inl (.inr z)
  .exact .inr (.inl z)
  .exact .inr (.inr (.inl z))
  .exact .inr (.inr (.inr z))
 refine W1.Np (c:=cG C x dx fs) (c':=cG C x dx (fs++[(f, .cu c)])) e (λa o na q=>?_) rfl (λa m=>?_) (λa m=>?_) ?_;·rw[br (λz=>na (by rw[z];exact I))];exact q
 .rw[show(cG C x dx (fs++[(f, .cu c)])).F=dG x dx fs++[l] from t,fO] at m;rcases m with m|m
  .exact .inl m
  .rw[aY.mp m];refine .inr (.inr ⟨.inr (aY.mpr rfl),D l (aY.mpr rfl),λj s hs z=>?_⟩);obtain⟨y,_,q⟩:=W.ok j s hs;exact W.live l (q.FN l z).1 p
 .by_cases z:a=x;·rw[z,bB];exact gy _
  .rw[br z];rcases m with m|m
   .exact W1.live a (h2 a m).1
   .rw[show(cG C x dx (fs++[(f, .cu c)])).F=dG x dx fs++[l] from t,fO] at m;rcases m with m|m
    .exact W1.live a (h2 a m).1
    .rw[aY.mp m];exact hl1
 .refine⟨?_,by rw[br k];exact h3,by rw[cH,gQ];omega,_,bB,?_⟩
  .rw[t,tX];exact⟨n,by simp,λa m b m' z=>vG (by rw[aY.mp m'] at z;rw[<-z];exact m)⟩
  .have w:G.S (λy=>nb y\/y∈[l]) false x:= .inl (h2 x I).1;have:=cL.Qf (f:=f) (fl:= .cu c) (v:=c.v) (o:= .ins C dx (gE f c.v vs)) w ⟨rfl,c.keep (S:=G.S (λy=>nb y\/y∈[l]) false) (.of λa o m q=>?_) (c.av (λa z=>?_) hP)⟩ hx r
   .rw[Ci hl] at this;exact this.map (λd v z=>z.av λa=>M) λg m c' e z=>c'.av (λa=>M) z
   .rw[br];·exact q
    .rintro rfl;rcases m with m|m
     .exact m w
     .rw[J] at m;exact h (aY.mp m).symm
   .rcases A false a z with z|z
    .exact .inl z
    .exact .inr (aY.mp z)
theorem Sv.Hn(e:ρ[i]?=some (.cu (cG C x dx fs)))(cl:gm K C)(na:iA K C f)(hl:fs.lookup f=none)(hlen:fs.length<900)(h:aq G ρ te λ_ ds=>∀l,E.nx (ρ.set i (.cu (cG C x dx (fs++[(f, .cu (mU l ds))]))))):Sv G ρ (Jp K (dD i) te f) E:=λnb σ H D W KK=>
 h nb σ H _ W λb l xs H1 ds q s1 p M hd=>by
  obtain⟨vs,e1,h2,n,h3,len,u,r⟩:=(W.step s1).qb e;refine⟨.ref x,e1,x,C,dx,vs,rfl,u,cl,na,by rw[r.len];omega,KK.nx _ _ _ _ (q l) (W.JN (c:=mU l ds) s1 e hl hlen rfl rfl p (by rw[M];exact gy _) ⟨xs,M,hd.av λa z=>?_⟩ u)⟩;rcases z with z|z
  .exact .inl (cW (λw=>by cases w) (λ_ w=>w) a z)
  .exact .inr z
def Sv.Yc{l:ax}(e:ρ[i]?=some (.cu (cG C x dx fs)))(cl:gm K C)(na:iA K C f)(hl:fs.lookup f=some (.cu (mU l ds)))(h:Ev G ρ te λ_ d=>Ev G ρ tb λ_ y=>∃k j,y= .int k/\iR ds.length k=some j/\E.nx (ρ.set i (.cu (cG C x dx (fR f (.cu (mU l (ds.set j d))) fs))))):Sv G ρ (gD te (qq (oV K (dD i) f) tb v7)) E:=λnb σ H D W KK=>
 h nb σ H _ W λg v H1 d q s1 hv=>Fp (W.step s1) e cl na hl λI ⟨xs,hx,hd⟩=>q nb σ H1 _ (W.step s1) λg' u H2 y ⟨k,j,o,hj,p⟩ s2 hu=>by
  subst o;have W2:=(W.step s1).step s2;have vG:=I l (aY.mpr rfl);have M:G.S nb false l:= .inl vG.1;refine⟨l,xs,k,j,rfl,hu.cV,s2.1 _ _ vG.2 hx,by rw[hd.length];exact hj,KK.nx nb _ _ _ p (W2.ZE (c:=mU l ds) (c':=mU l (ds.set j d)) e hl (aY.mpr rfl) rfl rfl ⟨_,bB,?_⟩)⟩;exact(af.set' ((hv.av (cW (λz=>by cases z) λ_ z=>z)).keep s2.dX) j (hd.keep s2.dX)).keep (bu.set M)
def aq.S8{l:ax}(e:ρ[i]?=some (.cu (cG C x dx fs)))(cl:gm K C)(na:iA K C f)(hl:fs.lookup f=some (.cu (mU l ds)))(h:Θ (gx ds) ds):aq G ρ (gv (nG K) (bN (oV K (dD i) f) cI)) Θ:=λnb σ H Q W z=>by
 show oV K (dD i) f σ H _;exact Fp W e cl na hl λI ⟨xs,hx,hd⟩=>⟨l,xs,rfl, .inl (.of hx),λp hp=>aq.fin (f:=false) W (.refl W.az) hp hd (by rw[vX];exact h) z⟩
def k6(G:Gx)(ρ:Rh)(ta:TA)(Φ:List PyData->Prop):Prop:=∀nb σ H (Q:List V->Hp->Prop),Wd G nb ρ σ H->(∀ds vs H',Φ ds->Step G.B H H'->af (λa=>¬NB G.B a) H' ds vs->Q vs H')->ta σ H Q
theorem k6.nil{Θ:List PyData->Prop}(h:Θ []):k6 G ρ cI Θ:=λnb σ H Q W z=>z [] [] H h (.refl W.az) .nil
theorem k6.cons{Θ:List PyData->Prop}(h:Ev G ρ te λ_ d=>k6 G ρ t λds=>Θ (d::ds)):k6 G ρ (bN te t) Θ:=λnb σ H Q W z=>
 h nb σ H _ W λf v H1 d j s1 J=>j nb σ H1 _ (W.step s1) λds vs H2 p2 s2 q2=>z _ _ H2 p2 (s1.trans s2) (.cons ((J.av λa y=> .inr (.inr (.inl y))).keep (s2.but λ_ y=>y)) q2)
def k6.fld{Θ:List PyData->Prop}{l:ax}(e:ρ[i]?=some (.cu (cG C x dx fs)))(cl:gm K C)(na:iA K C f)(hl:fs.lookup f=some (.cu (mU l ds)))(h:k6 G ρ t λes=>Θ (.list ds::es)):k6 G ρ (bN (oV K (dD i) f) t) Θ:=λnb σ H Q W z=>by
 show oV K (dD i) f σ H _;exact Fp W e cl na hl λI ⟨xs,hx,hd⟩=>h nb σ H _ W λes vs H2 p2 s2 q2=>z _ _ H2 p2 s2 (.cons (.lst (λy=>y (I l (aY.mpr rfl)).2) (s2.1 _ _ (I l (aY.mpr rfl)).2 hx) ((hd.av λa y=> .inr (.inr (.inl y))).keep (s2.but λ_ y=>y))) q2)
def Ev.Md{F:DF}(hm:bW F)(h:k6 G ρ t λds=>ds.length=n/\F ds λf d=>(f=true\/iV d=true)/\Φ true d):Ev G ρ (gY (aM n F) [] E0 t) Φ:=λnb σ H Q W z=>
 h nb σ H _ W λds vs H1 ⟨hl,p⟩ s1 J=>by
  have W1:=W.step s1;rw[fW];refine⟨by rw[J.length,hl],λa=>¬NB G.B a,ds,λa y=>NB.oX W1.az y,J,hm _ _ _ p λf d ⟨hf,hp⟩ v H' sm hd=>z true v H' d hp (s1.trans (.same W1.az sm)) ?_⟩;rcases hf with hf|hf
  .exact hd.av λa y=> .inr ⟨hf,W1.gF (f:=true) a y⟩
  .exact hd.jj hf
def Sv.make{F:CF}(hm:qt F)(h:Av G ρ t λes=>es.length+1=n/\∀x dx,F (cG C x dx []) (es.map (·.2)) λc' _ d=>d= .none/\E.nx (ρ.set i (.cu c'))):Sv G ρ (gD (GX C (jo n F) [] E0 t) (gZ i)) E:=λnb σ H D W KK=>
 h nb σ H _ W λes vs H1 ⟨hl,p⟩ s1 J x dx hx k T=>by
  have W1:=W.step s1;have U:cT H1 (upd (upd H1 dx (.own x)) x (.ins C dx [])):=λa o e=>by
   rw[br (ja e hx),br (ja e k)];exact e
  have g:∀a,G.S nb false a->H1 a≠none:=λa y=>W1.gF a y;have A:af (λa=>G.S nb false a\/a∈[x,dx]) (upd (upd H1 dx (.own x)) x (.ins C dx [])) (es.map (·.2)) vs:=by
   have hq:=J.all (f:=false) λz=>by cases z
   generalize es.map (·.2)=dl at hq;refine af.keep (bu.of U) ?_
   exact ly (P:=λS=>af S H1 dl vs) (λz h=>af.av z h) (λhp h=>af.fresh hp h) (L:=[x,dx]) (λa m=>by
    rcases aK.mp m with m|m
    .rw[m];exact hx
    .rw[aY.mp m];exact k) hq
  rw[fW];refine⟨by rw[cZ,J.len,hl],λa=>G.S nb false a\/a∈[x,dx],cG C x dx [],vs,es.map (·.2),rfl,λa y=>?_,λa m=> .inr m,rfl,?_,A,hm _ _ _ _ (p x dx) λc' f d ⟨l,hp⟩ v H' to hP hd=>?_⟩
  .rcases y with y|y
   .cases e:H1 a with
    |none=>exact absurd e (g a y)
    |some o=>rw[U a o e];exact gy _
   .rcases aK.mp y with m|m
    .rw[m,bB];exact gy _
    .rw[aY.mp m,br T,bB];exact gy _
  .refine⟨by simp[dG,cO T],by rw[br T,bB],⋯,[],bB,rfl⟩
  .subst l;refine⟨hd.yu,?_⟩;have b:∀a∈c'.F,H1 a=none:=λa m=>by
    rcases to.new a m with y|y
    .rcases aK.mp y with m|m
     .rw[m];exact hx
     .rw[aY.mp m];exact k
    .cases e:H1 a with
     |none=>rfl
     |some o=>rw[U a o e] at y;cases y
   have st:Step G.B H1 H':=by
    have sm:cT H1 H':=λa o e=>to.kp a o (λm=>by
     rcases aK.mp m with m|m
     .rw[m,hx] at e;cases e
     .rw[aY.mp m,k] at e;cases e) (U a o e)
    exact .same W1.az sm
   have:=W1.CQ (i:=i) (c:=c') st b to.lv (c'.av (λa y=>?_) hP)
   .rw[to.v] at this;exact KK.nx _ _ _ _ hp this
   .rw[to.f] at y;rcases y with y|y
    .exact .inl (.inl y)
    .exact .inr y
theorem gP.tup{Φ:Rh->Pd}(h:Cj G ρ t λC es=>es.length<=10000/\Φ C (gX es) (.tuple (es.map (·.2)))):gP G ρ (qQ t) Φ:=λnb σ H Q W z=>
 h nb σ H _ W λaP C es vs H1 ⟨hl,p⟩ W1 J=>⟨eu (by rw[J.len];exact hl) ⋯,λa ha=>z aP C _ _ _ _ p (W1.step (.same W1.az (dw ha)))
  (.tup (W1.fresh ha) bB ((J.all λz=>z).keep (bu.of (dw ha))))⟩
end
noncomputable def bQ(p:Int)(cs:List ao)(wd:Wo):Nat->List bK
  |0=>[]
  | i + 1 => match dU p (cs.getD i []) 0 wd with
    |some (a,x)=>if a∈(bQ p cs wd i).map (·.1) then bQ p cs wd i else bQ p cs wd i++[(a,(i:Int),x)]
    |none=>bQ p cs wd i
theorem pJ{p:Int}{cs:List ao}{wd:Wo}:∀i,((bQ p cs wd i).map (·.1)).Nodup
  |0=>by simp[bQ]
  | i + 1 => by
    unfold bQ;split
    · split
      · exact pJ i
      · rename_i a x e c
        rw[bh,tX];refine⟨pJ i,by simp,λy hy z hz e=>c ?_⟩;simp at hz;rw[<-hz,<-e];exact hy
    · exact pJ i
theorem wN{p:Int}{cs:List ao}{wd:Wo}{m:bK}:∀{i},m∈bQ p cs wd i->0<=m.2.1/\m.2.1<i/\dU p (cs.getD m.2.1.toNat []) 0 wd=some (m.1,m.2.2)/\∀c:Nat,(c:Int)<m.2.1->∀x,dU p (cs.getD c []) 0 wd≠some (m.1,x)
  |0,h=>by simp[bQ] at h
  | i + 1, h => by
    have key:∀{c:Nat},(∃x,dU p (cs.getD c []) 0 wd=some (m.1,x))->c<i->m.1∈(bQ p cs wd i).map (·.1):=λ{c} hx hc=>by
      clear h;induction i with
      |zero=>omega
      | succ i ih =>
        unfold bQ;by_cases e:c=i
        · subst e
          obtain⟨x,hx⟩:=hx;rw[hx];dsimp only;split;· rename_i h;exact h
          · simp
        · have:=ih ∅
          split
          · split
            · exact this
            · rw[bh];exact rO _ this
          · exact this
    unfold bQ at h;split at h
    · rename_i a x e
      split at h;· obtain⟨h1,h2,h3⟩:=wN h;exact⟨h1,∅,h3⟩
      · rename_i c
        rcases fO.mp h with h|h
        · obtain⟨h1,h2,h3⟩:=wN h;exact⟨h1,∅,h3⟩
        · simp at h
          subst h;refine⟨by simp,by simp;omega,by simpa using e,λc' l J M=>c ?_⟩;exact key ⟨J,M⟩ (by simpa using l)
    · obtain⟨h1,h2,h3⟩:=wN h;exact⟨h1,∅,h3⟩
theorem LL{p:Int}{cs:List ao}{wd:Wo}{c:Nat}{a x:Int}(hx:dU p (cs.getD c []) 0 wd=some (a,x)):∀{i},c<i->a∈(bQ p cs wd i).map (·.1)
  |0,h=>∅
  | i + 1, h => by
    unfold bQ;by_cases e:c=i
    · subst e
      rw[hx];dsimp only;split;· rename_i h;exact h
      · simp
    · have:=LL hx (i:=i) ∅
      split
      · split
        · exact this
        · rw[bh];exact rO _ this
      · exact this
noncomputable def aW(p:Int)(cs:List ao)(wd:Wo):List bK:=(bQ p cs wd cs.length).mergeSort λa b=>decide (a.1<=b.1)
def uz(p:Int)(cs:List ao)(wd:Wo):(aW p cs wd).Perm (bQ p cs wd cs.length):=List.mergeSort_perm _ _
theorem PD(p:Int)(cs:List ao)(wd:Wo):(aW p cs wd).Pairwise λa b=>a.1<b.1:=by
 have h1:(aW p cs wd).Pairwise λa b=>decide (a.1<=b.1)=true:=List.pairwise_mergeSort (λa b c h1 h2=>by simp at h1 h2⊢;omega) (λa b=>by simp;omega) _;have h2:((aW p cs wd).map (·.1)).Nodup:=((uz p cs wd).map _).nodup_iff.mpr (pJ _);have h3:(aW p cs wd).Pairwise λa b=>a.1≠b.1:=xW.mp h2;exact(h1.and h3).imp λ⟨a,b⟩=>by simp at a;omega
theorem SO:∀{a b:List bK},(a.Pairwise λx y=>x.1<y.1)->(b.Pairwise λx y=>x.1<y.1)->a.Perm b->a=b
  |[],b,_,_,h=>by rw[List.nil_perm.mp h]
  |x::a,[],_,_,h=>by cases List.perm_nil.mp h
  | x :: a, y :: b, h1, h2, h => by
    obtain⟨x1,x2⟩:=oe.mp h1;obtain⟨f,d⟩:=oe.mp h2;have e:x=y:=by
      rcases aK.mp (h.mem_iff.mp (cP ..)) with e|e
      · exact e
      rcases aK.mp (h.symm.mem_iff.mp (cP ..)) with e'|e'
      · exact e'.symm
      have:=f x e;have:=x1 y e';omega
    subst e;rw[SO x2 d h.cons_inv]
theorem LP(h:ms.Perm (bQ p cs wd cs.length))(hs:(ms.map (·.1)).Pairwise (· <= ·)):ms=aW p cs wd:=by
 refine SO ?_ (PD p cs wd) (h.trans (uz p cs wd).symm);have h2:(ms.map (·.1)).Nodup:=(h.map _).nodup_iff.mpr (pJ _);exact((xW.mp hs).and (xW.mp h2)).imp λ⟨a,b⟩=>∅
def S7{m:bK}(h:m∈aW p cs wd):0<=m.2.1/\m.2.1<cs.length/\dU p (cs.getD m.2.1.toNat []) 0 wd=some (m.1,m.2.2)/\∀c:Nat,(c:Int)<m.2.1->∀x,dU p (cs.getD c []) 0 wd≠some (m.1,x):=wN ((uz p cs wd).mem_iff.mp h)
def afP{c:Nat}{a x:Int}(hc:c<cs.length)(h:dU p (cs.getD c []) 0 wd=some (a,x)):∃m∈aW p cs wd,m.1=a:=by
 have:=LL h hc;obtain⟨m,hm,e⟩:=bH.mp this;exact⟨m,(uz p cs wd).mem_iff.mpr hm,e⟩
def Uj(h:aW p cs wd=[]):outs p cs wd=[]:=by
 unfold outs;rw[QF];intro c hc hs;obtain⟨⟨a,x⟩,e⟩:=D4.mp hs;obtain⟨m,hm,_⟩:=afP (lY.mp hc) e;rw[h] at hm;cases hm
def OG{a x:Int}(h:dU p prs 0 wd=some (a,x))(ha:∀m∈ms,m.1.toNat≠a.toNat)(hl:∀m∈ms,wd[m.1.toNat]?=some none)(h0:∀pr∈prs,0<=pr.1):dU p prs 0 (FV wd ms)=some (a,x):=by
  have keep:∀{ms:List bK} {wd:Wo} {k:Nat},(∀m∈ms,m.1.toNat≠k)->(FV wd ms)[k]?=wd[k]?:=λ{ms}=>by
    induction ms with
    |nil=>intro wd k _;rfl
    | cons m r ih =>
      intro wd k hk;show(FV (wd.set m.1.toNat (some m.2.2)) r)[k]?=_;rw[ih λm' hm'=>hk m' (cF _ hm'),bO (hk m (cP ..))]
  obtain⟨pr,e1,e2,e3⟩:=Ei h;have same:∀q∈prs,(FV wd ms)[q.1.toNat]?=wd[q.1.toNat]?:=λq hq=>keep λm hm z=>by
    have b:q∈dz wd prs:=by
      unfold dz;exact jw.mpr ⟨hq,by rw[<-z,hl m hm];rfl⟩
    rw[e1,aY] at b;exact ha m hm (by rw[z,b,e2])
  have e4:dz (FV wd ms) prs=dz wd prs:=by
    unfold dz;exact List.filter_congr λq hq=>by rw[same q hq]
  have e5:aT prs (FV wd ms)=aT prs wd:=by
    unfold aT
    congr 1
    exact Jg λq hq=>by unfold iS;rw[same q hq]
  unfold dU at h⊢;rw[e4,e5];exact h
def qT(wd:Wo)(a b:List bK):FV wd (a++b)=FV (FV wd a) b:=by unfold FV;rw[pb]
theorem lK.cat{a b:List bK}(h1:lK p cs wd a)(h2:lK p cs (FV wd a) b):lK p cs wd (a++b):=λj hj=>by
 by_cases h:j<a.length
 .obtain⟨m,e1,e2⟩:=h1 j h;refine⟨m,by rw[gW h];exact e1,?_⟩;rw[List.take_append_of_le_length ∅];exact e2
 .rw[cH] at hj;obtain⟨m,e1,e2⟩:=h2 (j-a.length) ∅;refine⟨m,by rw[iK ∅];exact e1,?_⟩;rw[List.take_append,sN ∅,qT];exact e2
theorem su(hp:0<p){m:bK}(h:m∈aW p cs wd)(h0:∀prs∈cs,∀pr∈prs,0<=pr.1/\pr.1<wd.length):0<=m.1/\m.1<wd.length/\wd[m.1.toNat]?=some none/\0<=m.2.2/\m.2.2<p:=by
 obtain⟨a1,a2,g,_⟩:=S7 h;obtain⟨pr,b1,b2,b3,b4,b5⟩:=vD hp g;have hc:m.2.1.toNat<cs.length:=∅
 rw[i9,aS hc] at b1;have:=h0 _ (fU hc) pr b1;rw[b2] at this;exact⟨this.1,this.2,b3,b4,b5⟩
theorem QU(hp:0<p)(h0:∀prs∈cs,∀pr∈prs,0<=pr.1/\pr.1<wd.length):lK p cs wd (aW p cs wd):=λj hj=>by
 refine⟨_,aS hj,?_⟩;have hm:(aW p cs wd)[j]∈aW p cs wd:=fU hj;obtain⟨a1,a2,g,_⟩:=S7 hm;obtain⟨b1,b2,b3,b4,b5⟩:=su hp hm h0;have tk:∀m∈(aW p cs wd).take j,m∈aW p cs wd/\m.1.toNat≠(aW p cs wd)[j].1.toNat:=λm h=>by
  have hm':=Jj h;refine⟨hm',λz=>?_⟩;obtain⟨c1,_⟩:=su hp hm' h0;have hlt:m.1<(aW p cs wd)[j].1:=by
   obtain⟨i,hi,e⟩:=List.mem_take_iff_getElem.mp h;rw[<-e];exact JD.mp (PD p cs wd) i j ∅ hj ∅
  omega
 have hc:(aW p cs wd)[j].2.1.toNat<cs.length:=∅
 have c8:∀pr∈cs.getD (aW p cs wd)[j].2.1.toNat [],0<=pr.1:=λpr h=>by
  rw[i9,aS hc] at h;exact(h0 _ (fU hc) pr h).1
 have:=OG g (λm h=>(tk m h).2) (λm h=>(su hp (tk m h).1 h0).2.2.1) c8;exact Uq a1 a2 this
noncomputable def jV(p:Int)(cs:List ao):Nat->Wo->List (List bK)
 |0,_=>[]
 |k+1,wd=>if aW p cs wd=[] then[] else aW p cs wd::jV p cs k (FV wd (aW p cs wd))
def yd(hp:0<p)(h0:∀prs∈cs,∀pr∈prs,0<=pr.1/\pr.1<wd.length):cnt (FV wd (aW p cs wd))+(aW p cs wd).length=cnt wd:=by
 have:=xm hp (QU hp h0) (aW p cs wd).length (aH _);rwa[dQ] at this
theorem TH{p:Int}{cs:List ao}(hp:0<p):∀{k:Nat} {wd:Wo},(∀prs∈cs,∀pr∈prs,0<=pr.1/\pr.1<wd.length)->cnt wd<=k->jV p cs (k+1) wd=jV p cs k wd
  | 0, wd, h0, h => by
    have e:aW p cs wd=[]:=by
      cases e:aW p cs wd with
      |nil=>rfl
      | cons m r =>
        have:=yd hp h0;rw[e] at this;simp at this;omega
    unfold jV;rw[if_pos e];all_goals rfl
  | k + 1, wd, h0, h => by
    rw[jV]
    conv=>rhs;rw[jV]
    by_cases e:aW p cs wd=[];· rw[if_pos e,if_pos e]
    · rw[if_neg e,if_neg e]
      congr 1
      have:=yd hp h0;have hl:0<(aW p cs wd).length:=BR.mpr e;exact TH hp (λprs hp pr hr=>by rw[ie];exact h0 prs hp pr hr) ∅
noncomputable def bX(p:Int)(cs:List ao)(wd:Wo):List (List bK):=jV p cs (cnt wd) wd
theorem adC(hp:0<p){wd:Wo}(h0:∀prs∈cs,∀pr∈prs,0<=pr.1/\pr.1<wd.length):∀{k:Nat},cnt wd<=k->jV p cs k wd=bX p cs wd:=λ{k} h=>by
 obtain⟨j,rfl⟩:∃j,k=cnt wd+j:=⟨k-cnt wd,∅⟩;clear h;induction j with
 |zero=>rfl
 |succ j ih=>rw[<-w7,TH hp h0 ∅,ih]
def xB(h:aW p cs wd=[]):bX p cs wd=[]:=by
 unfold bX;cases cnt wd with
 |zero=>rfl
 |succ k=>rw[jV,if_pos h]
theorem uK(hp:0<p)(h0:∀prs∈cs,∀pr∈prs,0<=pr.1/\pr.1<wd.length)(h:aW p cs wd≠[]):bX p cs wd=aW p cs wd::bX p cs (FV wd (aW p cs wd)):=by
 have hc:=yd hp h0;have hl:0<(aW p cs wd).length:=BR.mpr h;obtain⟨k,hk⟩:∃k,cnt wd=k+1:=⟨cnt wd-1,∅⟩;have e:bX p cs wd=jV p cs (k+1) wd:=by unfold bX;rw[hk]
 rw[e,jV,if_neg h,adC hp (λprs hp pr hr=>by rw[ie];exact h0 prs hp pr hr) ∅]
theorem Nz{p:Int}{cs:List ao}(hp:0<p):∀{k:Nat} {wd:Wo},(∀prs∈cs,∀pr∈prs,0<=pr.1/\pr.1<wd.length)->cnt wd<=k->lK p cs wd (bX p cs wd).flatten/\aW p cs (FV wd (bX p cs wd).flatten)=[]/\∀r∈bX p cs wd,r≠[]
  | k, wd, h0, hk => by
    by_cases e:aW p cs wd=[]
    · rw[xB e]
      exact⟨λj hj=>by simp at hj,e,λr hr=>by cases hr⟩
    · have hl:0<(aW p cs wd).length:=BR.mpr e
      have hc:=yd hp h0;rw[uK hp h0 e];obtain⟨k,rfl⟩:∃k',k=k'+1:=⟨k-1,∅⟩;obtain⟨N,B,A⟩:=Nz hp (k:=k) (wd:=FV wd (aW p cs wd)) (λprs hp pr hr=>by rw[ie];exact h0 prs hp pr hr) ∅;refine⟨(QU hp h0).cat N,?_,λr hr=>?_⟩
      · show aW p cs (FV wd (aW p cs wd++_))=[]
        rw[qT];exact B
      · rcases aK.mp hr with z|z
        · rw[z];exact e
        · exact A r z
noncomputable def bx(p:Int)(cs:List ao)(wd:Wo):Wo:=FV wd (bX p cs wd).flatten
def tN(hp:0<p)(h0:∀prs∈cs,∀pr∈prs,0<=pr.1/\pr.1<wd.length):lK p cs wd (bX p cs wd).flatten/\aW p cs (bx p cs wd)=[]/\(∀r∈bX p cs wd,r≠[])/\outs p cs (bx p cs wd)=[]/\(bx p cs wd).length=wd.length:=by
 obtain⟨h1,h2,h3⟩:=Nz hp h0 (aH _);exact⟨h1,h2,h3,Uj h2,ie⟩
def Px(h:aW p cs wd=[]):bx p cs wd=wd:=by unfold bx;rw[xB h];rfl
def LI(hp:0<p)(h0:∀prs∈cs,∀pr∈prs,0<=pr.1/\pr.1<wd.length)(h:aW p cs wd≠[]):bx p cs wd=bx p cs (FV wd (aW p cs wd)):=by
 unfold bx;rw[uK hp h0 h];exact qT _ _ _
noncomputable abbrev eB(r:List bK):PyData:= .list (r.map kj)
noncomputable def lu(nd:PyData)(l:ax)(wd:Wo):Fs:=[("net", .d nd),("letters", .cu (mU l (wd.map bJ)))]
noncomputable abbrev kM(m:bK):Int×PyData:=(m.1,kj m)
def q8(ms:List bK):(ms.map kM).map (·.1)=ms.map (·.1):=by rw[je];rfl
theorem JT:∀{ms:List bK} {m:bK},(ms.map (·.1)).Nodup->m∈ms->kQ (ms.map kM) m.1=some (kj m)
  | x :: r, m, nd, h => by
    rw[aZ,uQ];rw[aZ,iT] at nd;rcases aK.mp h with e|e
    · subst e;rw[if_pos rfl]
    · rw[if_neg (λz=>nd.1 (by rw[show x.1=m.1 from z];exact List.mem_map_of_mem e)),JT nd.2 e]
theorem xu(hp:0<p)(h0:∀prs∈cs,∀pr∈prs,0<=pr.1/\pr.1<wd.length):∀{i},i<=cs.length->(bQ p cs wd i).length<=wd.length:=λ{i} hi=>by
 have nd:=pJ (p:=p) (cs:=cs) (wd:=wd) i;have:=UR (m:=wd.length) nd λk hk=>by
  obtain⟨m,hm,e⟩:=bH.mp hk;obtain⟨a1,a2,g,_⟩:=wN hm;obtain⟨pr,b1,b2,_⟩:=vD hp g;have hc:m.2.1.toNat<cs.length:=∅
  rw[i9,aS hc] at b1;have:=h0 _ (fU hc) pr b1;omega
 rw[ak] at this;omega
def fG.rg(h:fG p cs m):∀prs∈cs,∀pr∈prs,0<=pr.1/\pr.1<m:=λprs hp pr hr=>⟨((h.2.2.2 prs hp).2.1 pr hr).1,((h.2.2.2 prs hp).2.1 pr hr).2.1⟩
theorem Ou(hN:fG p cs wd.length)(hW:dN wd):dN (FV wd (aW p cs wd)):=by
  have key:∀{ms:List bK} {wd:Wo},dN wd->(∀m∈ms,Sm m.2.2)->dN (FV wd ms):=λ{ms}=>by
    induction ms with
    |nil=>intro wd h _;exact h
    | cons m r ih =>
      intro wd h hm;refine ih (wd:=wd.set m.1.toNat (some m.2.2)) (λx hx=>?_) λm' h'=>hm m' (cF _ h');rcases G5 hx with z|z
      · exact h x z
      · cases z;exact hm m (cP ..)
  have p2:=hN.1.1;have qZ:=hN.2.1;refine key hW λm hm=>?_;obtain⟨_,_,_,b4,b5⟩:=su ∅ hm hN.rg;unfold Sm;omega
def Nd(wd:Wo):gx (wd.map bJ)=true:=by
 unfold gx;rw[lU];intro x hx;obtain⟨o,_,rfl⟩:=bH.mp hx;cases o<;>rfl
def YY(nd:PyData)(l:ax)(wd QD:Wo):fR "letters" (.cu (mU l (QD.map bJ))) (lu nd l wd)=lu nd l QD:=by
 unfold lu fR;rw[if_neg (by decide+kernel)];unfold fR;rw[if_pos rfl]
theorem NZ{p:Int}{cs:List ao}:∀{k:Nat} {wd:Wo},(jV p cs k wd).length<=k
  |0,wd=>by simp[jV]
  | k + 1, wd => by
    rw[jV];split;· simp
    · simp[NZ]
def Gg:(bX p cs wd).length<=wd.length:=eu NZ (DP wd)
def aeb(ms:List bK):ed (eB ms)=true:=Vh ms
def KD(ms:List bK):fo (eB ms) (.list [])=decide (ms=[]):=by
 have:=V9 ms;rw[vq] at this;exact this
theorem zb{x:Int}:x∈gh wd↔0<=x/\wd[x.toNat]?=some none:=by
 unfold gh;rw[bH];constructor
 .rintro⟨i,hi,rfl⟩;obtain⟨h1,h2⟩:=jw.mp hi;exact⟨∅,by simpa using h2⟩
 .rintro⟨h0,h1⟩;refine⟨x.toNat,jw.mpr ⟨lY.mpr (bV.mp h1).1,by simpa using h1⟩,∅⟩
def Sw(wd:Wo):(gh wd).length<=wd.length:=by
 unfold gh;rw[ak];exact eu (vS _ _) (by simp)
theorem Pr{p:Int}{cs:List ao}{wd:Wo}{ms:List bK}(hp:0<p)(h1:lK p cs wd ms)(h2:∀(i:Nat) x,wd[i]?=some (some x)->0<=x/\x<p):∀j,j<=ms.length->(∀(i:Nat) x,wd[i]?=some (some x)->(FV wd (ms.take j))[i]?=some (some x))/\∀(i:Nat) x,(FV wd (ms.take j))[i]?=some (some x)->0<=x/\x<p
  |0,_=>⟨by intro i x h;simpa[FV] using h,by intro i x h;exact h2 i x (by simpa[FV] using h)⟩
  | j + 1, hj => by
    obtain⟨N,B⟩:=Pr hp h1 h2 j ∅;obtain⟨m,e1,e2⟩:=h1 j ∅;obtain⟨c0,c1,e3⟩:=yH e2;obtain⟨pr,b1,b2,b3,b4,b5⟩:=vD hp e3;rw[FX e1,qT];show(∀(i:Nat) x,_->((FV wd (ms.take j)).set m.1.toNat (some m.2.2))[i]?=_)/\∀(i:Nat) x,((FV wd (ms.take j)).set m.1.toNat (some m.2.2))[i]?=_->_;refine⟨λi x hx=>?_,λi x hx=>?_⟩
    · have:=N i x hx
      rw[bO];· exact this
      · intro z;rw[<-z,b3] at this;cases this
    · by_cases z:m.1.toNat=i
      · subst z
        rw[dB (bV.mp b3).1] at hx;cases hx;exact⟨b4,b5⟩
      · rw[bO z] at hx
        exact B i x hx
def GJ(hp:0<p)(h0:∀prs∈cs,∀pr∈prs,0<=pr.1/\pr.1<wd.length)(h2:∀(i:Nat) x,wd[i]?=some (some x)->0<=x/\x<p):(∀(i:Nat) x,wd[i]?=some (some x)->(bx p cs wd)[i]?=some (some x))/\∀(i:Nat) x,(bx p cs wd)[i]?=some (some x)->0<=x/\x<p:=by
 have:=Pr hp (tN hp h0).1 h2 _ (aH _);rw[dQ] at this;exact this
theorem OB{os:List Int}(hN:fG p cs wd.length)(hl:wd.length=os.length)(t:∀x∈os,0<=x/\x<p)(ht:∀prs∈cs,aT prs (os.map some)%p=0)(ha:Agree os wd):Agree os (bx p cs wd):=by
 have p2:=hN.1.1;have:=Tp hN hl t ht ha (tN ∅ hN.rg).1 _ (aH _);rw[dQ] at this;exact this
noncomputable def pK(wd:Wo)(i:Nat):List Int:=((cv i).filter λi=>wd[i]?==some none).map λ(i:Nat)=>(i:Int)
def U8(wd:Wo)(i:Nat):pK wd (i+1)=if wd[i]?=some none then pK wd i++[(i:Int)] else pK wd i:=by
 unfold pK;rw[wJ,sA,bh];by_cases h:wd[i]?=some none;·rw[if_pos h,tK (by rw[h];rfl)];rfl
 .rw[if_neg h,qY (by simpa using h)];simp
def jH.VQ(h:jH G ρ te λd=>∃ds,d= .list ds/\gx ds=true/\Θ true ds):aq G ρ te Θ:=λnb σ H Q W z=>
 h nb σ H _ W λv H' d L st hd=>by
  obtain⟨ds,e,hs,p⟩:=L;subst e;obtain⟨c,xs,rfl,n,hx,u⟩:=hd.dZ;exact z true c xs H' ds p st (jm λz=>n z) hx (af.jj hs u)
theorem abM{a b:Int}(hp:gu p)(h:p∣a*b):p∣a\/p∣b:=by
 by_cases ha:p∣a;·exact .inl ha
 .right
  have hg:lM p a=1:=by
   have d1:(lM p a:Int)∣p:=q3 ..;have d2:(lM p a:Int)∣a:=oY ..;have h0:0<(lM p a:Int):=by
    have:lM p a≠0:=λz=>by have:=(Q6.mp z).1;have:=hp.1;omega
    omega
   rcases hp.2 _ h0 d1 with e|e
   .exact_mod_cast e
   .rw[e] at d2;exact absurd d2 ha
  have h':p.natAbs∣a.natAbs*b.natAbs:=by rw[<-JU];exact xZ.mpr h
  have c:lL p.natAbs a.natAbs:=hg;exact xZ.mp (c.dvd_of_dvd_mul_left h')
section
variable{prog:cj}{w:dc}{A:c5}{E:ar->au->Prop}{s:au}
theorem IL{vs:List (Key×ar)}{ms:List Int}(L:A.handled=none)(lo:(a==fD)=false)(hd:s.heap.DictOf (jr prog w) a vs)(hk:vs.map (·.1)=ms.map ei)(B:ms.length<=4000)
    (h:∀h' j (l:ax) (out:List ar) (ns:List Int) (e:Nat),(∀b o,s.heap.get? b=some o->h'.get? b=some o)->s.heap.objs.size<=l->h'.get? l=some (l4 "list" out.toArray e)->eI out ns->ns.Pairwise (· <= ·)->ns.Perm ms->
      Q (.ref l) {s with heap:=h',toks:=j}):wpAny (bo prog w) A (call (.builtin "sorted") [.ref a]) Q E s:=by
  obtain⟨ep,S⟩:=hd.dictAt;have d:vs.length=ms.length:=by have:=congrArg gO hk;simpa using this
  refine KC kind_sorted plain_sorted entry_sorted (args_sorted1 _) ?_;unfold j1.«sorted»;refine ae (m:=checkCount "sorted" 1 1 _) (aw (ae ?_));refine Iq (A:=A.in1) (PySem.W.kdl_dict lo) L S (by rw[d];exact eu B ⋯) λh1 y items k1 k2 hil c=>?_;have hI:eI items ms:=by
    have key:∀(its:List ar) (us:List (Key×ar)) (ms:List Int),us.map (·.1)=ms.map ei->its.length=us.length->(∀(i:Nat) v,its[i]?=some v->∃k x,us[i]?=some (k,x)/\(jr prog w).is k v=true)->eI its ms:=by
      intro its;induction its with
      | nil =>
        intro us ms e l _;cases us with
        | nil => cases ms with
          |nil=>exact .nil
          |cons _ _=>cases e
        |cons _ _=>cases l
      | cons v its ih =>
        intro us ms e l hp;cases us with
        |nil=>cases l
        | cons u us => cases ms with
          |nil=>cases e
          | cons m ms =>
            have e1:u.1=ei m:=by injection e
            have e2:us.map (·.1)=ms.map ei:=by injection e
            obtain⟨k,x,J,q2⟩:=hp 0 v rfl;have J:u=(k,x):=by simpa using J
            subst J;have e1:k=ei m:=e1;subst e1;obtain⟨t,rfl⟩:=w6 (k:=m) (v:=v) q2;exact .cons m t (ih us ms e2 (by simpa using l) λi v q=>by simpa using hp (i+1) v (by simpa using q))
    exact key items vs ms hk hil c
  have hlen:items.length=ms.length:=by rw[hil,d]
  refine ae (n3 ?_);have p:(h1.push (l4 "list" items.toArray 0)).get? h1.objs.size=some (l4 "list" items.toArray 0):=gf _ rfl;refine ae (ej (dy uk ⟨_,p,rfl⟩ tf (YI p hI ∅ λout f a1 a2 g=>⟨_,rfl,?_⟩) (uM _)));obtain⟨e,he⟩:=wL (out:=out) p;refine aw ⟨_,rfl,h _ y h1.objs.size out.toList f e (λb o q=>?_) k2 (by simpa using he) a1 g a2⟩;have lb:=cD (k1 b o q);rw[va (eS lb) (by rw[mP];exact pQ lb)];exact cJ _ (k1 b o q)
end
def zB:List V->Hp->VK->Prop:=λxs H Q=>∃a,∃kvs:List (Key×V),∃ms:List Int,xs=[.ref a]/\Rd H a (.dK kvs)/\kvs.map (·.1)=ms.map ei/\ms.length<=4000/\
 ∀l (M:List Int),H l=none->M.Pairwise (· <= ·)->M.Perm ms->Q (.ref l) (upd H l (.lst (M.map V.int)))
def Mq(hc:X.calm=true):fT X (.builtin "sorted") zB:=by
 intro pins s σ H xs us Q I rv h;obtain⟨a,kvs,ms,rfl,p,hk,B,q⟩:=h;obtain⟨u,rfl,ru⟩:=vals1 rv;cases ru;obtain⟨z,hd,vs,rel,dd⟩:=qN I.hok p;refine IL (I.ok.hd hc) hd dd (by rw[<-rel.keys];exact hk) B λh' j l out ns e kp hl b hI pw pp=>?_;have new:eE X.prog X.w (upd H l (.lst (ns.map V.int))) h' l (.lst (ns.map V.int)):=by
  refine⟨?_,out,e,FI hI,b⟩;rw[ak,pp.length_eq];exact eu B ⋯
 exact⟨.ref l,_,I.laid (t':=j) kp hl new,rfl,q _ _ (I.hok.fresh hl) pw pp⟩
def aq.MG{f:Bool}{ks:Ks}(e:ρ[i]?=some (.cE a f ks))(hl:ks.length<=4000)(h:∀M:List Int,M.Pairwise (· <= ·)->M.Perm (ks.map (·.1))->Θ true (M.map .int)):
  aq G ρ (gv zB (bN (dD i) cI)) Θ:=λnb σ H Q W z=>by
 obtain⟨x,e1,h1,h2,h3,ps,hp,hd⟩:=W.ok i _ e;subst h1;refine⟨.ref a,e1,a,ps,ks.map (·.1),rfl, .inl hp,aB.keys hd,by rw[ak];exact hl,λl M hl' hw y=>?_⟩;exact aq.fin (f:=true) W (.refl W.az) hl' (De M) (h M hw y) z
inductive Oi where
 |own (b:ax)|dat (x:PyData)
inductive OO where
 |lst (xs:List Oi)|tup (xs:List Oi)|cE (ks:List (Int×Oi))
noncomputable abbrev fF:=List (ax×OO)
def fZ(S:ax->Prop)(H:Hp):Oi->V->Prop
 | .own b,v=>v= .ref b
 | .dat x,v=>ah S H x v
def i8(S:ax->Prop)(H:Hp)(xs:List Oi)(vs:List V):Prop:=vs.length=xs.length/\∀(i:Nat) x v,xs[i]?=some x->vs[i]?=some v->fZ S H x v
noncomputable def aaq(ks:List (Int×Oi))(vs:List V):List (Key×V):=ix (λk v=>(ei k.1,v)) ks vs
def sO(S:ax->Prop)(H:Hp)(a:ax):OO->Prop
 | .lst xs=>∃vs,H a=some (.lst vs)/\i8 S H xs vs
 | .tup xs=>∃vs,H a=some (.tup vs)/\i8 S H xs vs
 | .cE ks=>∃vs,H a=some (.dK (aaq ks vs))/\i8 S H (ks.map (·.2)) vs
def sV(S:ax->Prop)(H:Hp)(L:fF):Prop:=(L.map (·.1)).Nodup/\∀a o,L.lookup a=some o->sO S H a o
section
variable{S S':ax->Prop}{H H':Hp}{x:Oi}{v:V}{xs:List Oi}{vs:List V}{a b:ax}{o:OO}{L:fF}{F:List ax}{p:ax}
def Kf{L:fF}:∀{a:ax} {o:OO},L.lookup a=some o->a∈L.map (·.1):=by
  induction L with
  |nil=>intro a o h;cases h
  | cons q L ih =>
    intro a o h;rw[aZ];by_cases c:a=q.1;· rw[c];exact cP ..
    · rw[cA,beq_false_of_ne c] at h
      exact cF _ (ih h)
def Qh{L:fF}:∀{a:ax},a∈L.map (·.1)->∃o,L.lookup a=some o:=by
  induction L with
  |nil=>intro a h;cases h
  | cons q L ih =>
    intro a h;by_cases c:a=q.1;· exact⟨q.2,by rw[c];simp[et]⟩
    · rw[cA,beq_false_of_ne c]
      rw[aZ] at h;exact ih ((aK.mp h).resolve_left c)
theorem fZ.kp(m:Kp S F H H')(h:fZ S H x v):fZ S H' x v:=by
 cases x with
 |own b=>exact h
 |dat x=>exact ah.kp m h
theorem fZ.av(b:∀a,S' a->S a)(h:fZ S H x v):fZ S' H x v:=by
 cases x with
 |own b=>exact h
 |dat x=>exact ah.av b h
theorem fZ.fresh(hp:H p=none)(h:fZ S H x v):fZ (λa=>S a\/a=p) H x v:=by
 cases x with
 |own b=>exact h
 |dat x=>exact ah.fresh hp h
theorem fZ.keep(m:bu S H H')(h:fZ S H x v):fZ S H' x v:=by
 cases x with
 |own b=>exact h
 |dat x=>exact ah.keep m h
def i8.imp(h:i8 S H xs vs)(q:∀x v,fZ S H x v->fZ S' H' x v):i8 S' H' xs vs:=⟨h.1,λi x v e1 e2=>q x v (h.2 i x v e1 e2)⟩
theorem sO.imp(h:sO S H a o)(q:∀x v,fZ S H x v->fZ S' H' x v)(e:∀ho,H a=some ho->H' a=some ho):sO S' H' a o:=by
 cases o with
 |lst xs=>obtain⟨vs,h1,h2⟩:=h;exact⟨vs,e _ h1,h2.imp q⟩
 |tup xs=>obtain⟨vs,h1,h2⟩:=h;exact⟨vs,e _ h1,h2.imp q⟩
 |cE ks=>obtain⟨vs,h1,h2⟩:=h;exact⟨vs,e _ h1,h2.imp q⟩
def sO.live(h:sO S H a o):H a≠none:=by
 cases o with
 |lst xs=>obtain⟨vs,h1,h2⟩:=h;rw[h1];exact gy _
 |tup xs=>obtain⟨vs,h1,h2⟩:=h;rw[h1];exact gy _
 |cE ks=>obtain⟨vs,h1,h2⟩:=h;rw[h1];exact gy _
theorem sV.live(h:sV S H L):∀a∈L.map (·.1),H a≠none:=λa m=>by
 obtain⟨o,e⟩:=Qh m;exact(h.2 a o e).live
def i8.nil:i8 S H [] []:=⟨rfl,λi x v e=>by simp at e⟩
def i8.cons(q:fZ S H x v)(h:i8 S H xs vs):i8 S H (x::xs) (v::vs):=by
 refine⟨by rw[cZ,cZ,h.1],λi y u e1 e2=>?_⟩;cases i with
 |zero=>simp at e1 e2;subst e1 e2;exact q
 |succ i=>exact h.2 i y u (by simpa using e1) (by simpa using e2)
def i8.pT(h:af S H ds vs):i8 S H (ds.map .dat) vs:=by
 refine⟨by rw[ak,h.length],λi x v e1 e2=>?_⟩;rw[cS] at e1;obtain⟨d,hd,rfl⟩:=lH.mp e1;obtain⟨y,hy,hq⟩:=h.get hd;rw[hy] at e2;cases e2;exact hq
def NJ:∀{vs:List V},vs.length=ds.length->(∀(i:Nat) d v,ds[i]?=some d->vs[i]?=some v->ah S H d v)->af S H ds vs:=by
  induction ds with
  |nil=>intro vs h _;rw[pF.mp h];exact .nil
  | cons d ds ih =>
    intro vs h q;cases vs with
    |nil=>cases h
    |cons v vs=>exact .cons (q 0 d v rfl rfl) (ih (by simpa using h) λi d' K e1 e2=>q (i+1) d' K (by simpa using e1) (by simpa using e2))
end
noncomputable def stC(v:V)(f:Bool)(L:fF):Cu where
 v:=v
 F:=L.map (·.1)
 f:=f
 P:=λS H=>sV S H L
 keep:=λk p=>⟨p.1,λa o e=>(p.2 a o e).imp (λx v q=>q.kp k) λho q=>k.own _ (Kf e) _ q⟩
 av:=λz p=>⟨p.1,λa o e=>(p.2 a o e).imp (λx v q=>q.av z) λho q=>q⟩
 fresh:=λhp p=>⟨p.1,λa o e=>(p.2 a o e).imp (λx v q=>q.fresh hp) λho q=>q⟩
inductive iM(L:fF):Oi->PyData->Prop
 |dat (x:PyData):iM L (.dat x) x
 |lst {b:ax} {xs:List Oi} {ds:List PyData} (e:L.lookup b=some (.lst xs)) (h:ds.length=xs.length) (q:∀(i:Nat) x d,xs[i]?=some x->ds[i]?=some d->iM L x d):iM L (.own b) (.list ds)
 |tup {b:ax} {xs:List Oi} {ds:List PyData} (e:L.lookup b=some (.tup xs)) (h:ds.length=xs.length) (q:∀(i:Nat) x d,xs[i]?=some x->ds[i]?=some d->iM L x d):iM L (.own b) (.tuple ds)
def iM.L4{S S':ax->Prop}{L:fF}(h:sV S H L)(M:∀a,S' a->S a)(hn:∀a∈L.map (·.1),¬S' a){x:Oi}{d:PyData}(q:iM L x d):∀{v:V},fZ S H x v->ah S' H d v:=by
  induction q with
  |dat x=>intro v hv;exact ah.av M hv
  | lst e hl _ ih =>
    intro v hv;have hv:v=_:=hv;subst hv;obtain⟨vs,h1,h2⟩:=h.2 _ _ e;refine .lst (hn _ (Kf e)) h1 (NJ (by rw[h2.1,hl]) λi d v e1 e2=>?_);have hi:=(bV.mp e1).1;have hx:=aS (l:=_) (i:=i) (by rw[<-hl];exact hi);exact ih i _ d hx e1 (h2.2 i _ v hx e2)
  | tup e hl _ ih =>
    intro v hv;have hv:v=_:=hv;subst hv;obtain⟨vs,h1,h2⟩:=h.2 _ _ e;refine .tup (hn _ (Kf e)) h1 (NJ (by rw[h2.1,hl]) λi d v e1 e2=>?_);have hi:=(bV.mp e1).1;have hx:=aS (l:=_) (i:=i) (by rw[<-hl];exact hi);exact ih i _ d hx e1 (h2.2 i _ v hx e2)
def iM.pT{L:fF}(e:L.lookup b=some (.lst (ds.map .dat))):iM L (.own b) (.list ds):=by
 refine .lst e (by rw[ak]) λi x d e1 e2=>?_;rw[cS,e2] at e1;cases e1;exact .dat d
section
variable{G:Gx}{ρ:Rh}{ta tb te:TE}{t:TA}{E:DE}{i j:Nat}{f:Bool}{L:fF}{K:PySem.W.Frag}{Φ:Pd}{r:ax}{d:PyData}
def Wd.ae4(W:Wd G nb ρ σ H)(e:ρ[i]?=some (.cu (stC (.ref r) f L)))(hd:iM L (.own r) d):Wd G (λx=>nb x/\x∉L.map (·.1)) (ρ.set i (.d f d)) σ H:=
 W.aaK e λp hn=>hd.L4 p (cW (λz=>z) λ_ z=>z.1) (λa m z=>by
  obtain⟨J,q2,U⟩:=hn a m;rcases z with z|z|z|z
  .exact z.2 m
  .exact q2 z
  .exact z U
  .exact z.2 J) rfl
def Ev.V3(i:Nat)(e:ρ[i]?=some (.cu (stC (.ref r) f L)))(hd:iM L (.own r) d)(h:Ev G (ρ.set i (.d f d)) te λ_ x=>iV x=true/\Φ true x):Ev G ρ te Φ:=λnb σ H Q W z=>
 h _ σ H Q (W.ae4 e hd) λg v H' x ⟨hs,p⟩ st hv=>z true v H' x p st (hv.jj hs)
end
abbrev SF:=List PyData->(V->fF->Prop)->Prop
def t6(F:SF):Prop:=∀ds (Φ Ψ:V->fF->Prop),F ds Φ->(∀v L,Φ v L->Ψ v L)->F ds Ψ
def Br(H H':Hp)(L:fF):Prop:=(∀a∈L.map (·.1),H a=none)/\sV (λa=>H a≠none\/a∈L.map (·.1)) H' L
def F6(n:Nat)(F:SF):Sp:=λvs H Q _=>vs.length=n/\∃(nb:ax->Prop) (ds:List PyData),iX nb H/\af nb H ds vs/\F ds λv L=>∀H',cT H H'->Br H H' L->Q v H'
noncomputable def MV(G:Gx)(Ψ:V->fF->Prop):DE where
 nx:=λ_=>False
 rt:=λ_ _=>False
 rw:=λ_ _ v H=>∃L,Ψ v L/\Br G.H0 H L
section
variable{G:Gx}{ρ:Rh}{ta tb te:TE}{t:TA}{E:DE}{i j:Nat}{K:PySem.W.Frag}
def Ev.Ui{F:SF}(hm:t6 F)(h:Av G ρ t λes=>es.length=n/\F (es.map (·.2)) λv L=>∃r d,v= .ref r/\iM L (.own r) d/\Φ true d):Ev G ρ (gY (F6 n F) [] E0 t) Φ:=λnb σ H Q W z=>
 h nb σ H _ W λes vs H1 ⟨hl,p⟩ s1 J=>by
  have W1:=W.step s1;show F6 n F (vs++[]) H1 _ E0;rw[fW];refine⟨by rw[J.len,hl],G.S nb (gX es),es.map (·.2),W1.gF,J.all λz=>z,hm _ _ _ p λv L ⟨r,d,ev,hd,hp⟩ H' sm ⟨f,hok⟩=>?_⟩;subst ev;exact z true _ H' d hp (s1.trans (.same W1.az sm)) (hd.L4 hok (λa q=> .inl (W1.gF a q)) (λa m q=>W1.gF a q (f a m)) rfl)
def Sv.Uk{Q:VK}{Φ:V->fF->Prop}{b:TS}(hl:iX nb H)(hd:af nb H ds vs)(D:∀v L H',Φ v L->cT H H'->Br H H' L->Q v H')
  (r:ρ=ds.map (Sl.d false)++cq (N.length-ds.length) .no) (h:Sv ⟨none,H,nb,[]⟩ ρ b (MV ⟨none,H,nb,[]⟩ Φ)):b {nx:=λ_ H'=>Q .aL H',rt:=Q} (start N vs) H:=
 TF (P:=λσ H1=>b {nx:=λ_ H'=>Q .aL H',rt:=Q} σ H1) hl hd r λaP σ H1 W=>h aP σ H1 _ W
  ⟨λ_ _ _ _ q _=>q.elim,λ_ _ _ _ q _=>q.elim,λ_ _ _ _ q _=>q.elim,λ_ _ _ _ _ _ _ q _ _=>q.elim,λc g k v H2 ⟨L,q,hn⟩ W2=>D v L H2 q (λa o e=>W2.old a o (λ_ _ z=>(by cases z)) e) hn⟩
end
def XP:TS:=λ_ _ _=>False
def sE{st:fb}:PS X st XP:=λ_ _ _ _ _ _ h=>h.elim
abbrev RF:=Cu->List PyData->Pd->Prop
theorem R.ZQ{K:PySem.W.Frag}(Pv:Nat->qr->Hp->Prop)(h0:Pv 0 σ H)(hl:∀i σ H,i<=xs.length->Pv i σ H->fE K H a xs)
  (hs:∀i x σ H,xs[i]?=some x->Pv i σ H->g x σ H λk H2=>tc k H2 λb H3=>if b=true then te k H3 λv H4=>∃ys,H4 acc=some (.lst ys)/\ys.length<sizeLine/\Pv (i+1) k (upd H4 acc (.lst (ys++[v]))) else Pv (i+1) k H3)
  (hd:∀σ H,Pv xs.length σ H->d H):pB (EZ K a) g tc te acc d σ H:=by
 refine⟨λi m σ H=>m=xs.length-i/\i<=xs.length/\Pv i σ H,⟨xs.length,by simp,eT _,h0⟩,?_⟩;rintro i m σ H ⟨rfl,hi,p⟩;have q:=hl i σ H hi p;by_cases hlt:i<xs.length
 .refine .inr ⟨⟨xs,xs[i],q,by simp[hlt]⟩,Pv (i+1),λL H' j=>⟨xs.length-(i+1),∅,rfl,hlt,j⟩,λx H' y=>?_⟩;obtain⟨e,y⟩:=y;subst e;exact hs i x σ _ (y xs q) p
 .have e:i=xs.length:=∅
  subst e;exact .inl ⟨⟨xs,q,aH _⟩,hd σ H p⟩
section
variable{G:Gx}{ρ bM:Rh}{te:TE}{gt:TG}{tc:TT}{mp:List (Option Nat)}{K:PySem.W.Frag}{Θ:Bool->List PyData->Prop}
theorem aq.Y8(hm:(mp.filterMap id).Nodup)(r:lz mp ρ=bM)(h:Ev G ρ t0 λfi x=>∃es,x= .tuple es/\es.length<=10000/\∀v,iH (G.hd fi (.tuple es) v) bM es.length (λi d=>es[i]?=some d) fi gt tc te Θ):aq G ρ (jW (za K t0) gt tc te mp) Θ:=λnb σ H Q W z=>
 h nb σ H _ W λfi v H1 x ⟨es,ex,hn,q⟩ s1 hv=>by
  subst ex;obtain⟨fl,I,h0,ht,he⟩:=q v;have W0:=(W.step s1).hd hv;obtain⟨a,xs,rfl,n,hx,hd⟩:=hv.ofT;refine⟨a,rfl,⟨xs, .of hx⟩,λacc g=>?_⟩;have t:Wd (G.hd fi (.tuple es) (.ref a)) nb bM (L2.fV mp σ) H1:=by rw[<-r];exact W0.fV hm
  have W1:=t.more g (o:= .lst []);have hN:=NB.new s1.2 g;have hno:=rJ t g;have aA:Step G.B H1 (upd H1 acc (.lst [])):= .same s1.2 (dw g);have A:NB G.B a:=jm λz=>n (.inr (.inr (.inl z)));refine R.ZQ (xs:=xs) (λi σ H=>∃ds ys,Wd (G.hd fi (.tuple es) (.ref a)) (λx=>nb x\/x=acc) bM σ H/\Step G.B H1 H/\H acc=some (.lst ys)/\af (G.S (λx=>nb x\/x=acc) fl) H ds ys/\ds.length<=i/\I i ds) ⟨[],[],W1,aA,bB, .nil,aH _,h0⟩ ?_ ?_ ?_
  .rintro i σ H hi ⟨ds,ys,W,st,_⟩;exact .of (st.1 _ _ A hx)
  .rintro i x σ H hi ⟨ds,ys,W,st,hy,j,hl,hI⟩;obtain⟨w,l,e',_,h',d'⟩:=W.nL.2.ofT;cases e';rw[st.1 _ _ A hx] at h';cases h'
   have hil:i<es.length:=by have:=(bV.mp hi).1;have:=d'.length;omega
   obtain⟨J,M,dx⟩:=d'.get (aS hil);rw[hi] at M;cases M
   exact L2.tQ (G:=G.hd fi (.tuple es) (.ref a)) hn hil W (.inr rfl) hN hno st g hy j hl dx (ht i _ ds (aS hil) hl hI) λL H' k l W' st' M j hl' s=>⟨k,l,W',st',M,j,hl',s⟩
  .rintro σ H' ⟨ds,ys,W',st,hy,j,hl,hI⟩;rw[hd.length] at hl hI;exact L2.vA W s1 g st hy j (he ds hl hI) z
end
section
variable{p n m:Int}{c1 c2 cs:List ao}{u w:List Int}
theorem Yj(o:Ec p n cs)(hl:ws.length=n.toNat)(hw:∀x∈ws,0<=x/\x<p)(h:brk p cs ws=0):wG p cs ws n.toNat=[]:=by
  have hb:=List.countP_eq_zero.mp h;refine List.flatMap_eq_nil_iff.mpr λi hi=>?_;have hi:=lY.mp hi;unfold RC;have a:xS (wj p cs ws (i:Int)) (ws.getD i 0)=[]:=by
    cases e:xS (wj p cs ws (i:Int)) (ws.getD i 0) with
    |nil=>rfl
    | cons x r =>
      exfalso;have hx:x∈xS (wj p cs ws (i:Int)) (ws.getD i 0):=by rw[e];exact cP
      have S4:=jw.mp (Jj hx);have hg:=S4.2;unfold NY at hg;rw[fQ,decide_eq_true_eq] at hg;refine hg.1 ?_;have hm:=S4.1;unfold wj at hm;obtain⟨q,hq,rfl⟩:=bH.mp hm;obtain⟨c,prs,f,hc,_,_,rfl⟩:=acv (aH _) hq;have hz:=hb prs (bP hc);have hz:aT prs (ws.map some)%p=0:=by simpa using hz
      show(ws.getD (i:Int).toNat 0-aT (cs.getD (c:Int).toNat []) (ws.map some)%p*sol p f 1)%p=_;rw[ph,ph,show cs.getD c []=prs by rw[i9,hc];rfl,hz,se,Ir];have:=hw (ws.getD i 0) (by rw[i9,aS ∅];exact fU _);exact xy this.1 this.2
  rw[a];rfl
inductive Way(p:Int)(cs:List ao)(n k:Nat)(ws:List Int):Prop
 |held (hb:brk p cs ws=0) (ht:wG p cs ws n=[])
 |rest (hb:brk p cs ws≠0) (ht:wG p cs ws n=[])
 |on (hb:brk p cs ws≠0) (ht:wG p cs ws n≠[])
def way(o:Ec p n cs){ws:List Int}(hl:ws.length=n.toNat)(hw:∀x∈ws,0<=x/\x<p)(k:Nat):Way p cs n.toNat k ws:=by
 by_cases h1:brk p cs ws=0;·exact .held h1 (Yj o hl hw h1)
 by_cases h2:wG p cs ws n.toNat=[];·exact .rest h1 h2
 .exact .on h1 h2
end
def Wc(cs:List ao):Prop:=cs.Pairwise λa b=>∀x y:Int,x≠y->x∈a.map (·.1)->y∈a.map (·.1)->x∈b.map (·.1)->y∈b.map (·.1)->False
structure QP(p n:Int)(cs:List ao)(ws:List Int):Prop where
 v:Ec p n cs
 a:Wc cs
 t:∀prs∈cs,aT prs (ws.map some)%p=0
 l:ws.length=n.toNat
 r:∀x∈ws,0<=x/\x<p
section
variable{p n:Int}{cs:List ao}{ws xs O:List Int}{i:Nat}
theorem wr(h:QP p n cs ws)(hi:i<n.toNat):0<=ws.getD i 0/\ws.getD i 0<p:=by
 have:=h.l;exact h.r _ (by rw[i9,aS ∅];exact fU _)
end
section
variable{p n:Int}{d:Nat}{cs:List ao}{ws L:List Int}
def only(cs:List ao)(L:List Int)(x:Int)(c:Nat):Prop:=((cs.getD c []).filter λpr=>decide (pr.1∈L)).map (·.1)=[x]
end
section
variable{prog:cj}{w:dc}{A:c5}{E:ar->au->Prop}{h:e6}{g:Array rk}{d:Drawn}{t:Nat}{os:OsState}{a:ax}{o:Obj}{K:PySem.W.Frag}
 {nm q:Str} {C N:ax} {bs bm:List ar} {hdct:Bool} {sn:List Str} {sub:List ar} {ab:Bool} {col:Option Bool} {dd:Option ax} {k0 k1 k2 k3 k5:Option ar} {newId:String}
end
section
variable{G:Gx}{ρ:Rh}{ta tb:TE}{t:TA}{tt:TT}{i n:Nat}{F:RF}{c:Cu}{C:ax}{m:Str}{Θ:Bool->List PyData->Prop}{Φ:PyData->Prop}
def aq.ve{tt:TT}(h:Tv G ρ tt λb=>if b=true then aq G ρ ta Θ else aq G ρ tb Θ):aq G ρ (zw tt ta tb) Θ:=λnb σ H Q W z=>
 h nb σ H _ W λb H1 q s1=>by
  have c:∀(f:Bool) (a:ax) (xs:List V) (H':Hp) (ds:List PyData),Θ f ds->Step G.B H1 H'->H1 a=none->H' a=some (.lst xs)->af (λx=>G.S nb f x\/x=a) H' ds xs->Q (.ref a) H':=λf a xs H' ds p s2 ha e hd=>z f a xs H' ds p (s1.trans s2) (W.none_of s1 ha) e hd;cases b with
  |true=>rw[if_pos rfl] at q⊢;exact q nb σ H1 _ (W.step s1) c
  |false=>rw[if_neg cC] at q⊢;exact q nb σ H1 _ (W.step s1) c
end
noncomputable def FJ(x:Str):It:=⟨λi _=>i<x.cps.size,λi H v H'=>H'=H/\∃c,x.cps[i]?=some c/\v= .str ⟨#[c]⟩,λi _=>i=x.cps.size⟩
def Qa{P:cj}{K:PySem.W.Frag}(x:Str)(t:Tok)(it:ax){ty:String}(f:ty="str_ascii_iterator" \/ty="str_iterator"):Turn P w K tg (FJ x) [it] it (λi h=>h.IsStrIter it ty x t i) where
 mem:=by simp
 obj:=λi h st b hb=>by
  have e:b=it:=by simpa using hb
  subst e;obtain⟨o,e,c,d⟩:=st;exact⟨o,e,λv z=>by rw[d] at z;cases z⟩
 keep:=λi h h' st k=>let ⟨o,ho,r⟩:=st;⟨o,k it (by simp) o ho,r⟩
 item:=by
  intro X hP hw hK hc i pins s σ H E I hf st hg;subst hP hw hK;have hg:i<x.cps.size:=hg;obtain⟨M,Y,U,J,L,y⟩:=hf it (by simp);have hx:x.cps[i]?=some x.cps[i]:=by simp[hg]
  rcases f with rfl|rfl
  .refine wpAny_pyNext_ascii_item st hx λh' st' sb=>?_;have I1:Inv X pins σ H {s with heap:=h',toks:=s.toks+1}:=I.turned (t':=s.toks+1) (λb o hb e=>(sb.2 b hb).trans e) M Y J L y;obtain⟨o,e,c,d⟩:=id st';exact⟨_,rfl,ux (s:={s with heap:=h',toks:=s.toks+1}) e c d ⋯ ⟨.str ⟨#[x.cps[i]]⟩,H,I1,⟨_,rfl⟩,⟨rfl,_,hx,rfl⟩,st',λb hb=>(hf b hb).1⟩⟩
  .refine wpAny_pyNext_wide_item st hx λh' st' sb=>?_;have I1:Inv X pins σ H {s with heap:=h',toks:=s.toks+1}:=I.turned (t':=s.toks+1) (λb o hb e=>(sb.2 b hb).trans e) M Y J L y;obtain⟨o,e,c,d⟩:=id st';exact⟨_,rfl,ux (s:={s with heap:=h',toks:=s.toks+1}) e c d ⋯ ⟨.str ⟨#[x.cps[i]]⟩,H,I1,⟨_,rfl⟩,⟨rfl,_,hx,rfl⟩,st',λb hb=>(hf b hb).1⟩⟩
 done:=by
  intro X hP hw hK hc i pins s σ H E I hf st hg;subst hP hw hK;have hg:i=x.cps.size:=hg;obtain⟨M,Y,U,J,L,y⟩:=hf it (by simp);have hx:x.cps[i]?=none:=by simp[hg]
  rcases f with rfl|rfl
  .exact wpAny_pyNext_ascii_end (I.ok.hd hc) st hx λh' eb=>⟨rfl,I.turned (t':=s.toks) (λb o hb e=>eb b o hb e) M Y J L y⟩
  .exact wpAny_pyNext_wide_end (I.ok.hd hc) st hx λh' eb=>⟨rfl,I.turned (t':=s.toks) (λb o hb e=>eb b o hb e) M Y J L y⟩
 self:=λ_ _ _ _ _ st h=>by
  rcases f with rfl|rfl
  .exact wpAny_pyIter_striter_ascii st h
  .exact wpAny_pyIter_striter_wide st h
def Qv(tl:TE):TI:=λσ H R=>tl σ H λx H1=>∃z,x= .str z/\R (FJ z) H1
section
variable{X:Cx}{tg l:eM}{tl:TE}
def Ww(hl:PE X l tl):PI X tg l (Qv tl):=by
 intro pins s σ H R I h;refine aQ (hl pins s σ H _ I h) λv s1 ⟨x,H1,I1,C,J⟩=>?_;obtain⟨z,e,q⟩:=J;subst e;obtain⟨t,rfl⟩:=C;cases ha:z.cps.all (· <128)
 .refine wpAny_pyIter_wide ha ?_;refine⟨s1.heap.objs.size,[s1.heap.objs.size],_,_,H1,rfl,I1.kept (t':=s1.toks) λb o e=>cJ _ e,Qa z t _ (.inr rfl),⟨_,gf _ rfl,rfl,rfl⟩,λb hb=>?_,q⟩;have e:b=s1.heap.objs.size:=by simpa using hb
  subst e;exact I1.pR (aH _) (I1.hok.fresh (aH _))
 .refine wpAny_pyIter_ascii ha ?_;refine⟨s1.heap.objs.size,[s1.heap.objs.size],_,_,H1,rfl,I1.kept (t':=s1.toks) λb o e=>cJ _ e,Qa z t _ (.inl rfl),⟨_,gf _ rfl,rfl,rfl⟩,λb hb=>?_,q⟩;have e:b=s1.heap.objs.size:=by simpa using hb
  subst e;exact I1.pR (aH _) (I1.hok.fresh (aH _))
def Ie:V->Option Int->Option Int->Hp->VK->Prop:=λx lo hi H Q=>∃z,x= .str z/\z.length<=sizeLine/\Q (.str (x5 z lo hi)) H
def Ya:FO X Ie:=by
  intro pins s σ H x v vl vu lo hi sl Q I rx hs pl pu h;obtain⟨z,rfl,hz,q⟩:=h;obtain⟨t,rfl⟩:=rx;refine⟨"str",_,F.slot_str_getitem.lookup,mr _ _ _,?_⟩;have fin:∀(l u:Option (Int×Tok)),l.map (·.1)=lo->u.map (·.1)=hi->s.heap.IsSlice sl l u none->wpAny (bo X.prog X.w) X.A (zr (.str z t) (.ref sl)) (EP X pins σ Q) X.xe s:=λl u e1 e2 hsl=>by
    subst e1 e2;refine wpAny_getItem_str_slice hsl rfl (post_val_or_str ⟨eu (Txt.slice_le z _ _) hz,λt' k=>?_⟩);exact⟨.str _,H,I.tok _,⟨_,rfl⟩,q⟩
  cases pl with
  | none =>
    cases pu with
    |none=>exact fin none none rfl rfl hs
    |int j a=>exact fin none (some (j,a)) rfl rfl hs
  | int i b =>
    cases pu with
    |none=>exact fin (some (i,b)) none rfl rfl hs
    |int j a=>exact fin (some (i,b)) (some (j,a)) rfl rfl hs
def NN:V->List V->Hp->VK->Prop:=λx vs H Q=>∃z y,x= .str z/\vs=[.str y]/\Q (.bl (km z y)) H
def LH:qI X "str.startswith" NN:=by
 intro pins s σ H x vs v us Q I rx rv h;obtain⟨z,y,rfl,rfl,q⟩:=h;obtain⟨t,rfl⟩:=rx;obtain⟨u,rfl,ru⟩:=rv.one;obtain⟨t',rfl⟩:=ru;exact SC.startswith ⟨.bl _,H,I,rfl,q⟩
def Rt(neg:Bool):R2:=λx y H Q=>∃i j,x= .str i/\y= .str j/\Q (.bl ((!(eP j i 0 j.length 1).isEmpty) !=neg)) H
def Vv:c9 X (du .In) (Rt false):=by
 intro pins s σ H x y u v Q I rx ry h;obtain⟨i,j,e1,e2,q⟩:=h;exact agG pins s σ H x y u v Q I rx ry ⟨i,j,e1,e2,by simpa using q⟩
def Cd:List V->Hp->VK->Prop:=λxs H Q=>∃z,xs=[.str z]/\z.length<=sizeLine/\Q (.int z.length) H
def SJ:fT X (.builtin "len") Cd:=Y3
def rJoin:V->List V->Hp->VK->Prop:=λx vs H Q=>∃(z:Str) (a:ax) (ys:List Str),x= .str z/\vs=[.ref a]/\H a=some (.lst (ys.map .str))/\mE z ys=true/\Q (.str (dq z ys)) H
def Z8:∀{ys:List Str},Vals (ys.map V.str) us->∃l:List (Str×Tok),us=ts l/\l.map (·.1)=ys:=by
  intro ys;induction ys generalizing us with
  |nil=>intro h;cases h;exact⟨[],rfl,rfl⟩
  | cons y ys ih =>
    intro h;cases h with
    | cons r t =>
      obtain⟨l,rfl,e⟩:=ih t;obtain⟨k,rfl⟩:=r;exact⟨(y,k)::l,rfl,by rw[aZ,e]⟩
def oW:qI X "str.join" rJoin:=by
 intro pins s σ H x vs v us Q I rx rv h;obtain⟨z,a,ys,rfl,rfl,p,hok,q⟩:=h;obtain⟨t,rfl⟩:=rx;obtain⟨u,rfl,ru⟩:=rv.one;cases ru;obtain⟨zz,its,n,r,hl,e⟩:=I.rj p;obtain⟨l,rfl,M⟩:=Z8 r;exact SC.join (l:=l) ⟨_,e,rfl,n,rfl⟩ M hok λt' k=>⟨.str _,H,I.tok _,⟨_,rfl⟩,q⟩
end
def tB{S:ax->Prop}:ah S H (.str x) (.str x):=by unfold ah;rfl
theorem R.XZ(Pv:Nat->qr->Hp->Prop)(h0:Pv 0 σ H)
  (hs:∀i c σ H,x.cps[i]?=some c->Pv i σ H->g (.str ⟨#[c]⟩) σ H λk H2=>tc k H2 λb H3=>if b=true then te k H3 λv H4=>∃ys,H4 acc=some (.lst ys)/\ys.length<sizeLine/\Pv (i+1) k (upd H4 acc (.lst (ys++[v]))) else Pv (i+1) k H3)
  (hd:∀σ H,Pv x.cps.size σ H->d H):pB (FJ x) g tc te acc d σ H:=by
 refine⟨λi m σ H=>m=x.cps.size-i/\i<=x.cps.size/\Pv i σ H,⟨x.cps.size,by simp,eT _,h0⟩,?_⟩;rintro i m σ H ⟨rfl,hi,p⟩;by_cases hlt:i<x.cps.size
 .refine .inr ⟨hlt,Pv (i+1),λL H' j=>⟨x.cps.size-(i+1),∅,rfl,hlt,j⟩,λy H' z=>?_⟩;obtain⟨e,c,hc,o⟩:=z;subst e o;exact hs i c σ _ hc p
 .have e:i=x.cps.size:=∅
  subst e;exact .inl ⟨rfl,hd σ H p⟩
section
variable{G:Gx}{ρ bM:Rh}{ta tb te:TE}{gt:TG}{K:PySem.W.Frag}{Θ:Bool->List PyData->Prop}{Φ:Pd}{tc:TT}{mp:List (Option Nat)}{t0:TE}
def aq.UQ(hm:(mp.filterMap id).Nodup)(r:lz mp ρ=bM)(h:Ev G ρ t0 λ_ y=>∃x,y= .str x/\x.cps.size<=10000/\iH G bM x.cps.size (λi d=>∃c,x.cps[i]?=some c/\d= .str ⟨#[c]⟩) true gt tc te Θ):aq G ρ (jW (Qv t0) gt tc te mp) Θ:=λnb σ H Q W z=>
 h nb σ H _ W λf v H1 y ⟨x,ex,hn,q⟩ s1 hv=>by
  subst ex;obtain⟨fl,I,h0,ht,he⟩:=q;have hv:v= .str x:=by unfold ah at hv;exact hv
  subst hv;refine⟨x,rfl,λacc g=>?_⟩;have W0:Wd G nb bM (L2.fV mp σ) H1:=by rw[<-r];exact(W.step s1).fV hm
  have W1:=W0.more g (o:= .lst []);have hN:=NB.new s1.2 g;have hno:=rJ W0 g;have aA:Step G.B H1 (upd H1 acc (.lst [])):= .same s1.2 (dw g);refine R.XZ (λi σ H=>∃ds xs,Wd G (λx=>nb x\/x=acc) bM σ H/\Step G.B H1 H/\H acc=some (.lst xs)/\af (G.S (λx=>nb x\/x=acc) fl) H ds xs/\ds.length<=i/\I i ds) ⟨[],[],W1,aA,bB, .nil,aH _,h0⟩ ?_ ?_
  .rintro i c σ H hc ⟨ds,xs,W,st,hx,hd,hl,hI⟩;have hi:i<x.cps.size:=(qX.mp hc).1;exact tQ hn hi W (.inr rfl) hN hno st g hx hd hl tB (ht i _ ds ⟨c,hc,rfl⟩ hl hI) λL H' k l W' st' M j hl' s=>⟨k,l,W',st',M,j,hl',s⟩
  .rintro σ H' ⟨ds,xs,W',st,hx,hd,hl,hI⟩;exact vA W s1 g st hx hd (he ds hl hI) z
def ah.kZ{S:ax->Prop}{v:V}(h:ah S H (.str x) v):v= .str x:=by unfold ah at h;exact h
def Ev.slS{tl th:TO}(h:Ev G ρ te λ_ y=>∃x,y= .str x/\x.length<=sizeLine/\Ov G ρ tl λlo=>Ov G ρ th λhi=>Φ true (.str (x5 x lo hi))):Ev G ρ (rP Ie te tl th) Φ:=λnb σ H Q W z=>
 h nb σ H _ W λf v H1 y ⟨x,ex,hl,q⟩ s1 hv=>by
  subst ex;rw[hv.kZ];exact q nb σ H1 _ (W.step s1) λlo H2 q s2=>q nb σ H2 _ ((W.step s1).step s2) λhi H3 q s3=>⟨x,rfl,hl,z true _ H3 _ q ((s1.trans s2).trans s3) tB⟩
def Ev.starts(h:Ev G ρ ta λ_ x=>∃a,x= .str a/\Ev G ρ tb λ_ y=>∃b,y= .str b/\Φ true (.bool (km a b))):Ev G ρ (oq K "str" NN ta (bN tb cI)) Φ:=λnb σ H Q W z=>
 h nb σ H _ W λf v H1 d ⟨a,e,q⟩ s1 hv=>by
  subst e;rw[hv.kZ];refine⟨rfl,q nb σ H1 _ (W.step s1) λg u H2 y ⟨b,o,p⟩ s2 hu=>?_⟩;subst o;rw[hu.kZ];exact⟨a,b,rfl,rfl,z true _ H2 _ p (s1.trans s2) (.bl _)⟩
def Ev.A0{neg:Bool}(h:Ev G ρ ta λ_ x=>∃a,x= .str a/\Ev G ρ tb λ_ y=>∃b,y= .str b/\Φ true (.bool ((!(eP b a 0 b.length 1).isEmpty) !=neg))):Ev G ρ (dP (Rt neg) ta tb) Φ:=λnb σ H Q W z=>
 h nb σ H _ W λf v H1 d ⟨a,e,q⟩ s1 hv=>by
  subst e;rw[hv.kZ];refine q nb σ H1 _ (W.step s1) λg u H2 y ⟨b,o,p⟩ s2 hu=>?_;subst o;rw[hu.kZ];exact⟨a,b,rfl,rfl,z true _ H2 _ p (s1.trans s2) (.bl _)⟩
def Ev.Tj(h:Ev G ρ ta λ_ x=>∃a,x= .str a/\a.length<=sizeLine/\Φ true (.int a.length)):Ev G ρ (gv Cd (bN ta cI)) Φ:=λnb σ H Q W z=>
 h nb σ H _ W λf v H1 d ⟨a,e,hl,q⟩ s1 hv=>by
  subst e;rw[hv.kZ];exact⟨a,rfl,hl,z true _ H1 _ q s1 (.int _)⟩
theorem Tg{S:ax->Prop}{H:Hp}:∀{ys:List Str} {xs:List V},af S H (ys.map .str) xs->xs=ys.map V.str
  |[],xs,h=>by unfold af at h;exact h
  | y :: ys, xs, h => by
    unfold af at h;obtain⟨v,vs,e,h1,h2⟩:=h;rw[e,h1.kZ,Tg h2]
    rfl
def Ev.join(h:Ev G ρ ta λ_ x=>∃z,x= .str z/\Ev G ρ tb λ_ y=>∃ys:List Str,y= .list (ys.map .str)/\mE z ys=true/\Φ true (.str (dq z ys))):Ev G ρ (oq K "str" rJoin ta (bN tb cI)) Φ:=λnb σ H Q W z=>
 h nb σ H _ W λf v H1 d ⟨a,e,q⟩ s1 hv=>by
  subst e;rw[hv.kZ];refine⟨rfl,q nb σ H1 _ (W.step s1) λg u H2 y ⟨ys,o,hok,p⟩ s2 hu=>?_⟩;subst o;obtain⟨b,xs,rfl,n,hx,hd⟩:=hu.dZ;have ex:=Tg hd;subst ex;exact⟨a,b,ys,rfl,rfl,hx,hok,z true _ H2 _ p (s1.trans s2) tB⟩
end
end L2
variable{Ψ:L2.V->L2.fF->Prop}
namespace L2
open PySem PySem.Spec PyProof.Rows Builtin.Str
def Aq(x y:Str):Prop:=(y.length==0)=false/\x.length<=sizeLine/\(partsBetween x (occurrences x y 0 x.length (x.length+1)) y.length).length<=sizeLine
def UG{prog:cj}{y:Str}{t u:Tok}(ok:Aq x y)
  (fin:∀(l:List (Str×Tok)) (k:Nat),l.map (·.1)=hM x y->Q (.ref s.heap.objs.size) {s with heap:=s.heap.push {cls:= .type "list",data:= .seq (ts l).toArray},toks:=k}):wpAny (bo prog w) A (call (.builtin "str.split") [.str x t, .str y u]) Q E s:=by
 obtain⟨o1,o2,a⟩:=ok;have sl:=zg;by_cases c1:(decide (x.length<y.length)||decide (strKind x<strKind y))=true
 .refine mu sl (mr _ _ _) Gp (Hz _ _) (meets_str_split_cannot_occur x y t u c1) ?_;exact fin [(x,t)] s.toks (if_pos c1).symm
 have n1:=tE.mpr c1;by_cases c2:(occurrences x y 0 x.length (x.length+1)).isEmpty=true
 .refine mu sl (mr _ _ _) Gp (Hz _ _) (meets_str_split_not_found x y t u n1 o1 c2) ?_;exact fin [(x,t)] s.toks ((if_neg c1).trans (if_pos c2)).symm
 have n2:=tE.mpr c2;refine mu sl (mr _ _ _) Gp (Hz _ _) (meets_str_split_sep x y t u n1 o1 n2 o2 a) ?_;have f:=fin (numbered s.toks (partsBetween x (occurrences x y 0 x.length (x.length+1)) y.length)) (s.toks+(partsBetween x (occurrences x y 0 x.length (x.length+1)) y.length).length) ((numbered_texts _ _).trans ((if_neg c1).trans (if_neg c2)).symm);rw[<-strsFrom_eq] at f;exact f
def TM:V->List V->Hp->VK->Prop:=λx vs H Q=>∃z y,x= .str z/\vs=[.str y]/\Aq z y/\(hM z y).length<=sizeLine/\∀p,H p=none->Q (.ref p) (upd H p (.lst ((hM z y).map .str)))
theorem ND:∀(l:List (Str×Tok)),Vals ((l.map (·.1)).map V.str) (ts l)
 |[]=> .nil
 |p::l=> .cons ⟨p.2,rfl⟩ (ND l)
def Ao:qI X "str.split" TM:=by
 intro pins s σ H x vs v us Q I rx rv h;obtain⟨z,y,rfl,rfl,ok,C,q⟩:=h;obtain⟨t,rfl⟩:=rx;obtain⟨u,rfl,ru⟩:=rv.one;obtain⟨t',rfl⟩:=ru;refine UG ok λl k e=>?_;refine⟨.ref s.heap.objs.size,_,I.laid (t':=k) (o:= .lst ((hM z y).map .str)) (λb ob q=>cJ _ q) (aH _) ?_,rfl,q _ (I.hok.fresh (aH _))⟩;refine⟨by rw[ak];exact C,ts l,0,?_,gf _ rfl⟩;rw[<-e];exact ND l
theorem uU{S:ax->Prop}{H:Hp}:∀ys:List Str,af S H (ys.map .str) (ys.map V.str)
 |[]=> .nil
 |y::ys=> .cons tB (uU ys)
def aq.split{ta tb:TE}{K:PySem.W.Frag}(h:Ev G ρ ta λ_ x=>∃a,x= .str a/\Ev G ρ tb λ_ y=>∃b,y= .str b/\Aq a b/\(hM a b).length<=sizeLine/\Θ true ((hM a b).map .str)):aq G ρ (oq K "str" TM ta (bN tb cI)) Θ:=λnb σ H Q W z=>
 h nb σ H _ W λf v H1 d ⟨a,e,q⟩ s1 hv=>by
  subst e;rw[hv.kZ];refine⟨rfl,q nb σ H1 _ (W.step s1) λg u H2 y ⟨b,o,ok,C,p⟩ s2 hu=>?_⟩;subst o;rw[hu.kZ];refine⟨a,b,rfl,rfl,ok,C,λc hc=>?_⟩;have O:H c=none:=W.none_of (s1.trans s2) hc;refine z true c _ _ _ p ((s1.trans s2).trans (.same ((W.step (s1.trans s2)).az) (dw hc))) O bB ?_;exact uU _
end L2
namespace L2
open PySem PySem.Spec PyProof.Rows PySem.NumText
section
variable{x:Str}{i:Int}
theorem N1(h0:0<=i):(x5 x (some i) none).cps.toList=x.cps.toList.drop i.toNat:=by
 by_cases h:i<=x.length
 .rw[slice_from_eq h0 h rfl];show dA _ _=_;rw[sN];rw[rF];have:x.cps.toList.length=x.length:=by simp[er]
  omega
 .rw[slice_beyond ∅];have:x.cps.toList.length=x.length:=by simp[er]
  rw[List.drop_eq_nil_of_le ∅]
  rfl
def Sy(c:Nat):km x ⟨#[c]⟩=decide (x.cps.toList.head?=some c):=by
  obtain⟨⟨l⟩⟩:=x;cases l with
  |nil=>rfl
  | cons a r =>
    unfold km EX;by_cases e:a=c
    · subst e
      simp[er]
    · simp[er,e]
end
def jy{y:Str}(h:x.cps.toList=y.cps.toList):x=y:=by
 obtain⟨a⟩:=x;obtain⟨b⟩:=y
 congr 1
 exact Array.toList_inj.mp h
def len_app(x y:Str):(x++y).length=x.length+y.length:=by
 show(x.cps++y.cps).size=_;rw[nV];rfl
noncomputable def Ko:Str:="0123456789"
theorem Iy(c:Nat):(!(eP Ko ⟨#[c]⟩ 0 Ko.length 1).isEmpty)=decide (48<=c/\c<=57):=by
 rw[StrLaws.found_one,show Ko.cps.toList=[48,49,50,51,52,53,54,55,56,57] by decide];rw[lq,decide_eq_true_eq,decide_eq_true_eq];simp only[aK,cU,or_false];omega
noncomputable def ig(x:Str):List Nat:=if x.cps.toList.head?=some 45 then x.cps.toList.drop 1 else x.cps.toList
def oN(x:Str)(j:Int):Prop:=ig x≠[]/\((ig x).length:Int)<=j/\lN (ig x)/\¬((ig x).head?=some 48/\1<x.length)
open Classical in
noncomputable def rX(x:Str)(j:Int):Option Int:=if oN x j then PySem.intText? x else none
theorem GW{j:Int}(h:oN x j)(hl:x.length<=640):∃n,PySem.intText? x=some n:=by
 obtain⟨h1,h2,h3,h4⟩:=h;unfold ig at h1 h2 h3;by_cases c:x.cps.toList.head?=some 45
 .rw[if_pos c] at h1 h3;obtain⟨cs,G⟩:∃cs,x.cps.toList=45::cs:=by
   cases e:x.cps.toList with
   |nil=>rw[e] at c;cases c
   |cons a r=>rw[e] at c;cases c;exact⟨r,rfl⟩
  rw[G] at h1 h3;exact⟨_,PySem.intText_neg G h3 h1 ∅⟩
 .rw[if_neg c] at h1 h3;exact⟨_,Sa h3 h1 ∅⟩
def GK{j n:Int}(h:oN x j)(e:PySem.intText? x=some n):rX x j=some n:=by unfold rX;rw[if_pos h,e]
def PL{j:Int}(h:¬oN x j):rX x j=none:=by unfold rX;rw[if_neg h]
end L2
namespace L2
open PySem PySem.Spec PyProof.Rows PySem.NumText
noncomputable abbrev sg(c:Nat):Str:=⟨#[c]⟩
def join_eq(a:Str)(ys:List Str):dq a ys=ke a ys:=StrLaws.glued_eq_join a ys
theorem F0(c:Nat):∀(a:Str) (r:List Str),(ke (sg c) (a::r)).cps.toList=a.cps.toList++(r.map λy=>c::y.cps.toList).flatten
  |a,[]=>by rw[jU,uL,fW];rfl
  | a, b :: r => by
    have ih:=F0 c b r;show((a.cps++(sg c).cps)++(ke (sg c) (b::r)).cps).toList=_;rw[fS,fS,ih,aZ,nh];simp[sg]
def U0{c:Nat}:∀{A B:List Str},A≠[]->B≠[]->(∀a∈A,c∉a.cps.toList)->(∀b∈B,c∉b.cps.toList)->ke (sg c) A=ke (sg c) B->A=B:=by
  have cut:∀{x y s t:List Nat},c∉x->c∉y->x++(c::s)=y++(c::t)->x=y/\s=t:=by
    intro x;induction x with
    | nil =>
      intro y s t _ hy e;cases y with
      |nil=>exact⟨rfl,by simpa using e⟩
      |cons b y=>simp at e;exact absurd (by rw[e.1];exact cP) hy
    | cons a x ih =>
      intro y s t hx hy e;cases y with
      |nil=>simp at e;exact absurd (by rw[<-e.1];exact cP) hx
      | cons b y =>
        simp at e;obtain⟨J,q2⟩:=ih (λz=>hx (cF _ z)) (λz=>hy (cF _ z)) e.2;exact⟨by rw[e.1,J],q2⟩
  intro A;induction A with
  |nil=>intro B h;exact absurd rfl h
  | cons a r ih =>
    intro B _ hB hA hb e;cases B with
    |nil=>exact absurd rfl hB
    | cons b t =>
      have e2:=congrArg (λx:Str=>x.cps.toList) e;rw[F0,F0] at e2;have ha:=hA a cP;have q9:=hb b cP;cases r with
      | nil =>
        cases t with
        |nil=>rw[jU,uL,fW,fW] at e2;rw[jy e2]
        | cons d t =>
          rw[jU,uL,fW,aZ,nh] at e2;exact absurd (by rw[e2];exact kc _ (by simp)) ha
      | cons r0 r =>
        cases t with
        | nil =>
          rw[jU,uL,fW,aZ,nh] at e2;exact absurd (by rw[<-e2];exact kc _ (by simp)) q9
        | cons t0 t =>
          rw[aZ,nh,aZ,nh,jk,jk] at e2;obtain⟨J,q2⟩:=cut ha q9 e2;have:=ih (B:=t0::t) (by simp) (by simp) (λx hx=>hA x (cF _ hx)) (λx hx=>hb x (cF _ hx)) (jy (by rw[F0,F0];exact q2));rw[jy J,this]
def w4{c:Nat}{A:List Str}(hA:A≠[])(h:∀a∈A,c∉a.cps.toList):hM (dq (sg c) A) (sg c)=A:=by
 rw[join_eq];refine U0 (c:=c) ?_ hA (StrLaws.split_free _ c) h (StrLaws.join_split _ _);intro z;have:=split_pos (ke (sg c) A) (sg c);rw[z] at this;exact absurd this ⋯
theorem xE{c:Nat}(h:x.length+2<=sizeLine):Aq x (sg c)/\(hM x (sg c)).length<=sizeLine:=by
 refine⟨⟨rfl,∅,?_⟩,eu (split_le x (sg c)) h⟩;have h1:=StrLaws.occ_length_le_len x (sg c) 0 x.length (x.length+1);unfold wb;simp;omega
noncomputable abbrev nS(n:Int):Str:=ag (toString n)
def kT(n:Int){c:Nat}(h:c≠45/\(c<48\/57<c)):c∉(nS n).cps.toList:=λz=>int_text_free' c h n z
def O3(m:Nat):lN ((de 10 m).map gq):=λc hc=>by
 obtain⟨ch,a,e⟩:=bH.mp hc;rw[<-e];exact digit_range (Nat.isDigit_of_mem_toDigits ⋯ ⋯ a)
def aap(m:Nat):(nS (m:Int)).cps.toList=(de 10 m).map gq:=PySem.W.KIN.signs_num m
theorem Gd(m:Nat):(nS (-((m:Int)+1))).cps.toList=45::(de 10 (m+1)).map gq:=by
 have e:(-((m:Int)+1))=Int.negSucc m:=∅
 rw[e];unfold nS;rw[signs_ofString];show("-" ++Nat.repr (m+1)).toList.map gq=_;rw[String.toList_append,bh,Nat.toList_repr]
 rfl
theorem Pj:∀(k m:Nat),1<=k->m<10^k->(de 10 m).length<=k:=by
  intro k;induction k with
  |zero=>intro m h;omega
  | succ k ih =>
    intro m _ hm;by_cases h:m<10;· rw[EA h];simp
    · have h2:m%10<10:=rD m ⋯
      have t:de 10 (m/10)++de 10 (m%10)=de 10 (10*(m/10)+m%10):=To ⋯ ∅ h2;rw[uG] at t;have hk:1<=k:=JV λz=>by subst z;simp at hm;omega
      have:=ih (m/10) hk (by rw[xt] at hm;omega);rw[<-t,cH,EA h2];simp;omega
theorem TN(m:Nat):(de 10 m).map gq≠[]/\(((de 10 m).map gq).head?=some 48->m=0):=by
  induction m using tq with
  | _ m ih =>
    by_cases h:m<10
    · rw[EA h]
      refine⟨by simp,λz=>?_⟩;have e:=PySem.W.KIN.digit_back m h;simp at z;omega
    · have h2:m%10<10:=rD m ⋯
      have t:de 10 (m/10)++de 10 (m%10)=de 10 (10*(m/10)+m%10):=To ⋯ ∅ h2;rw[uG] at t;obtain⟨N,B⟩:=ih (m/10) ∅;rw[<-t,bh];refine⟨by simp[N],λz=>?_⟩;rw[List.head?_append] at z;cases e:((de 10 (m/10)).map gq).head? with
      |none=>exact absurd (List.head?_eq_none_iff.mp e) N
      | some c =>
        rw[e] at z;cases z;have:=B e;omega
theorem fY{n:Int}(h:n.natAbs<10^60):rX (nS n) 60=some n/\(nS n).length<=61/\1<=(nS n).length:=by
  have hcl:(nS n).cps.toList.length=(nS n).length:=by simp[er]
  rcases Int.lt_or_le n 0 with hn|hn
  · obtain⟨m,rfl⟩:∃m:Nat,n= -((m:Int)+1):=⟨(-n-1).toNat,∅⟩
    have e:=Gd m;have hd:=O3 (m+1);obtain⟨h1,h2⟩:=TN (m+1);have hl:=Pj 60 (m+1) ⋯ ∅;have hlen:(nS (-((m:Int)+1))).length=(de 10 (m+1)).length+1:=by rw[<-hcl,e];simp
    have hf:ig (nS (-((m:Int)+1)))=(de 10 (m+1)).map gq:=by unfold ig;rw[e];rfl
    have hi:=PySem.intText_neg e hd h1 (by rw[hlen];omega);rw[Nj] at hi;refine⟨GK ⟨by rw[hf];exact h1,by rw[hf,ak];omega,by rw[hf];exact hd,λz=>?_⟩ (hi.trans (by congr 1)),∅,∅⟩;rw[hf] at z;have:=h2 z.1;omega
  · obtain⟨m,rfl⟩:=HU hn
    have e:=aap m;have hd:=O3 m;obtain⟨h1,h2⟩:=TN m;have hl:=Pj 60 m ⋯ ∅;have hl1:=BR.mpr h1;rw[ak] at hl1;have hlen:(nS (m:Int)).length=(de 10 m).length:=by rw[<-hcl,e];simp
    have hf:ig (nS (m:Int))=(de 10 m).map gq:=by
      unfold ig;rw[e,if_neg];intro z;cases L:(de 10 m).map gq with
      |nil=>exact h1 L
      | cons c r =>
        rw[L] at z;cases z;have:=hd 45 (by rw[L];exact cP);omega
    have hi:=Sa (x:=nS (m:Int)) (by rw[e];exact hd) (by rw[e];exact h1) (by rw[hlen];omega);rw[e,Nj] at hi;refine⟨GK ⟨by rw[hf];exact h1,by rw[hf,ak];omega,by rw[hf];exact hd,λz=>?_⟩ hi,∅,∅⟩;rw[hf] at z;have h0:=h2 z.1;subst h0;have:=z.2;rw[hlen] at this;exact absurd this ⋯
def ji:List V->Hp->VK->Prop:=λxs H Q=>∃i,xs=[.int i]/\i.natAbs.log2<1920/\Q (.str (nS i)) H
def kL:fT X (.type "str") ji:=Xh
def Fq(K:PySem.W.Frag)(tl:TE):TI:=λσ H R=>oU K tl σ H R\/za K tl σ H R
def VM{K:PySem.W.Frag}{l:eM}(c:X.K=K)(hl:PE X l tl):PI X tg l (Fq K tl):=by
 subst c;intro pins s σ H R I h;rcases h with h|h
 .exact KY hl pins s σ H R I h
 .exact VL hl pins s σ H R I h
section
variable{G:Gx}{ρ:Rh}{te ta:TE}{gt:TG}{tc:TT}{mp:List (Option Nat)}{K:PySem.W.Frag}{Θ:Bool->List PyData->Prop}{Φ:Pd}
def aq.QR(h:aq G ρ (jW (oU K ta) gt tc te mp) Θ):aq G ρ (jW (Fq K ta) gt tc te mp) Θ:=λnb σ H Q W z=> .inl (h nb σ H Q W z)
def aq.XY(h:aq G ρ (jW (za K ta) gt tc te mp) Θ):aq G ρ (jW (Fq K ta) gt tc te mp) Θ:=λnb σ H Q W z=> .inr (h nb σ H Q W z)
def Ev.gU{tb:TE}(h:Ev G ρ ta λ_ x=>∃i,x= .str i/\Ev G ρ tb λ_ y=>∃j,y= .str j/\i.length+j.length<=sizeLine/\Φ true (.str (i++j))):Ev G ρ (dP Qt ta tb) Φ:=λnb σ H Q W z=>
 h nb σ H _ W λf v H1 d ⟨a,e,q⟩ s1 hv=>by
  subst e;rw[hv.kZ];refine q nb σ H1 _ (W.step s1) λg u H2 y ⟨b,o,hl,p⟩ s2 hu=>?_;subst o;rw[hu.kZ];exact⟨a,b,rfl,rfl,hl,z true _ H2 _ p (s1.trans s2) tB⟩
def Ev.k9(h:Ev G ρ ta λ_ x=>∃i,x= .int i/\i.natAbs<10^60/\Φ true (.str (nS i))):Ev G ρ (gv ji (bN ta cI)) Φ:=λnb σ H Q W z=>
 h nb σ H _ W λf v H1 d ⟨i,e,hi,q⟩ s1 hv=>by
  subst e;rw[hv.cV];refine⟨i,rfl,?_,z true _ H1 _ q s1 tB⟩;by_cases c:i.natAbs=0;·rw[c];decide
  .exact fJ (IZ c|>.mpr (fJ hi (by decide:10^60<=2^200))) ⋯
end
noncomputable def bA(first:Str)(b:List Str):Str:=dq (sg 32) (first::b)
def VU{first:Str}{b:List Str}(h1:32∉first.cps.toList)(h2:∀o∈b,32∉o.cps.toList):hM (bA first b) (sg 32)=first::b:=
 w4 (by simp) λa ha=>(aK.mp ha).elim (λe=>e▸h1) (h2 a)
noncomputable def jO(ys:List Str):Nat:=(ys.map (·.length)).sum
theorem join_le(c:Nat)(a:Str)(r:List Str):(dq (sg c) (a::r)).length=a.length+jO r+r.length:=by
  have e:=congrArg gO (F0 c a r);rw[<-join_eq] at e;have h1:(dq (sg c) (a::r)).cps.toList.length=(dq (sg c) (a::r)).length:=by simp[er]
  have h2:a.cps.toList.length=a.length:=by simp[er]
  have h3:∀r:List Str,((r.map λy=>c::y.cps.toList).flatten).length=jO r+r.length:=by
    intro r;induction r with
    |nil=>rfl
    | cons b r ih =>
      have h4:b.cps.toList.length=b.length:=by simp[er]
      have h5:jO (b::r)=b.length+jO r:=by unfold jO;rw[aZ,rV]
      rw[aZ,nh,cH,ih,cZ,h4,h5,cZ];omega
  rw[cH,h3] at e;omega
theorem F4{c B:Nat}(O:∀y∈ys,y.length<=B)(h:ys.length*B+ys.length<=16777216):mE (sg c) ys=true:=by
 unfold mE;rw[rS];exact uv O (by show _+_*1<=_;omega)
theorem mZ{B:Nat}:∀{ys:List Str},(∀y∈ys,y.length<=B)->jO ys<=ys.length*B
  |[],_=>eT _
  | y :: ys, h => by
    have:=mZ (ys:=ys) λz hz=>h z (cF _ hz);have h1:=h y cP;unfold jO at this⊢;rw[aZ,rV,cZ,Nat.succ_mul];omega
end L2
namespace L2
def Au(G:Gx)(ρ:Rh)(te:TE)(Θ:List (List PyData)->Prop):Prop:=∀nb σ H (Q:VK),Wd G nb ρ σ H->
 (∀ a0 (bs : List Addr) (bC : List (List PyData)) H', Θ bC -> Step G.B H H' -> (a0 :: bs).Nodup -> (∀ b ∈ a0 :: bs, H b = none) -> bs.length = bC.length -> H' a0 = some (.lst (bs.map .ref)) ->
  (∀(i:Nat) b ds,bs[i]?=some b->bC[i]?=some ds->∃xs,H' b=some (.lst xs)/\af (λx=>G.S nb true x\/x∈a0::bs) H' ds xs)->Q (.ref a0) H')->te σ H Q
def uD(S:ax->Prop)(H:Hp)(bs:List ax)(bC:List (List PyData)):Prop:=∀(i:Nat) b ds,bs[i]?=some b->bC[i]?=some ds->∃xs,H b=some (.lst xs)/\af S H ds xs
theorem uD.snoc{S:ax->Prop}{bs:List ax}(hl:bs.length=bC.length)(h:uD S H bs bC)(q:∃xs,H b=some (.lst xs)/\af S H ds xs):uD S H (bs++[b]) (bC++[ds]):=λi c es e1 e2=>by
 rcases Ag i bs.length with z|z|z
 .rw[gW z] at e1;rw[gW ∅] at e2;exact h i c es e1 e2
 .subst z;rw[iK (aH _),zu] at e1;rw[hl,iK (aH _),zu] at e2;cases e1;cases e2;exact q
 .rw[pS (by rw[cH,gQ];omega)] at e1;cases e1
section
variable{G:Gx}{ρ bM:Rh}{te ta tb t0:TE}{gt:TG}{mp:List (Option Nat)}{K:PySem.W.Frag}{Θ:List (List PyData)->Prop}{E:DE}
theorem Au.e7(hm:(mp.filterMap id).Nodup)(r:lz mp ρ=bM)(h:Ev G ρ t0 λfi x=>∃es,x= .list es/\es.length<=10000/\∀v,∃I:Nat->List (List PyData)->Prop,I 0 []/\
   (∀i d bC,es[i]?=some d->bC.length=i->I i bC->Gv (G.hd fi (.list es) v) bM gt fi d λm=>Wk bM m/\jH (G.hd fi (.list es) v) m te λe=>∃ds,e= .list ds/\I (i+1) (bC++[ds]))/\∀bC,bC.length=es.length->I es.length bC->Θ bC):
  Au G ρ (jW (oU K t0) gt p9 te mp) Θ:=λnb σ H Q W z=>
 h nb σ H _ W λfi v H1 x ⟨es,ex,hn,q⟩ s1 hv=>by
  subst ex;obtain⟨I,h0,ht,he⟩:=q v;have W0:=(W.step s1).hd hv;obtain⟨a,xs,rfl,n,hx,hd⟩:=hv.dZ;refine⟨a,rfl,⟨xs, .of hx⟩,λacc g=>?_⟩;have t:Wd (G.hd fi (.list es) (.ref a)) nb bM (L2.fV mp σ) H1:=by rw[<-r];exact W0.fV hm
  have W1:=t.more g (o:= .lst []);have hN:=NB.new s1.2 g;have hno:=rJ t g;have aA:Step G.B H1 (upd H1 acc (.lst [])):= .same s1.2 (dw g);have A:NB G.B a:=jm λz=>n (.inr (.inr (.inl z)));refine R.FZ (xs:=xs) (λi σ H=>∃bs bC,Wd (G.hd fi (.list es) (.ref a)) (λx=>nb x\/x=acc) bM σ H/\Step G.B H1 H/\H acc=some (.lst (bs.map .ref))/\(acc::bs).Nodup/\(∀b∈bs,H1 b=none/\H b≠none)/\bs.length=bC.length/\bC.length=i/\I i bC/\uD (λx=>G.S nb true x\/x∈acc::bs) H bs bC) ⟨[],[],W1,aA,bB,by simp,(λ_ z=>by cases z),rfl,rfl,h0,λi b ds e=>by cases e⟩ ?_ ?_ ?_
  .rintro i σ H hi ⟨bs,bC,W,st,_⟩;exact .of (st.1 _ _ A hx)
  .rintro i x σ H hi ⟨bs,bC,W,st,hy,hnd,hbn,lF,hdl,hI,nj⟩;obtain⟨w,l,e',_,h',d'⟩:=W.nL.2.dZ;cases e';rw[st.1 _ _ A hx] at h';cases h'
   have hil:i<es.length:=by have:=(bV.mp hi).1;have:=d'.length;omega
   obtain⟨J,M,dx⟩:=d'.get (aS hil);rw[hi] at M;cases M
   refine ht i _ bC (aS hil) hdl hI _ σ H x _ W dx λk m ⟨wk,q⟩ W2=>?_;refine q _ k H _ W2 λv H4 e ⟨ds,F,s⟩ s4 hv=>?_;subst F;obtain⟨b,ys,eb,L,U,u⟩:=id hv.dZ;subst eb;have D:H b=none:=jm L;have uf:=s4.1 _ _ hN hy;refine⟨_,uf,by rw[ak];exact fJ (show bs.length<10001 by omega) ⋯,?_⟩;have W4:Wd (G.hd fi (.list es) (.ref a)) (λx=>nb x\/x=acc) bM k H4:=(W2.step s4).wk wk
   have E:Wd (G.hd fi (.list es) (.ref a)) (λx=>nb x\/x=acc) bM k (upd H4 acc (.lst (bs.map .ref++[.ref b]))):=W4.write (.inr rfl) hN hno.1 (λj a f ds e z=>by
    subst z;obtain⟨_,_,_,_,_,ps,hp,_⟩:=W4.ok j _ e;rw[uf] at hp;cases hp) hno.2
   have C:acc≠b:=λz=>by rw[z,D] at hy;cases hy
   have q9:b∉bs:=λz=>(hbn b z).2 D;have X:NB G.B b:=NB.new W.az D
   have O:Step G.B H1 (upd H4 acc (.lst (bs.map .ref++[.ref b]))):=⟨λa o n q=>by
    have T:a≠acc:=λz=>by subst z;rw[g] at q;cases q
    rw[br T];exact(st.trans s4).1 a o n q,E.az⟩
   have P:H1 b=none:=jm λz=>by
    cases e:H1 b with
    |none=>exact z e
    |some o=>rw[st.1 b o X e] at D;cases D
   refine⟨bs++[b],bC++[ds],E,O,by rw[bB,bh];rfl,?_,λc hc=>?_,by simp[lF],by simp[hdl],s,?_⟩
   .rw[<-jk];refine tX.mpr ⟨hnd,by simp,λx hx y hy=>?_⟩;rw[aY.mp hy];rintro rfl;rcases aK.mp hx with z|z
    .exact C z.symm
    .exact q9 z
   .have p:c≠acc:=λz=>by
     rcases fO.mp hc with q|q
     .exact(iT.mp hnd).1 (z▸q)
     .exact C (z▸aY.mp q)
    rw[br p];rcases fO.mp hc with q|q
    .refine⟨(hbn c q).1,?_⟩;cases e:H c with
     |none=>exact absurd e (hbn c q).2
     |some o=>rw[s4.1 c o (NB.new s1.2 (hbn c q).1) e];exact gy _
    .rw[aY.mp q];exact⟨P,by rw[U];exact gy _⟩
   .have V:∀x,(G.S nb true x\/x∈acc::(bs++[b]))->((G.S nb true x\/x∈acc::bs)\/x=b):=λx z=>by
     rcases z with z|z
     .exact .inl (.inl z)
     .rcases aK.mp z with z|z
      .exact .inl (.inr (z▸cP))
      .rcases fO.mp z with z|z
       .exact .inl (.inr (cF _ z))
       .exact .inr (aY.mp z)
    have bt:bu (λx=>G.S nb true x\/x∈acc::(bs++[b])) H4 (upd H4 acc (.lst (bs.map .ref++[.ref b]))):=bu.set (.inr cP);refine uD.snoc lF (λj c es' e1 e2=>?_) ⟨ys,by rw[br C.symm];exact U,?_⟩
    .obtain⟨zs,hz,N⟩:=nj j c es' e1 e2;have hcb:=bP e1;have p:c≠acc:=λz=>(iT.mp hnd).1 (z▸hcb);refine⟨zs,by rw[br p];exact s4.1 c _ (NB.new s1.2 (hbn c hcb).1) hz,?_⟩;refine af.keep bt (af.av V ?_);exact af.keep (s4.but λx z=> .inl (.inl (.inr (.inr (.inl z))))) (N.fresh D)
    .refine af.keep bt ?_;have hout:=af.out hv (by simp) u;refine hout.av λx z=>?_;rcases V x z with z|z
     .refine .inl ?_;rcases z with z|z
      .have hl:∀x,(G.hd fi (.list es) (.ref a)).S (λx=>nb x\/x=acc) true x->H x≠none:=λx q=>W.gF x q
       exact hl x (by
        rcases z with z|z|z|z
        .exact .inl (.inl z)
        .exact .inr (.inl z)
        .exact .inr (.inr (.inl z))
        .exact .inr (.inr (.inr z)))
      .rcases aK.mp z with z|z
       .rw[z,hy];exact gy _
       .exact(hbn x z).2
     .exact .inr z
  .rintro σ H' ⟨bs,bC,W',st,hy,hnd,hbn,lF,hdl,hI,nj⟩;rw[hd.length] at hdl hI;refine z acc bs bC H' (he bC hdl hI) (s1.trans st) hnd (λb hb=>?_) lF hy nj;rcases aK.mp hb with q|q
   .rw[q];exact W.none_of s1 g
   .exact W.none_of s1 (hbn b q).1
structure uS(L:fF)(c a0:ax)(bs:List ax)(d1 d2:PyData)(bC:List (List PyData)):Prop where
 nd:(c::a0::bs).Nodup
 len:bs.length=bC.length
 hc:L.lookup c=some (.tup [.dat d1, .dat d2, .own a0])
 h0:L.lookup a0=some (.lst (bs.map .own))
 hb:∀(i:Nat) b ds,bs[i]?=some b->bC[i]?=some ds->L.lookup b=some (.lst (ds.map .dat))
def Z4{L:fF}{c:ax}{bs:List ax}{d1 d2:PyData}(hc:L.lookup c=some (.tup [.dat d1, .dat d2, .own a0]))(h0:L.lookup a0=some (.lst (bs.map .own)))(len:bs.length=bC.length)
    (hb:∀(i:Nat) b ds,bs[i]?=some b->bC[i]?=some ds->L.lookup b=some (.lst (ds.map .dat))):iM L (.own c) (.tuple [d1,d2, .list (bC.map .list)]):=by
  refine .tup hc rfl λi x d e1 e2=>?_
  match i with
  |0=>cases e1;cases e2;exact .dat _
  |1=>cases e1;cases e2;exact .dat _
  | 2 =>
    cases e1;cases e2;refine .lst h0 (by rw[ak,ak,len]) λj y e g1 g2=>?_;rw[cS] at g1 g2;obtain⟨b,m,rfl⟩:=lH.mp g1;obtain⟨ds,u,rfl⟩:=lH.mp g2;exact iM.pT (hb j b ds m u)
  |i+3=>cases e1
def uS.Tc{L:fF}{c:ax}{bs:List ax}{d1 d2:PyData}(h:uS L c a0 bs d1 d2 bC):iM L (.own c) (.tuple [d1,d2, .list (bC.map .list)]):=Z4 h.hc h.h0 h.len h.hb
theorem Sv.Yo(hE:E.rw=(MV G Ψ).rw)(h:Ev G ρ ta λ_ d1=>iV d1=true/\Ev G ρ tb λ_ d2=>iV d2=true/\Au G ρ te λbC=>∀L c a0 bs,uS L c a0 bs d1 d2 bC->Ψ (.ref c) L):
    Sv G ρ (nZ (qQ (bN ta (bN tb (bN te cI))))) E:=λnb σ H D W KK=>
  h nb σ H _ W λY t H1 d1 ⟨N,q⟩ s1 u=>q nb σ H1 _ (W.step s1) λU n H2 d2 ⟨O,q⟩ s2 F=>q nb σ H2 _ ((W.step s1).step s2) λa0 bs bC H3 p s3 w f hl h0 B=>by
    have W2:=(W.step s1).step s2;have W3:=W2.step s3;refine⟨by show 3<=sizeLine;decide,λc hc=>?_⟩;have g:∀b∈a0::bs,H3 b≠none:=λb hb=>by
      rcases aK.mp hb with z|z
      · rw[z,h0];exact gy _
      · obtain⟨i,hi⟩:=jS z
        have hil:=(bV.mp hi).1;obtain⟨xs,hx,_⟩:=B i b _ hi (aS (by rw[<-hl];exact hil));rw[hx];exact gy _
    have v:c∉a0::bs:=λz=>g c z hc;have rG:cT H3 (upd H3 c (.tup [t,n, .ref a0])):=dw hc;have W4:=W3.step (Step.same W3.az rG);have hz:(ix (λ(b:ax) (ds:List PyData)=>(b,OO.lst (ds.map .dat))) bs bC).map (·.1)=bs:=by
      apply pG;intro i;rw[cS,List.getElem?_zipWith];by_cases hi:i<bs.length;· rw[aS hi,aS (by omega:i<bC.length)];rfl
      · rw[pS (by omega:bs.length<=i)];rfl
    have K:∀b o,(ix (λ(b:ax) (ds:List PyData)=>(b,OO.lst (ds.map .dat))) bs bC).lookup b=some o->∃(i:Nat) (ds:List PyData),bs[i]?=some b/\bC[i]?=some ds/\o= .lst (ds.map .dat):=by
      clear B g v h0 w f hz p;induction bs generalizing bC with
      |nil=>intro b o e;cases e
      | cons a r ih =>
        intro b o e;cases bC with
        |nil=>cases e
        | cons ds M =>
          rw[List.zipWith_cons_cons] at e;by_cases hb:b=a
          · subst hb
            rw[cA,beq_self_eq_true] at e;cases e;exact⟨0,ds,rfl,rfl,rfl⟩
          · rw[cA,beq_false_of_ne hb] at e
            obtain⟨i,k,h1,h2,h3⟩:=ih M (by simpa using hl) b o e;exact⟨i+1,k,h1,h2,h3⟩
    have d:((c,OO.tup [.dat d1, .dat d2, .own a0])::(a0, .lst (bs.map .own))::ix (λ(b:ax) (ds:List PyData)=>(b,OO.lst (ds.map .dat))) bs bC).map (·.1)=c::a0::bs:=by
      rw[aZ,aZ,hz]
    have J:(c::a0::bs).Nodup:=iT.mpr ⟨v,w⟩;have hok:uS ((c,OO.tup [.dat d1, .dat d2, .own a0])::(a0, .lst (bs.map .own))::ix (λ(b:ax) (ds:List PyData)=>(b,OO.lst (ds.map .dat))) bs bC) c a0 bs d1 d2 bC:=by
      have T:a0≠c:=λz=>v (z▸cP);refine⟨J,hl,by simp,by rw[cA,beq_false_of_ne T];simp,λi b ds e1 e2=>?_⟩;have hbm:=bP e1;have I:b≠c:=λz=>v (z▸cF _ hbm);have C:b≠a0:=λz=>(iT.mp w).1 (z▸hbm);rw[cA,beq_false_of_ne I];show et b ((a0,_)::_)=_;rw[cA,beq_false_of_ne C];show et b _=_;obtain⟨o,ho⟩:=Qh (L:=ix (λ(b:ax) (ds:List PyData)=>(b,OO.lst (ds.map .dat))) bs bC) (a:=b) (by rw[hz];exact hbm);obtain⟨j,k,g1,g2,rfl⟩:=K b o ho;have:i=j:=(List.getElem?_inj (bV.mp e1).1 (iT.mp w).2).mp (e1.trans g1.symm);subst this;rw[e2] at g2;cases g2
      exact ho
    refine KK.rw nb ρ σ _ _ ?_ W4;rw[hE];refine⟨_,p _ c a0 bs hok,λb hb=>?_,by rw[d];exact J,λb o l=>?_⟩
    · rw[d] at hb
      rcases aK.mp hb with z|z
      · rw[z]
        cases q:G.H0 c with
        |none=>rfl
        |some o=>rw[W3.old c o (NB.new W3.az hc) q] at hc;cases hc
      · cases q:G.H0 b with
        |none=>rfl
        | some o =>
          have:=f b z;rw[W2.old b o (NB.new W2.az this) q] at this;cases this
    · rw[d]
      have sub:∀b,(G.H0 b≠none\/b∈c::a0::bs)->((G.S nb true b\/b∈a0::bs)\/b=c):=λb z=>by
        rcases z with z|z
        · exact .inl (.inl (.inr (.inr (.inr ⟨rfl,z⟩))))
        · rcases aK.mp z with z|z
          · exact .inr z
          · exact .inl (.inr z)
      have up:∀{x:Oi} {y:V},fZ (λx=>G.S nb true x\/x∈a0::bs) H3 x y->fZ (λb=>G.H0 b≠none\/b∈c::a0::bs) (upd H3 c (.tup [t,n, .ref a0])) x y:=λ{x y} q=>((q.fresh hc).av sub).keep (bu.of rG);by_cases h1:b=c
      · subst h1
        rw[cA,beq_self_eq_true] at l;cases l;exact⟨_,bB, .cons (u.jj N) (.cons (F.jj O) (.cons rfl .nil))⟩
      · rw[cA,beq_false_of_ne h1] at l
        by_cases h2:b=a0
        · subst h2
          rw[cA,beq_self_eq_true] at l;cases l;refine⟨bs.map .ref,by rw[br h1];exact h0,by simp,λi x y g1 g2=>?_⟩;rw[cS] at g1 g2;obtain⟨A,m,rfl⟩:=lH.mp g1;rw[m] at g2;cases g2
          rfl
        · rw[cA,beq_false_of_ne h2] at l
          obtain⟨i,ds,e1,e2,rfl⟩:=K b o l;obtain⟨xs,hx,s⟩:=B i b ds e1 e2;exact⟨xs,by rw[br h1];exact hx,(i8.pT s).imp λx y q=>up q⟩
end
end L2
namespace L2
open PySem PySem.Spec PyProof.Rows PySem.NumText
noncomputable def jv(pr:Int×Int):Str:=nS pr.1++ag ":" ++nS pr.2
def zQ(pr:Int×Int):Prop:=pr.1.natAbs<10^60/\pr.2.natAbs<10^60
theorem Jh(h:zQ pr):(jv pr).length<=123/\1<=(jv pr).length:=by
 have O:(ag ":").length=1:=⋯
 have h1:=(fY h.1).2.1;have h2:=(fY h.2).2.1;unfold jv;rw[len_app,len_app,O];omega
def Nk(pr:Int×Int):jv pr=dq (sg 58) [nS pr.1,nS pr.2]:=by
 refine jy ?_;rw[join_eq,F0];unfold jv;have h:∀x y:Str,(x++y).cps.toList=x.cps.toList++y.cps.toList:=λx y=>by
  show(x.cps++y.cps).toList=_;rw[fS]
 rw[h,h,show(ag ":").cps.toList=[58] by decide];simp
def OD(pr:Int×Int){c:Nat}(h:c≠45/\c≠58/\(c<48\/57<c)):c∉(jv pr).cps.toList:=by
 rw[Nk,join_eq,F0];intro z;rcases fO.mp z with z|z
 .exact kT _ ⟨h.1,h.2.2⟩ z
 .simp at z;rcases z with z|z
  .exact h.2.1 z
  .exact kT pr.2 ⟨h.1,h.2.2⟩ (by simpa using z)
def JP(prs:ao):Prop:=prs.length<=240/\∀pr∈prs,zQ pr
def sL(p n:Int)(cs:List ao):Prop:=p.natAbs<10^60/\n.natAbs<10^60/\cs.length<=400/\∀prs∈cs,JP prs
noncomputable def qf(prs:ao):Str:=bA "check" (prs.map jv)
noncomputable def nu(p n:Int)(cs:List ao):List Str:=bA "net" ([p,n].map nS)::cs.map qf
noncomputable def nY(p n:Int)(cs:List ao):Str:=dq (sg 10) (nu p n cs)
end L2
namespace L2
inductive Yz where
 |lt (a b:Int)|ck (prs:ao) (r:Int)
noncomputable abbrev V8:=List (Int×Yz)
structure Pc where
 wd:Wo
 wh:Int->Option PyData
structure aif(L:fF)(o o1 o2:ax)(m:Int)(ns gs:List Int):Prop where
 nd:[o,o1,o2].Nodup
 h0:L.lookup o=some (.lst [.dat (.int m), .own o1, .own o2])
 h1:L.lookup o1=some (.lst (ns.map λn=> .dat (.int n)))
 h2:L.lookup o2=some (.lst (gs.map λn=> .dat (.int n)))
variable{p n many:Int}{es:V8}
end L2
namespace L2
def vC(nb:ax->Prop)(H H':Hp)(L:fF):Prop:=(∀a∈L.map (·.1),H a=none)/\sV (λa=>nb a\/a∈L.map (·.1)) H' L
def wC(n:Nat)(F:SF):Sp:=λvs H Q _=>vs.length=n/\∃(nb:ax->Prop) (ds:List PyData),iX nb H/\af nb H ds vs/\F ds λv L=>∀H',cT H H'->vC nb H H' L->Q v H'
noncomputable def QW(G:Gx)(Ψ:V->fF->Prop):DE where
 nx:=λ_=>False
 rt:=λ_ _=>False
 rw:=λ_ _ v H=>∃L,Ψ v L/\vC G.A G.H0 H L
section
variable{G:Gx}{ρ:Rh}{ta tb te:TE}{t:TA}{E:DE}{i j:Nat}{K:PySem.W.Frag}
def Sv.ZW{F:SF}(hm:t6 F)(h:Av G ρ t λes=>es.length=n/\F (es.map (·.2)) λv L=>(L.map (·.1)).Nodup->E.nx (ρ.set i (.cu (stC v (gX es) L)))):Sv G ρ (gD (gY (wC n F) [] E0 t) (gZ i)) E:=λnb σ H D W KK=>
 h nb σ H _ W λes vs H1 ⟨hl,p⟩ s1 J=>by
  have W1:=W.step s1;show wC n F (vs++[]) H1 _ E0;rw[fW];refine⟨by rw[J.len,hl],G.S nb (gX es),es.map (·.2),W1.gF,J.all λz=>z,hm _ _ _ p λv L hp H' sm ⟨f,hok⟩=>?_⟩;exact KK.nx _ _ _ _ (hp hok.1) (W1.CQ (i:=i) (c:=stC v (gX es) L) (.same W1.az sm) f hok.live hok)
def Sv.Vc{Q:VK}{Φ:V->fF->Prop}{b:TS}(hl:iX nb H)(hd:af nb H ds vs)(D:∀v L H',Φ v L->cT H H'->vC nb H H' L->Q v H')
  (r:ρ=ds.map (Sl.d false)++cq (N.length-ds.length) .no) (h:Sv ⟨none,H,nb,[]⟩ ρ b (QW ⟨none,H,nb,[]⟩ Φ)):b {nx:=λ_ H'=>Q .aL H',rt:=Q} (start N vs) H:=
 TF (P:=λσ H1=>b {nx:=λ_ H'=>Q .aL H',rt:=Q} σ H1) hl hd r λaP σ H1 W=>h aP σ H1 _ W
  ⟨λ_ _ _ _ q _=>q.elim,λ_ _ _ _ q _=>q.elim,λ_ _ _ _ q _=>q.elim,λ_ _ _ _ _ _ _ q _ _=>q.elim,λc g k v H2 ⟨L,q,hn⟩ W2=>D v L H2 q (λa o e=>W2.old a o (λ_ _ z=>(by cases z)) e) hn⟩
def Sv.Vf{f:Bool}(j:Nat)(n:j≠i)(hjl:j<ρ.length)(hE:E.rw=(QW G Ψ).rw)(O:ρ[i]?=some (.own a0 f ds))(h:aq G ρ te λg es=>∀c a1,c≠a0->c≠a1->a0≠a1->Ψ (.ref c) [(c, .tup [.own a0, .own a1]),(a0, .lst (ds.map .dat)),(a1, .lst (es.map .dat))]):
  Sv G ρ (nZ (qQ (bN (dD i) (bN te cI)))) E:=λnb σ H D W KK=>by
 obtain⟨M,m,w,C,K,F,v,B⟩:=W.ok i _ O;subst w;refine⟨.ref a0,m,?_⟩;refine h nb σ H _ W λg a1 J H1 es p s1 k o4 hd1=>?_;refine⟨by show 2<=sizeLine;decide,λc hc=>?_⟩;have W1:=R8 (i:=j) W s1 k o4 hd1;obtain⟨x2,g2,I,hn2,t,xs,hx,s⟩:=W1.ok i (.own a0 f ds) (by rw[bO n];exact O);obtain⟨x3,N,P,u,L,ys,hy,r⟩:=W1.ok j (.own a1 g es) (by rw[dB hjl]);have a:a0≠a1:=λz=>by rw[z,k] at v;cases v
 have e:c≠a0:=λz=>by rw[z,hx] at hc;cases hc
 have X:c≠a1:=λz=>by rw[z,hy] at hc;cases hc
 have rG:cT H1 (upd H1 c (.tup [.ref a0, .ref a1])):=dw hc;have W2:=W1.step (Step.same W1.az rG)
 suffices hh:vC G.A G.H0 (upd H1 c (.tup [.ref a0, .ref a1])) [(c, .tup [.own a0, .own a1]),(a0, .lst (ds.map .dat)),(a1, .lst (es.map .dat))] from KK.rw _ _ _ _ _ (by rw[hE];exact⟨_,p c a1 e X a,hh⟩) W2
 have d:[(c,OO.tup [.own a0, .own a1]),(a0, .lst (ds.map .dat)),(a1, .lst (es.map .dat))].map (·.1)=[c,a0,a1]:=rfl;have hN:∀b,b=c\/b=a0\/b=a1->G.H0 b=none:=λb z=>by
  rcases z with z|z|z
  .subst z;cases q:G.H0 b with
   |none=>rfl
   |some o=>rw[W1.old b o (NB.new W1.az hc) q] at hc;cases hc
  .subst z;exact W1.dY b hn2 t
  .subst z;exact W1.dY b u L
 have sub:∀g b,(G.A b\/b∈[c,a0,a1])->(G.S (λx=>nb x\/x=a1) g b\/b=c):=λg b z=>by
  rcases z with z|z
  .exact .inl (.inr (.inl z))
  .simp at z;rcases z with z|z|z
   .exact .inr z
   .exact .inl (.inl (z▸hn2))
   .exact .inl (.inl (z▸u))
 have up:∀{g:Bool} {x:Oi} {y:V},fZ (G.S (λx=>nb x\/x=a1) g) H1 x y->fZ (λb=>G.A b\/b∈[c,a0,a1]) (upd H1 c (.tup [.ref a0, .ref a1])) x y:=λ{g x y} q=>((q.fresh hc).av (sub g)).keep (bu.of rG);refine⟨λb z=>hN b (by rw[d] at z;simpa using z),?_,λb o l=>?_⟩
 .rw[d];simp[e,X,a]
 rw[d];by_cases h1:b=c
 .subst h1;rw[cA,beq_self_eq_true] at l;cases l;exact⟨_,bB, .cons rfl (.cons rfl .nil)⟩
 .rw[cA,beq_false_of_ne h1] at l;by_cases h2:b=a0
  .subst h2;rw[cA,beq_self_eq_true] at l;cases l;exact⟨xs,by rw[br h1];exact hx,(i8.pT s).imp λx y q=>up q⟩
  .rw[cA,beq_false_of_ne h2] at l;by_cases h3:b=a1
   .subst h3;rw[cA,beq_self_eq_true] at l;cases l;exact⟨ys,by rw[br h1];exact hy,(i8.pT r).imp λx y q=>up q⟩
   .rw[cA,beq_false_of_ne h3] at l;cases l
end
noncomputable def nB(c a0 a1:ax)(ms:List bK)(ls:List Int):fF:=[(c, .tup [.own a0, .own a1]),(a0, .lst ((ms.map kj).map .dat)),(a1, .lst ((ls.map bj).map .dat))]
def af4{c a1:ax}(h0:c≠a0)(h1:c≠a1)(h2:a0≠a1):iM (nB c a0 a1 ms ls) (.own c) (.tuple [.list (ms.map kj), .list (ls.map .int)]):=by
 have l0:(nB c a0 a1 ms ls).lookup c=some (.tup [.own a0, .own a1]):=by unfold nB;simp
 have O:(nB c a0 a1 ms ls).lookup a0=some (.lst ((ms.map kj).map .dat)):=by unfold nB;rw[cA,beq_false_of_ne h0.symm];simp
 have G:(nB c a0 a1 ms ls).lookup a1=some (.lst ((ls.map bj).map .dat)):=by unfold nB;rw[cA,beq_false_of_ne h1.symm];show et a1 [_,_]=_;rw[cA,beq_false_of_ne h2.symm];simp
 have pT:∀(ds:List PyData) (i:Nat) x d,(ds.map Oi.dat)[i]?=some x->ds[i]?=some d->iM (nB c a0 a1 ms ls) x d:=λds i x d e1 e2=>by
  rw[cS,e2] at e1;cases e1;exact .dat d
 refine .tup l0 rfl λi x d e1 e2=>?_
 match i with
 |0=>cases e1;cases e2;exact .lst O (by simp) (pT _)
 |1=>cases e1;cases e2;exact .lst G (by simp) (pT _)
 |i+2=>cases e1
def O1:R2:=λx y H Q=>∃a b ps,x= .ref a/\y= .ref b/\Rd H a (.dK ps)/\Rd H b (.dK [])/\Q (.bl ps.isEmpty) H
theorem Vj(hu:X.A.units+64<D3):c9 X (du .Eq) O1:=by
  intro pins s σ H x y v u Q I rx ry h;obtain⟨a,b,ps,rfl,rfl,ha,hb,q⟩:=h;cases (show v=dC a from rx);cases (show u=dC b from ry);obtain⟨z1,hd1,vs,B,n⟩:=qN I.hok ha;obtain⟨z2,j,us,z,c⟩:=qN I.hok hb;have r:us=[]:=by have:=z.length;simpa using this.symm
  subst r;show wpAny _ _ (richCompare .Eq (.ref a) (.ref b)) _ _ _;refine wpAny_richCompare_same_room (T:="dict") (id:="dict.__eq__") n.typeIs c.typeIs Pg ?_ ∅;refine dy Pg n.typeIs PySem.F.entry_dict_eq ?_ (PySem.F.args_dict_eq_2 _ _);have e:gL "__eq__" ⟨[.ref a, .ref b],[]⟩=pure (.ref a, .ref b):=by
    unfold gL
    rfl
  unfold j1.«dict.__eq__»;refine ae (m:=gL "__eq__" _) ?_;rw[e];refine aw ?_;refine ae (l3 (T:="dict") (U:="dict") (b:=true) c.typeIs (by rfl) ?_);refine ae (m:=mN (.ref a)) (aw ?_);refine ae (m:=mN (.ref b)) (aw ?_);obtain⟨oa,es,ep,t,xa,k,ka,i,na⟩:=n;obtain⟨ob,fs,eq,w,xb,db,kb,C,nb⟩:=c;have l:fs.size=0:=by have:=C.length;rw[dS] at this;simpa using this
  have o:es.size=ps.length:=by have:=i.length;rw[dS] at this;rw[this];exact B.length.symm
  have key:∀{d:Bool->au->Prop} {g:ar->au->Prop} {M:Model} {A':c5},d ps.isEmpty s->wpAny M A' (md "dict.__eq__" a b) d g s:=λ{d g M A'} hq=>by
    unfold md;refine ae (m:=eh a) ?_;rw[show eh a=pure () by unfold eh;rw[if_neg (by rw[hd1];decide)]];refine aw ?_;refine ae (m:=eh b) ?_;rw[show eh b=pure () by unfold eh;rw[if_neg (by rw[j];decide)]];refine aw ?_;refine ae (pk t k ?_);refine ae (pk w db ?_);rw[l,o];cases ps with
    | nil =>
      rw[if_neg ⋯];refine ae (wpAny_dictEpoch t k ?_);have O:∀(f:Nat->Option Bool×Unit->Sem (ForInStep (Option Bool×Unit))),forIn [:([]:List (Key×V)).length] ((none,()):Option Bool×Unit) f=pure (none,()):=λf=>by
        rw[show[:([]:List (Key×V)).length]=[:0] from rfl];simp
      rw[O];exact ae (aw (aw hq))
    | cons p ps =>
      rw[if_pos (by simp)];exact ae (m:=rule _) (gb (aw hq))
  refine ae (key ?_);refine aw ⟨_,rfl,by simp, .bl _,H,I,rfl,?_⟩;rw[show(ps.isEmpty==true)=ps.isEmpty by cases ps<;>rfl];exact q
def Ev.Jn{f:Bool}{ks:Ks}(e:ρ[i]?=some (.cE a f ks))(h:Φ true (.bool ks.isEmpty)):Ev G ρ (dP O1 (dD i) Io) Φ:=λnb σ H Q W z=>by
  obtain⟨x,e1,h1,h2,h3,ps,hp,hd⟩:=W.ok i _ e;subst h1;refine⟨.ref a,e1,?_⟩;intro p hpn;have b:a≠p:=λe=>by
    subst e;rw[hpn] at hp;cases hp
  have hlen:ps.length=ks.length:=by have:=congrArg gO (aB.keys hd);simpa using this
  refine⟨a,p,ps,rfl,rfl, .inl (by rw[br b];exact hp), .inl bB,?_⟩;have e:ps.isEmpty=ks.isEmpty:=by
    cases ps with
    | nil => cases ks with
      |nil=>rfl
      |cons=>simp at hlen
    | cons => cases ks with
      |nil=>simp at hlen
      |cons=>rfl
  rw[e];exact z true _ _ _ h (.same W.az (dw hpn)) (.bl _)
end L2
namespace K98
open PySem L2
local macro_rules
 |`(#[0,$a])=>`(@aa _ _ _ _ _ $a ai rfl)
 |`(#[1,$a,$b])=>do let hR:=kf `hr;`(@aI _ _ _ _ _ _ _ _ _ _ $a (($hR).mono (by decide)) $b (by rfl) (by decide) (by rfl) (by rfl))
 |`(#[2,$a])=>`(aJ (i:=0) $a rfl (cm rfl))
 |`(#[3,$a])=>`(@aF _ _ _ (@aR _ _ _ _ $a))
 |`(#[4,$a,$b])=>`(@aa _ _ _ _ _ $a (@aa _ _ _ _ _ $b ai rfl) rfl)
 |`(#[5,$a,$b,$c])=>`(@ay _ _ _ _ _ $a (@ay _ _ _ _ _ $b (@aF _ _ _ (@aR _ _ _ _ $c))))
 |`(#[6,$a,$b])=>`(@bS _ _ _ _ _ $a (@bS _ _ _ _ _ $b iz (by rfl)) (by rfl))
 |`(#[7,$a,$b])=>`(@aO _ _ (2) _ _ _ _ $a rfl (cm rfl) $b (by rfl) (by first|exact .inl rfl|exact .inr rfl|assumption))
 |`(#[8,$a,$b])=>do let hR:=kf `hr;`(@aI _ _ _ _ _ _ _ _ _ _ $a (($hR).mono (by decide)) (@aa _ _ _ _ _ (pv 0) $b rfl) (by rfl) (by decide) (by rfl) (by rfl))
 |`(#[9,$a])=>do let hR:=kf `hr;`(@aI _ _ _ _ _ _ _ _ _ _ $a (($hR).mono (by decide)) (@aa _ _ _ _ _ (pv 0) (@aa _ _ _ _ _ aj ai rfl) rfl) (by rfl) (by decide) (by rfl) (by rfl))
 |`(#[10,$a,$b])=>`(@eG _ _ _ _ _ _ _ _ $a (@aF _ _ _ (@aR _ _ _ _ $b)) eH)
 |`(#[11,$a,$b,$c])=>`(@aO _ _ $a _ _ _ _ $b rfl (cm rfl) $c (by rfl) (by first|exact .inl rfl|exact .inr rfl|assumption))
 |`(#[12,$a,$b])=>do let kK:=kf `K;`(@eN _ _ _ _ _ _ _ _ (iP $kK) jM rfl $a iN $b (by decide) (by decide) (by rfl) (by rfl))
 |`(#[13,$a,$b,$c])=>`(@ay _ _ _ _ _ $a (@ay _ _ _ _ _ $b (@aF _ _ _ (@aR _ _ _ _ (@eO _ _ _ _ _ $c)))))
 |`(#[14,$a])=>do let hR:=kf `hr;`(@aI _ _ _ _ _ _ _ _ _ _ $a (($hR).mono (by decide)) (@aa _ _ _ _ _ (pv 0) ai rfl) (by rfl) (by decide) (by rfl) (by rfl))
 |`(#[15,$a,$b])=>`(@aO _ _ (3) _ _ _ _ $a rfl (cm rfl) $b (by rfl) (by first|exact .inl rfl|exact .inr rfl|assumption))
 |`(#[16,$a,$b])=>`(@aO _ _ (4) _ _ _ _ $a rfl (cm rfl) $b (by rfl) (by first|exact .inl rfl|exact .inr rfl|assumption))
 |`(#[17,$a,$b])=>`(@aO _ _ (1) _ _ _ _ $a rfl (cm rfl) $b (by rfl) (by first|exact .inl rfl|exact .inr rfl|assumption))
 |`(#[18,$a])=>`(@gG _ _ _ _ _ _ _ _ (ji) kL rfl $a j5 (@aa _ _ _ _ _ (pv 0) ai rfl) (by decide) (by decide) (by rfl) (by rfl))
noncomputable def top(i:Nat):fb:=PySem.Challenge.pw_fewchecks_k98_whole_answers.main.body.getD i (.Pass ⟨0,0,0,0⟩)
noncomputable abbrev DZ:fb:=top 6
noncomputable abbrev Dr:fb:=top 7
noncomputable abbrev Gm:fb:=top 8
noncomputable abbrev CJ:fb:=top 12
noncomputable abbrev JW:fb:=top 13
noncomputable abbrev Jz:fb:=top 14
noncomputable abbrev xQ:fb:=top 15
noncomputable abbrev Jr:fb:=top 16
noncomputable abbrev yh:fb:=top 17
noncomputable abbrev Ky:fb:=top 19
noncomputable abbrev yM:fb:=top 20
noncomputable abbrev xM:fb:=top 21
noncomputable abbrev AY:fb:=top 22
noncomputable abbrev Hh:fb:=top 24
noncomputable abbrev Iz:fb:=top 28
noncomputable abbrev BD:fb:=top 29
noncomputable abbrev Be:fb:=top 30
noncomputable abbrev Ca:fb:=top 31
noncomputable abbrev xP:fb:=top 32
noncomputable abbrev ya:fb:=top 33
noncomputable abbrev xq:fb:=top 34
noncomputable abbrev DB:fb:=top 35
noncomputable abbrev DC:fb:=top 36
noncomputable abbrev yJ:fb:=top 37
noncomputable abbrev ET:fb:=top 39
noncomputable abbrev BA:fb:=top 40
noncomputable abbrev Bm:fb:=top 41
noncomputable abbrev Iw:fb:=top 44
noncomputable abbrev vp:fb:=top 45
noncomputable abbrev yj:fb:=top 46
noncomputable abbrev yy:fb:=top 48
noncomputable abbrev Ja:fb:=top 49
noncomputable abbrev EV:fb:=top 50
noncomputable abbrev xG:fb:=top 51
noncomputable abbrev CZ:fb:=top 52
noncomputable abbrev DT:fb:=top 53
noncomputable abbrev yv:fb:=top 54
noncomputable abbrev vV:fb:=top 55
noncomputable abbrev vE:fb:=top 56
noncomputable abbrev wH:fb:=top 57
noncomputable abbrev Aw:fb:=top 58
noncomputable abbrev Aj:fb:=top 59
noncomputable abbrev zV:fb:=top 60
noncomputable abbrev An:fb:=top 61
noncomputable abbrev zW:fb:=top 62
noncomputable abbrev yO:fb:=top 63
noncomputable abbrev Bq:fb:=top 64
noncomputable abbrev wm:fb:=top 65
noncomputable abbrev vh:fb:=top 66
noncomputable abbrev nM:fb:=top 67
noncomputable abbrev qU:fb:=inClass (top 23) 0
noncomputable abbrev sJ:fb:=inClass (top 23) 1
noncomputable abbrev sS:fb:=inClass (top 23) 2
noncomputable abbrev rK:fb:=inClass (top 23) 5
abbrev SG:Prop:=∀{l:PySem.W.OpenLaw} {w:dc} {K:PySem.W.Frag} {h:e6} {mg:Str->Option ar} {fa:ax} {f0 f1 f2 f3 f4 f5 f6 f7 f8 f9 RT QA MS KI Q9 P0 MJ TR M4 OX Ma NU N6 Ow L1 Lp Nu LB Og RX Qi KG f32 Q3 TU MU NP KJ R3 Oc Lj Mi Ri Ll Rc ME M1 Q4 PF AR tF tM sI sU:ax} (X:K.In h) (G:h.Ns cc mg) (OR:mg "law"=some (.ref fa))
  {QX Fz:Option ax} {OT:Array (Option ar)} {OW Kg Eh DI Am GD:ar} {Qs RO:Option ax} {SN:Array (Option ar)} {Q7 L3 MT Mx Jl Pe:ar} {KP MW:Option ax} {P1:Array (Option ar)} {O0 La LU Ny ED QN:ar} {Of Qx:Option ax} {Od:Array (Option ar)} {LY M9 LZ Lc Ia S1:ar} {RM NT:Option ax} {PN:Array (Option ar)} {NF Nt Qn Lz JG KQ:ar}
  {bE:ax} (zm:PySem.W.nsIn K cc "Mender"=some (some (.ref bE))) (ym:PySem.W.plainGet K bE Fh=true) (CL:PySem.W.hasDictIn K bE=true) (yG:PySem.W.plainOver K bE=true) (zK:PySem.W.findIn K (.ref bE) "__setattr__"=some (some (.builtin "object.__setattr__"))) (zT:PySem.W.makesIn K bE=true) (Bf:PySem.W.keepIn K (.ref bE)=true)
  (nU:PySem.W.findIn K (.ref bE) "net"=some none)
  (kD:PySem.W.findIn K (.ref bE) "letters"=some none)
  (d0:aG K "over" "over" DZ f0)
  (d1:aG K "inverse" "inverse" Dr f1)
  (d2:aG K "total" "total" Gm f2)
  (d3:aG K "formed" "formed" CJ f3)
  (d4:aG K "is_check" "is_check" JW f4)
  (d5:aG K "is_letter" "is_letter" Jz f5)
  (d6:aG K "sums" "sums" xQ f6)
  (d7:aG K "sum_of" "sum_of" Jr f7)
  (d8:aG K "lost_of" "lost_of" yh f8)
  (d9:aG K "told_by" "told_by" Ky f9)
  (Cc:aG K "told_for" "told_for" yM RT)
  (B5:aG K "round_of" "round_of" xM QA)
  (xx:aG K "copied" "copied" AY MS)
  (yD:aG K "mended" "mended" Hh KI)
  (BQ:aG K "row_of" "row_of" Iz Q9)
  (BB:aG K "word_row" "word_row" BD P0)
  (CO:aG K "read_net" "read_net" Be MJ)
  (yF:aG K "read_check" "read_check" Ca TR)
  (Bc:aG K "read_pair" "read_pair" xP M4)
  (zO:aG K "read_word" "read_word" ya OX)
  (zl:aG K "numbers_of" "numbers_of" xq Ma)
  (zh:aG K "parts_of" "parts_of" DB NU)
  (w9:aG K "read_number" "read_number" DC N6)
  (Bx:aG K "read_whole" "read_whole" yJ Ow)
  (Cf:aG K "paper_from" "paper_from" ET L1)
  (zp:aG K "paper_text" "paper_text" BA Lp)
  (xw:aG K "numbers_row" "numbers_row" Bm Nu)
  (CC:aG K "answer" "answer" Iw LB)
  (Cv:aG K "is_fit" "is_fit" vp Og)
  (AO:aG K "end_row" "end_row" yj RX)
  (BX:aG K "_law_bag" "_law_bag" yy Qi)
  (ze:aG K "_law_stirred" "_law_stirred" Ja KG)
  (AQ:aG K "_law_draw" "_law_draw" EV f32)
  (AX:aG K "_law_prime_from" "_law_prime_from" xG Q3)
  (B9:aG K "_law_prime" "_law_prime" CZ TU)
  (BH:aG K "_law_over" "_law_over" DT MU)
  (zY:aG K "_law_sum" "_law_sum" yv NP)
  (zI:aG K "_law_letters" "_law_letters" vV KJ)
  (xD:aG K "_law_planted_check" "_law_planted_check" vE R3)
  (yf:aG K "_law_planted" "_law_planted" wH Oc)
  (AL:aG K "_law_lossy" "_law_lossy" Aw Lj)
  (AF:aG K "_law_told" "_law_told" Aj Mi)
  (CN:aG K "_law_rounds" "_law_rounds" zV Ri)
  (xr:aG K "_law_chain" "_law_chain" An Ll)
  (zG:aG K "_law_case" "_law_case" zW Rc)
  (B6:aG K "_law_texts" "_law_texts" yO ME)
  (Ax:aG K "_law_word_text" "_law_word_text" Bq M1)
  (CG:aG K "_law_end" "_law_end" wm Q4)
  (xY:aG K "_law_due" "_law_due" vh PF)
  (Bw:PySem.W.nsIn K cc "law"=some (some (.ref AR))) (xH:K.lookup AR=some ⟨OW,QX, .func (PySem.W.fnOf "law" "law" (lT nM) (k7 nM) (aE nM) .none Kg Eh DI Fz Am GD),OT⟩) (Ae:PySem.W.codeIn K Am "law"=true) (BE:PySem.W.keepIn K (.ref AR)=true)
  (CA:PySem.W.findIn K (.ref bE) "__init__"=some (some (.ref tF))) (yk:PySem.W.isFn K (.ref tF)=true) (AM:K.lookup tF=some ⟨Q7,Qs, .func (PySem.W.fnOf "__init__" "Mender.__init__" (lT qU) (k7 qU) (aE qU) .none L3 MT Mx RO Jl Pe),SN⟩) (wW:PySem.W.codeIn K Jl "Mender.__init__"=true) (xN:PySem.W.keepIn K (.ref tF)=true)
  (Ai:PySem.W.findIn K (.ref bE) "step"=some (some (.ref tM))) (zc:PySem.W.isFn K (.ref tM)=true) (Cm:K.lookup tM=some ⟨O0,KP, .func (PySem.W.fnOf "step" "Mender.step" (lT sJ) (k7 sJ) (aE sJ) .none La LU Ny MW ED QN),P1⟩) (xJ:PySem.W.codeIn K ED "Mender.step"=true) (uP:PySem.W.keepIn K (.ref tM)=true)
  (yq:PySem.W.findIn K (.ref bE) "mend"=some (some (.ref sI))) (yN:PySem.W.isFn K (.ref sI)=true) (yL:K.lookup sI=some ⟨LY,Of, .func (PySem.W.fnOf "mend" "Mender.mend" (lT sS) (k7 sS) (aE sS) .none M9 LZ Lc Qx Ia S1),Od⟩) (zq:PySem.W.codeIn K Ia "Mender.mend"=true) (wD:PySem.W.keepIn K (.ref sI)=true)
  (As:PySem.W.findIn K (.ref bE) "word"=some (some (.ref sU))) (w5:PySem.W.isFn K (.ref sU)=true) (zP:K.lookup sU=some ⟨NF,RM, .func (PySem.W.fnOf "word" "Mender.word" (lT rK) (k7 rK) (aE rK) .none Nt Qn Lz NT JG KQ),PN⟩) (wR:PySem.W.codeIn K JG "Mender.word"=true) (uH:PySem.W.keepIn K (.ref sU)=true)
  (By:PySem.W.nsIn K cc "abs"=some none)
  (zk:PySem.W.nsIn K cc "all"=some none)
  (B0:PySem.W.nsIn K cc "enumerate"=some none)
  (AN:PySem.W.nsIn K cc "int"=some none)
  (Cr:PySem.W.nsIn K cc "isinstance"=some none)
  (xK:PySem.W.nsIn K cc "len"=some none)
  (Bu:PySem.W.nsIn K cc "list"=some none)
  (A7:PySem.W.nsIn K cc "max"=some none)
  (xg:PySem.W.nsIn K cc "min"=some none)
  (zR:PySem.W.nsIn K cc "range"=some none)
  (BS:PySem.W.nsIn K cc "set"=some none)
  (xo:PySem.W.nsIn K cc "sorted"=some none)
  (CK:PySem.W.nsIn K cc "str"=some none)
  (Bs:PySem.W.nsIn K cc "sum"=some none)
  {AI:Tok} (BN:PySem.W.nsIn K cc "MOST_PLACES"=some (some (.int 400 AI)))
  {xO:Tok} (Cb:PySem.W.nsIn K cc "MOST_CHECKS"=some (some (.int 400 xO)))
  {xT:Tok} (Cs:PySem.W.nsIn K cc "MOST_FIGURES"=some (some (.int 60 xT)))
  {zf:Tok} (xV:PySem.W.nsIn K cc "FIGURES"=some (some (.str "0123456789" zf)))
  {AZ:Tok} (Ay:PySem.W.nsIn K cc "MOST_PAIRS"=some (some (.int 2000 AZ))),
  ∃fd:gN,(∀(s:au) (v:ar),rT s fd ⟨[v],[]⟩ [("script",v)])/\∀base:e6,K.In base->base.Ns cc mg->aU l.prog w K mg base bf 10 fa fd ["script"] (yX K)
def walk{l:PySem.W.OpenLaw}{q:cj}{c:List Str}{A:dc->e6->Prop}{d:DefRec}{K:Params->PySem.W.Frag}(hn:l.most=some 63)(t:d.params.defaults=[])
  (S:∀(w:dc) (h:e6),A w h->(K w.params).In h)
  (F : ∀ (w : World) (mg : Str -> Option Value) (i : Addr) (h : Heap), (K w.params).In h -> h.Ns mainGlobals mg -> mg d.name = some (.ref i) ->
   ∃fd:gN,(∀(s:au) (u:ar),rT s fd ⟨[u],[]⟩ [("script",u)])/\∀base:e6,(K w.params).In base->base.Ns cc mg->aU l.prog w (K w.params) mg base bf 10 i fd ["script"] (yX (K w.params))):
  PySem.W.WalkO q c B A l.row.toRowW d [] (λf vs=>PySem.call f vs):=
 L2.SU (n:=63) (k:=10) (x:="script") (CX:=λ_=>bf) (sp:=λw=>yX (K w.params)) hn ⋯ t ⟨rfl,⋯,⋯⟩ S F (λ_ _ a ns hl _ M=>⟨a,ns,rfl,M,hl,λ_=>rfl⟩) λ_ _ _ _ _ z=>z
local macro_rules| `(tactic|walk_at "d0")=> `(tactic|first|omega (config := {})|assumption|decide|(unfold Sm at*;omega (config := {}))|(unfold zv;omega (config := {}))|(unfold Hy;decide)|(unfold Hy;omega (config := {})))
local macro_rules| `(tactic|walk_at "ds")=> `(tactic|((try dsimp only);first|walk_at "d0" |(refine FD ?_ ?_<;>walk_at "d0")|(refine cm ?_;walk_at "d0")|(refine fx (FD ?_ ?_)<;>walk_at "d0")))
local macro_rules| `(tactic|walk_at "s1")=> `(tactic|with_reducible first
 |refine R.seq ?_|refine R.asg ?_|refine R.pC ?_|refine R.ret ?_|refine R.next ?_|refine R.c ?_|refine R.op ?_|refine R.test ?_|refine R.bl ?_|refine R.tru ?_
 |refine R.and ?_|refine R.notV ?_|refine R.cb ?_|refine R.call ?_|refine R.nil ?_|refine R.cons ?_
 |refine R.lst ?_|refine R.sl ?_|refine R.afs ?_|refine R.part ?_|refine R.Kx ?_|refine R.ZL ?_|refine R.OQ ?_|refine R.ag1 ?_|refine R.L9 ?_|refine R.ahf ?_|refine R.oG ?_
 |refine R.jz ?_|refine R.Pl ?_|refine R.Xn ?_|refine R.eqNI ?_|refine R.eqIN ?_|refine R.isI ?_|refine R.Rv ?_|refine R.Mf ?_|refine R.bits ?_
 |refine Af ?_|refine Qg ?_|refine R.nilE ?_|refine R.isiII ?_|refine R.isiIB ?_|refine R.ZS ?_|refine R.Qk ?_|refine R.iL ?_|refine R.TC ?_|refine R.comp ?_)
local macro_rules| `(tactic|walk_at "st")=> `(tactic|repeat (first
 |walk_at "s1"
 |((with_reducible refine' R.var ?h0 ?_);(case h0=>rfl))
 |((with_reducible refine' R.rI ?h1 ?_);(case h1=>walk_at "ds"))
 |((with_reducible refine' R.Pw (o:= .lst []) ?h1 ?_);(case h1=>rfl))
 |((with_reducible refine' R.yi ?h0 ?h1 ?_);(case h0=>assumption);(case h1=>rfl))
 |((with_reducible refine' R.ixTM ?h0 ?h1 ?_);(case h0=>assumption);(case h1=>rfl))
 |((with_reducible refine' R.WI ?h1 ?_);(case h1=>rfl))
 |((with_reducible refine' R.setM ?h0 ?h1 ?_);(case h0=>assumption);(case h1=>rfl))
 |((with_reducible refine' R.U3 ?h0 ?_);(case h0=>assumption))
 |((with_reducible refine' R.lenL ?h0 ?_);(case h0=>assumption))
 |((with_reducible refine' R.Vg ?h0 ?h1 ?_);(case h0=>walk_at "ds");(case h1=>walk_at "ds"))
 |((with_reducible refine' R.Ws ?h0 ?_);(case h0=>walk_at "ds"))
 |((with_reducible refine' R.xX ?h0 ?_);(case h0=>assumption))
 |((with_reducible refine' R.gn ?h0 ?_);(case h0=>first|exact R.dT (by omega (config := {}))|exact R.KS (by omega (config := {}))|decide))
 |((with_reducible refine' R.KU ?h0 ?_);(case h0=>first|exact R.dF (by omega (config := {}))|exact R.Rz (by omega (config := {}))|decide))
 |(with_reducible refine R.TK ?_)|(with_reducible refine R.UA ?_)))
local macro_rules| `(tactic|walk_at "mo")=> `(tactic|repeat (first|refine Exists.imp fun _=>?_|refine And.imp_right ?_))
local macro_rules| `(tactic|walk_at "fv")=> `(tactic|first|exact cm rfl|exact fx (cm rfl)|exact fx (fx (cm rfl))|exact fx (fx (fx (cm rfl)))|exact fx (fx (fx (fx rfl))))
local macro_rules| `(tactic|walk_at "d1")=> `(tactic|with_reducible first
 |refine Sv.seq ?_|refine Sv.wK ?_|refine Sv.asg ?_|refine Sv.agZ ?_|refine Sv.pC ?_|refine Sv.ret ?_|refine Sv.next ?_|refine Sv.retN ?_
 |refine Ev.int ?_|refine Ev.bl ?_|refine Ev.aL ?_|refine Ev.jz ?_|refine Ev.J8 ?_|refine Ev.rI ?_|refine Ev.rU ?_|refine Ev.eq ?_|refine Ev.ne ?_|refine Ev.is ?_|refine Ev.W6 ?_|refine Ev.ZZ ?_|refine Ev.str ?_|refine Ev.ad6 ?_
 |refine Ev.QH ?_|refine Ev.orV ?_|refine Ev.notV ?_|refine Ev.ve ?_|refine Tv.test ?_|refine Tv.and ?_|refine Tv.or ?_|refine Tv.not ?_|refine Tv.oG ?_|refine Tv.z4 ?_
 |refine Ev.T6 ?_|refine Ev.lst ?_|refine Av.nil ?_|refine Av.cons ?_|refine Av.Xe ?_|refine Ov.none ?_|refine Ov.some ?_|refine Ev.min2 ?_|refine Ev.max2 ?_|refine Ev.YC ?_
 |refine R.di ?_|refine R.db ?_|refine R.dl ?_|refine R.dt ?_|refine R.NA ?_|refine R.dlt ?_|refine R.afv ?_|refine R.eqni ?_|refine R.eqin ?_|refine R.eqnn ?_|refine R.eqbb ?_
 |refine Gv.rR ?_|refine Gv.Zi ?_|refine Gv.abz ?_|refine Gv.Zp ?_|refine Gv.pD ?_|refine Gv.We ?_|refine Gv.ac0 ?_|refine Af ?_|refine Qg ?_)
local macro_rules| `(tactic|walk_at "dt")=> `(tactic|repeat (first
 |((with_reducible refine' Sv.retOwn ?h0 ?_);(case h0=>rfl))
 |((with_reducible refine' Sv.LJ ?h0 ?_);(case h0=>rfl))
 |walk_at "d1"
 |((with_reducible refine' Ev.var ?h0 ?_);(case h0=>rfl))
 |((with_reducible refine' Ev.draw ?h0 ?_);(case h0=>rfl))
 |((with_reducible refine' Ev.Lm ?h0 ?_);(case h0=>rfl))
 |((with_reducible refine' Ev.lenOwn ?h0 ?_);(case h0=>rfl))
 |((with_reducible refine' Ev.listOwn ?h0 ?_);(case h0=>rfl))
 |((with_reducible refine' Ev.slOwn ?h0 ?_);(case h0=>rfl))
 |((with_reducible refine' Sv.append ?h0 ?_);(case h0=>rfl))
 |((with_reducible refine' Sv.LJ ?h0 ?_);(case h0=>rfl))
 |((with_reducible refine' Sv.retOwn ?h0 ?_);(case h0=>rfl))
 |((with_reducible refine' Gv.tup ?h0 ?_);(case h0=>rfl))
 |((with_reducible refine' R.at_ ?h0 ?_);(case h0=>first|rfl|assumption))
 |(with_reducible refine Ev.Lr ?_)|(with_reducible refine Ev.p8 ?_)|(with_reducible refine Ev.listOf ?_)|(with_reducible refine Ev.sl ?_)|(with_reducible refine Ev.cat ?_)|(with_reducible refine Ev.Ol ?_)
 |((with_reducible refine' Ev.WO ?h0 ?_);(case h0=>walk_at "fv"))
 |((with_reducible refine' Ev.isi2 ?h0 ?h1 ?_);(case h0=>walk_at "fv");(case h1=>walk_at "fv"))
 |(with_reducible refine Ev.all ?_)|(with_reducible refine Ev.sum ?_)
 |((with_reducible refine' R.acd ?_))
 |((with_reducible refine' R.gn ?h0 ?_);(case h0=>first|exact R.dT (by omega (config := {}))|exact R.KS (by omega (config := {}))|rfl))
 |((with_reducible refine' R.KU ?h0 ?_);(case h0=>first|exact R.dF (by omega (config := {}))|exact R.Rz (by omega (config := {}))|exact cC))
 |((with_reducible refine' R.Hq ?h0 ?_);(case h0=>first|walk_at "ds" |exact DA rfl))))
local macro_rules| `(tactic|walk_at "wk")=> `(tactic|repeat (first|exact Wk.nil|apply Wk.no|apply Wk.eq))
section
variable{P:cj}{w:dc}{K:PySem.W.Frag}{mg:Str->Option ar}{base:e6}{f:ax}{fd:gN}
def kP:bz ["p","b","last_rest","last_times","rest","times","quotient","next_rest","next_times"] ["p","b"] (aE Dr):=⟨rfl,rfl,rfl,by decide+kernel,rfl,by decide+kernel,by decide+kernel⟩
theorem ad2(F:bq K "inverse" "inverse" Dr f fd):
  aU P w K mg base bf 1 f fd ["p","b"] K5:=by
 refine F.ok kP (λvs H Q E h=>?_) (λcdv A outer s H vs Q E hr h=>?_)
 .obtain⟨p,b,rfl,hp,g,hb,q⟩:=h
  rfl
 obtain⟨p,b,rfl,hp,g,hb,q⟩:=h;refine⟨_,(@ay _ _ _ _ _ #[7,kP.nd,pv 0] (@ay _ _ _ _ _ (@aO _ _ (3) _ _ _ _ kP.nd rfl (cm rfl) aj (by rfl) (by first|exact .inl rfl|exact .inr rfl|assumption)) (@ay _ _ _ _ _ #[16,kP.nd,@aC _ _ _ _ _ _ _ _ jq (pv 1) (pv 0)] #[5,@aO _ _ (5) _ _ _ _ kP.nd rfl (cm rfl) aj (by rfl) (by first|exact .inl rfl|exact .inr rfl|assumption),@Ji _ _ _ _ _ _ iw (@aX _ _ _ _ _ _ _ _ j9 (pv 4) aj (aV _)) (@ay _ _ _ _ _ #[11,(6),kP.nd,@aC _ _ _ _ _ _ _ _ uX (pv 2) (pv 4)] (@ay _ _ _ _ _ (@aO _ _ (7) _ _ _ _ kP.nd rfl (cm rfl) (@aC _ _ _ _ _ _ _ _ jl (pv 2) (@aC _ _ _ _ _ _ _ _ jg (pv 6) (pv 4))) (by rfl) (by first|exact .inl rfl|exact .inr rfl|assumption)) (@ay _ _ _ _ _ #[11,(8),kP.nd,@aC _ _ _ _ _ _ _ _ jl (pv 3) (@aC _ _ _ _ _ _ _ _ jg (pv 6) (pv 5))] (@ay _ _ _ _ _ #[7,kP.nd,pv 4] (@ay _ _ _ _ _ #[15,kP.nd,pv 5] (@ay _ _ _ _ _ #[16,kP.nd,pv 7] (@aF _ _ _ (@aO _ _ (5) _ _ _ _ kP.nd rfl (cm rfl) (pv 8) (by rfl) (by first|exact .inl rfl|exact .inr rfl|assumption))))))))),@aC _ _ _ _ _ _ _ _ jq (pv 3) (pv 0)]))),?_⟩;have hp2:=hp.1;walk_at "st";refine Xt (λσ H1=>H1=H/\∃(L lt r t:Int) (o B l:Option V),σ=[some (.int p),some (.int b),some (.int L),some (.int lt),some (.int r),some (.int t),o,B,l]/\Eu p b L lt r t) (λ(σ:qr) (_:Hp)=>match σ[4]? with|some (some (V.int r))=>r.toNat|_=>0) ⟨rfl,_,_,_,_,_,_,_,rfl,Eu.start hp2⟩ ?_ ?_
 .rintro σ H1 ⟨rfl,L,lt,r,t,o,B,l,rfl,E⟩;obtain⟨C,y⟩:=E.tb;have e1:=E.l0;have e2:=E.r0;have e3:=E.lp;have e4:=E.rp;walk_at "st";refine sZ (λc=>?_) (λc=>?_)
  .have c:r≠0:=of_decide_eq_true c;have hr:0<r:=∅
   have J:0<=L/r:=zF ∅ ∅;have q2:L/r<=L:=Hw _ ∅;obtain⟨j,m⟩:=E.next hr
   walk_at "st";refine⟨⟨rfl,_,_,_,_,_,_,_,rfl,j⟩,?_⟩;show(L-L/r*r).toNat<r.toNat;omega
  .have c:r=0:=by simpa using c
   subst c;walk_at "st";exact q _ (i7 _ ∅) (iY _ ∅) (E.fin hp hb)
 .exact λσ H Q d h ⟨v,e,s,k,D,z⟩=>⟨v,e,s,k,D,h _ _ z⟩
def WN:bz ["p","a","b"] ["p","a","b"] (aE DZ):=⟨rfl,rfl,rfl,by decide+kernel,rfl,by decide+kernel,by decide+kernel⟩
theorem afW(F:bq K "over" "over" DZ f fd)(c:Callee P w K mg base "inverse" 1 ["p","b"] K5):
  aU P w K mg base bf 2 f fd ["p","a","b"] FY:=by
 refine F.ok WN (λvs H Q E h=>?_) (λcdv A outer s H vs Q E hr h=>?_)
 .obtain⟨p,a,b,rfl,hp,g,hb,a1,a2,q⟩:=h
  rfl
 obtain⟨p,a,b,rfl,hp,g,hb,a1,a2,q⟩:=h;refine⟨_,#[3,@aC _ _ _ _ _ _ _ _ jq (@aC _ _ _ _ _ _ _ _ jg (pv 1) #[1,c,@aa _ _ _ _ _ (pv 0) (@aa _ _ _ _ _ (pv 2) ai rfl) rfl]) (pv 0)],?_⟩;have hp2:=hp.1;walk_at "st";refine⟨p,b,rfl,hp,g,hb,λu u1 u2 ⟨k,hk⟩=>?_⟩;walk_at "st";refine q _ (i7 _ ∅) (iY _ ∅) ⟨a*k-a*u/p*b,?_⟩;have e:=mD (a*u) p;have e2:a*u%p=a*u-p*(a*u/p):=∅
 have e3:b*(a*u)=a*(u*b):=by rw[mJ b,ki]
 rw[e2,m8,e3,hk,Co,Cp,m8,<-ki a p k,mJ a p,ki p a k,mJ b (p*_),ki p];omega
def vQ:bz ["p","pairs","word","reached","place","factor"] ["p","pairs","word"] (aE Gm):=⟨rfl,rfl,rfl,by decide+kernel,rfl,by decide+kernel,by decide+kernel⟩
theorem acM(F:bq K "total" "total" Gm f fd):
    aU P w K mg base bf 1 f fd ["p","pairs","word"] Bj:=by
  refine F.ok vQ (λvs H Q E h=>?_) (λcdv A outer s H vs Q E hr h=>?_)
  · obtain⟨nb,p,d,b,prs,wd,rfl,hA,hC,hp,h1,h2,q⟩:=h
    rfl
  obtain⟨nb,p,d,b,prs,wd,rfl,hA,hC,hp,h1,h2,q⟩:=h;refine⟨_,#[5,@aO _ _ (3) _ _ _ _ vQ.nd rfl (cm rfl) aj (by rfl) (by first|exact .inl rfl|exact .inr rfl|assumption),@iZ _ _ _ _ _ _ _ _ iw rfl (dh (K:=K) rfl (pv 1)) (NV rfl #[6,aJ (i:=4) vQ.nd rfl (cm rfl),aJ (i:=5) vQ.nd rfl (cm rfl)]) (@aF _ _ _ (@eG _ _ _ _ _ _ _ _ (@aX _ _ _ _ _ _ _ _ qA (@aD _ _ _ _ _ _ _ bF (pv 2) (pv 4) (λ_ _=>rfl)) gc (aV _)) (@aF _ _ _ #[15,vQ.nd,@aC _ _ _ _ _ _ _ _ jq (@aC _ _ _ _ _ _ _ _ ff (pv 3) (@aC _ _ _ _ _ _ _ _ jg (pv 5) (@aD _ _ _ _ _ _ _ bF (pv 2) (pv 4) (λ_ _=>rfl)))) (pv 0)]) eH)) (by intro _;rfl),pv 3],?_⟩;obtain⟨a,xs,rfl,na,ha,k⟩:=hA.dZ;obtain⟨c,ws,rfl,nc,hc,j⟩:=hC.dZ;have n9:=k.length;rw[ak] at n9;have ew:=IJ j;subst ew;walk_at "st";refine R.xX (bw.of ha) ?_;refine Pq (xs:=xs) (λi σ H1=>H1=H/\∃(r:Int) (x y:Option V),σ=[some (.int p),some (.ref a),some (.ref c),some (.int r),x,y]/\r=aT (prs.take i) wd%p) ⟨rfl,0,none,none,rfl,by simp[aT]⟩ ?_ ?_ ?_
  · rintro i σ H1 hi ⟨rfl,_⟩
    exact bw.of ha
  · rintro i x σ H1 hx ⟨rfl,r,y,z,rfl,hr⟩
    have hi:i<prs.length:=by have:=(bV.mp hx).1;omega
    obtain⟨J,M,dx⟩:=k.get (i:=i) (by rw[cS,aS hi];rfl);rw[hx] at M;cases M
    obtain⟨t,rfl,nt,ht⟩:=U4 dx;obtain⟨g1,g2,N⟩:=h1 _ (fU hi);have hk:prs[i].fst.toNat<wd.length:=∅
    have S:bU (wd.map kI) prs[i].fst=some (kI wd[prs[i].fst.toNat]):=j6 g1 (by rw[cS,aS hk];rfl);have g:iS wd prs[i]=match wd[prs[i].fst.toNat] with|some x=>prs[i].snd*x|none=>0:=by
      unfold iS;rw[aS hk];cases wd[prs[i].fst.toNat]<;>rfl
    have hs2:∀x,wd[prs[i].fst.toNat]=some x->Sm x:=λx e=>h2 x (by rw[<-e];exact fU hk);have hd:=Na (wd:=wd) hi;refine R.VJ (fE.of ht) rfl ?_;walk_at "st";refine R.yi hc S ?_;walk_at "st";generalize wd[prs[i].fst.toNat]=o at S g hs2⊢;cases o with
    | none =>
      refine R.Mf ?_;walk_at "st";refine⟨rfl,_,_,_,rfl,?_⟩;rw[hd,g,hr,xI]
    | some x =>
      have hsx:=hs2 x rfl;refine R.Rv ?_;walk_at "st";refine R.yi hc S ?_;refine R.rI (fx ⟨N,hsx⟩) ?_;walk_at "st";refine⟨rfl,_,_,_,rfl,?_⟩;rw[hd,g,hr,pq]
  · rintro σ H1 ⟨rfl,r,x,y,rfl,hr⟩
    walk_at "st";rw[n9,dQ] at hr;rw[hr];exact q
def IP:DF:=λds Φ=>∃(p n:Int) (prs:ao),ds=[.int p, .int n,dW prs]/\∀b:Bool,(b=true↔AK p n prs)->Φ true (.bool b)
def Po:bW IP:=by
 intro ds Φ Ψ hm z;revert hm;walk_at "mo";exact λq=>λb h=>z _ _ (q b h)
def u7:bz ["p","n","pairs","last","place","factor"] ["p","n","pairs"] (aE JW):=⟨rfl,rfl,rfl,by decide+kernel,rfl,by decide+kernel,by decide+kernel⟩
theorem He(F:bq K "is_check" "is_check" JW f fd)(bZ:mg "len"=none):
  aU P w K mg base bf 1 f fd ["p","n","pairs"] (aM 3 IP):=by
 refine F.ok u7 (λvs H Q E h=>h.1) (λcdv A outer s H vs Q E hr h=>?_);obtain⟨nb,ds,Φ,g,u,D,I⟩:=dM h;obtain⟨p,n,prs,rfl,q⟩:=I;refine⟨_,#[5,#[15,u7.nd,@qd _ _ _ _ _ _ pZ aj],@iZ _ _ _ _ _ _ _ _ iw rfl (dh (K:=K) rfl (pv 2)) (@iG _ (K) _ _ _ (2) _ rfl rfl #[6,aJ (i:=4) u7.nd rfl (cm rfl),aJ (i:=5) u7.nd rfl (cm rfl)] (by rfl) (by rfl)) (@ay _ _ _ _ _ (@eG _ _ _ _ _ _ _ _ (PW.pt (mL (@aX _ _ _ _ _ _ _ _ Fc (pv 4) (pv 3) (aV _)) (mL (@aX _ _ _ _ _ _ _ _ Ek (pv 4) (pv 1) (aV _)) (mL (@aX _ _ _ _ _ _ _ _ nI (pv 5) aj (aV _)) (uB (@aX _ _ _ _ _ _ _ _ Ek (pv 5) (pv 0) (aV _))))))) (@aF _ _ _ (@aR _ _ _ _ pW)) eH) (@aF _ _ _ #[15,u7.nd,pv 4])) (by intro _;rfl),@oZ _ _ _ _ _ _ _ _ rq (@eN _ _ _ _ _ _ _ _ (iP K) jM rfl bZ iN (@aa _ _ _ _ _ (pv 2) ai rfl) ⋯ ⋯ (by rfl) (by rfl)) aj (aV _)],?_⟩;refine Sv.dH g u D (ρ:=[.d false _, .d false _, .d false _, .no, .no, .no]) rfl ?_;clear D u;rfl';refine Sv.forL ?_;rfl';intro v;refine⟨λi ρ=>∃(last:Int) (x4 R:Sl),ρ=[.d false (.int p), .d false (.int n), .d false (dW prs), .d true (.int last),x4,R]/\(-1<=last)/\((prs.take i).Pairwise λa b=>a.1<b.1)/\(∀pr∈prs.take i,pr.1<=last/\0<=pr.1/\pr.1<n/\1<=pr.2/\pr.2<p)/\(last= -1\/∃pr∈prs.take i,pr.1=last),⟨-1,_,_,rfl,∅,by simp,by simp, .inl rfl⟩,?_,?_⟩
 .rintro i d ρ hd ⟨last,x4,R,rfl,h1,h2,h3,h4⟩;obtain⟨pr,c8,rfl⟩:=cK hd;have es:=FX c8;have hm:pr∈prs:=bP c8
  have no:∀hb:¬(last<pr.1/\pr.1<n/\1<=pr.2/\pr.2<p),Φ true (.bool false):=λhb=>q false (by
   refine⟨λz=>(by cases z),λ⟨_,z1,z2⟩=>?_⟩;exfalso;apply hb;have:=z2 pr hm;refine⟨?_,this.2.1,this.2.2.1,this.2.2.2⟩;rcases h4 with h4|⟨Hx,h5,h6⟩
   .omega
   .have c:(prs.take (i+1)).Pairwise λa b=>a.1<b.1:=z1.sublist (ot _ _);rw[es] at c;have:=(QC.mp c).2.2 Hx h5 pr (aY.mpr rfl);omega)
  rfl';by_cases c1:pr.1<=last
  .rfl';exact no ∅
  rfl';by_cases c2:n<=pr.1
  .rfl';exact no ∅
  rfl';by_cases L:pr.2<1
  .rfl';exact no ∅
  rfl';by_cases o:p<=pr.2
  .rfl';exact no ∅
  rfl';refine⟨_,_,_,rfl,∅,?_,?_, .inr ⟨pr,by rw[es];simp,rfl⟩⟩
  .rw[es];refine QC.mpr ⟨h2,by simp,λa ha b hb=>?_⟩;rw[aY.mp hb];have:=h3 a ha;omega
  .intro a ha;rw[es] at ha;rcases fO.mp ha with ha|ha
   .have:=h3 a ha;omega
   .rw[aY.mp ha];omega
 .rintro ρ ⟨last,x4,R,rfl,h1,h2,h3,h4⟩;rw[ak,dQ] at h2 h3;rfl';refine q _ ?_;rw[decide_eq_true_eq,ak];constructor
  .intro h;exact⟨λz=>by subst z;simp at h,h2,λpr c8=>(h3 pr c8).2⟩
  .rintro⟨h,_⟩;cases prs with
   |nil=>exact absurd rfl h
   |cons=>simp
def FH:DF:=λds Φ=>∃(p n:Int) (cs:List ao),ds=[bR p n cs]/\cs.length<=10000/\∀b:Bool,(b=true↔okN p n cs)->Φ true (.bool b)
def abW:bW FH:=by
 intro ds Φ Ψ hm z;revert hm;walk_at "mo";exact λq=>λb h=>z _ _ (q b h)
def Cg:bz ["net","p","n","checks"] ["net"] (aE CJ):=⟨rfl,rfl,rfl,by decide+kernel,rfl,by decide+kernel,by decide+kernel⟩
theorem aaA(F:bq K "formed" "formed" CJ f fd)(a:Callee P w K mg base "is_check" 1 ["p","n","pairs"] (aM 3 IP))(nF:mg "all"=none)(bZ:mg "len"=none){j:Tok}(Eo:mg "MOST_PLACES"=some (.int 400 j)){l:Tok}(Gh:mg "MOST_CHECKS"=some (.int 400 l)):
  aU P w K mg base bf 2 f fd ["net"] (aM 1 FH):=by
 refine F.ok Cg (λvs H Q E h=>h.1) (λcdv A outer s H vs Q E hr h=>?_);obtain⟨nb,ds,Φ,g,u,D,I⟩:=dM h;obtain⟨p,n,cs,rfl,hl,q⟩:=I;refine⟨_,(@ay _ _ _ _ _ (@aO _ _ (1) _ _ _ _ Cg.nd rfl (fx rfl) (@aD _ _ _ _ _ _ (bG K) bL (pv 0) aj (λ_ _=>rfl)) (by rfl) (by first|exact .inl rfl|exact .inr rfl|assumption)) (@ay _ _ _ _ _ (@aO _ _ (2) _ _ _ _ Cg.nd rfl (fx rfl) (@aD _ _ _ _ _ _ (bG K) bL (pv 0) aj (λ_ _=>rfl)) (by rfl) (by first|exact .inl rfl|exact .inr rfl|assumption)) #[5,#[15,Cg.nd,@aD _ _ _ _ _ _ (bG K) bL (pv 0) aj (λ_ _=>rfl)],@eG _ _ _ _ _ _ _ _ (PW.pt (mL (@aX _ _ _ _ _ _ _ _ nI (pv 1) aj (aV _)) (mL (@aX _ _ _ _ _ _ _ _ nI (pv 2) aj (aV _)) (mL (@aX _ _ _ _ _ _ _ _ rq (pv 2) (uy (v:= .int 400) rfl Eo ⟨_,rfl⟩) (aV _)) (uB (@aX _ _ _ _ _ _ _ _ rq #[12,bZ,@aa _ _ _ _ _ (pv 3) ai rfl] (uy (v:= .int 400) rfl Gh ⟨_,rfl⟩) (aV _))))))) (@aF _ _ _ (@aR _ _ _ _ pW)) eH,(@eN _ _ _ _ _ _ _ _ (uA K) (GR rfl) rfl nF FW #[0,eK (cy.of (show cM (aE CJ) ["net","p","n","checks"] _ ["pairs","p","n"] [none,some 1,some 2]=true by decide+kernel)) (dh (K:=K) rfl (pv 3)) (λ_ _ _ _=>⟨#[2,(by show bT (["pairs","p","n"]:List Str);decide+kernel)],eW,#[1,a,@aa _ _ _ _ _ (pv 1) (@aa _ _ _ _ _ (pv 2) (@aa _ _ _ _ _ (pv 0) ai rfl) rfl) rfl]⟩)] ⋯ ⋯ (by rfl) (by rfl))])),?_⟩;refine Sv.dH g u D (ρ:=[.d false _, .no, .no, .no]) rfl ?_;clear D u;have W:(cs.map dW).length=cs.length:=ak ..;have no:(¬okN p n cs)->Φ true (.bool false):=λh=>q false ⟨λz=>(by cases z),λz=>absurd z h⟩;rfl';by_cases c1:p<2
 .rfl';exact no λz=>by have:=z.1;omega
 rfl';by_cases c2:n<1
 .rfl';exact no λz=>by have:=z.2.1;omega
 rfl';by_cases L:400<n
 .rfl';exact no λz=>by have:=z.2.2.1;omega
 rfl';by_cases o:400<((cs.map dW).length:Int)
 .rfl';exact no λz=>by have:=z.2.2.2.1;omega
 rfl';refine aq.ev (aq.e7 ⋯ rfl ?_);rfl';refine λv=>iH.rel lr true (λi (b:Bool)=>∃prs,cs[i]?=some prs/\(b=true↔AK p n prs)) ?_ λbs M t=>?_
 .rintro i d hd;obtain⟨prs,J,rfl⟩:=cK hd;rfl';refine⟨by walk_at "wk",?_⟩;rfl';refine Ev.cg Po ?_;rfl';refine⟨rfl,p,n,prs,rfl,λb hb=>?_⟩;exact⟨λ_=>rfl,b,rfl,prs,J,hb⟩
 refine⟨bs,rfl,q _ ?_⟩;rw[lU];constructor
 .intro h;refine⟨∅,∅,∅,∅,λprs J=>?_⟩;obtain⟨k,hk⟩:=jS J;have c:k<bs.length:=by have:=(bV.mp hk).1;omega
  obtain⟨e,e1,e2⟩:=t k _ (aS c);rw[hk] at e1;cases e1
  exact e2.mp (h _ (fU c))
 .rintro⟨_,_,_,_,h⟩ b hb;obtain⟨k,hk⟩:=jS hb;obtain⟨prs,e1,e2⟩:=t k b hk;exact e2.mpr (h prs (bP e1))
def Gi:DF:=λds Φ=>∃(p a:Int),ds=[.int p, .int a]/\Φ true (.bool (decide (0<=a/\a<p)))
def UH:bW Gi:=by
 intro ds Φ Ψ hm z;revert hm;walk_at "mo";exact λq=>z _ _ q
def Wu:bz ["p","letter"] ["p","letter"] (aE Jz):=⟨rfl,rfl,rfl,by decide+kernel,rfl,by decide+kernel,by decide+kernel⟩
theorem abG(F:bq K "is_letter" "is_letter" Jz f fd):
  aU P w K mg base bf 1 f fd ["p","letter"] (aM 2 Gi):=by
 refine F.ok Wu (λvs H Q E h=>h.1) (λcdv A outer s H vs Q E hr h=>?_);obtain⟨nb,ds,Φ,g,u,D,I⟩:=dM h;obtain⟨p,a,rfl,q⟩:=I;refine⟨_,#[3,@RP _ _ _ _ _ _ _ (@oZ _ _ _ _ _ _ _ _ Fc aj (pv 1) (aV _)) (@PB _ _ _ _ _ (@oZ _ _ _ _ _ _ _ _ nI (pv 1) (pv 0) (aV _)))],?_⟩;refine Sv.dH g u D (ρ:=[.d false _, .d false _]) rfl ?_;clear D u;by_cases c1:0<=a
 .rw[show decide (0<=a/\a<p)=decide (a<p) by simp[c1]] at q;rfl';exact q
 .rw[decide_eq_false ∅] at q;rfl';exact q
def Ea:DF:=λds Φ=>∃(p:Int) (prs:ao) (wd:Wo),ds=[.int p,dW prs,bI wd]/\0<p/\nX prs wd.length/\dN wd/\Φ true (bJ (qp p prs wd))
def Xq:bW Ea:=by
 intro ds Φ Ψ hm z;revert hm;walk_at "mo";exact λq=>z _ _ q
def HL:bz ["p","pairs","word","place","factor"] ["p","pairs","word"] (aE Jr):=⟨rfl,rfl,rfl,by decide+kernel,rfl,by decide+kernel,by decide+kernel⟩
def aaY(F:bq K "sum_of" "sum_of" Jr f fd)(c:Callee P w K mg base "total" 1 ["p","pairs","word"] Bj):
    aU P w K mg base bf 2 f fd ["p","pairs","word"] (aM 3 Ea):=by
  refine F.ok HL (λvs H Q E h=>h.1) (λcdv A outer s H vs Q E hr h=>?_);obtain⟨nb,ds,Φ,g,u,D,I⟩:=dM h;obtain⟨p,prs,wd,rfl,hp,h1,h2,q⟩:=I;refine⟨_,(@ay _ _ _ _ _ (@iZ _ _ _ _ _ _ _ _ iw rfl (dh (K:=K) rfl (pv 1)) (@iG _ (K) _ _ _ (2) _ rfl rfl #[6,aJ (i:=3) HL.nd rfl (cm rfl),aJ (i:=4) HL.nd rfl (cm rfl)] (by rfl) (by rfl)) (@aF _ _ _ #[10,@aX _ _ _ _ _ _ _ _ qG (@aD _ _ _ _ _ _ (cB K) bF (pv 2) (pv 3) (λ_ _=>rfl)) gc (aV _),gc]) (by intro _;rfl)) #[3,#[8,c,@aa _ _ _ _ _ (pv 1) (@aa _ _ _ _ _ (pv 2) ai rfl) rfl]]),?_⟩;refine Sv.dH g u D (ρ:=[.d false _, .d false _, .d false _, .no, .no]) rfl ?_;clear D u;rfl';refine Sv.forL (Ev.var rfl ⟨_,rfl,λv=>?_⟩);refine⟨λi ρ=>(∃x y,ρ=[.d false (.int p), .d false (dW prs), .d false (bI wd),x,y])/\∀pr∈prs.take i,wd[pr.1.toNat]?≠some none,⟨⟨_,_,rfl⟩,by simp⟩,?_,?_⟩
  · rintro i d ρ hd ⟨⟨x,y,rfl⟩,hI⟩
    obtain⟨pr,c8,rfl⟩:=cK hd;obtain⟨g1,g2,N⟩:=h1 pr (bP c8);obtain⟨o,ho,S⟩:=rZ (xs:=wd) bJ g1 g2 rfl;rfl';rw[nE];cases o with
    | none =>
      rfl';have e:qp p prs wd=none:=if_pos ⟨pr,bP c8,ho⟩;rw[e] at q;exact q
    | some z =>
      rfl';refine⟨⟨_,_,rfl⟩,λa h'=>?_⟩;rw[FX c8] at h';rcases fO.mp h' with h'|h'
      · exact hI a h'
      · rw[aY.mp h',ho];exact λz=>by cases z
  · rintro ρ ⟨⟨x,y,rfl⟩,hI⟩
    rfl';refine Ev.total ?_;rfl';refine⟨p,prs,wd,rfl,hp,h1,h2,?_⟩;have e:qp p prs wd=some (aT prs wd%p):=if_neg λ⟨pr,h,e⟩=>hI pr (by rw[ak,dQ];exact h) e;rw[e] at q;exact q
def Eg:DF:=λds Φ=>∃(p n:Int) (cs:List ao) (wd:Wo),ds=[bR p n cs,bI wd]/\0<p/\cs.length<=10000/\(∀prs∈cs,nX prs wd.length)/\dN wd/\Φ true (.list (cs.map λprs=>bJ (qp p prs wd)))
def Wr:bW Eg:=by
 intro ds Φ Ψ hm z;revert hm;walk_at "mo";exact λq=>z _ _ q
def Kk:bz ["net","word"] ["net","word"] (aE xQ):=⟨rfl,rfl,rfl,by decide+kernel,rfl,by decide+kernel,by decide+kernel⟩
def VN(F:bq K "sums" "sums" xQ f fd)(a:Callee P w K mg base "sum_of" 2 ["p","pairs","word"] (aM 3 Ea)):
  aU P w K mg base bf 3 f fd ["net","word"] (aM 2 Eg):=by
 refine F.ok Kk (λvs H Q E h=>h.1) (λcdv A outer s H vs Q E hr h=>?_);obtain⟨nb,ds,Φ,g,u,D,I⟩:=dM h;obtain⟨p,n,cs,wd,rfl,hp,hl,h1,h2,q⟩:=I;refine⟨_,#[3,eK (cy.of (show cM (aE xQ) ["net","word"] _ ["pairs","net","word"] [none,some 0,some 1]=true by decide+kernel)) (dh (K:=K) rfl (@aD _ _ _ _ _ _ (bG K) bL (pv 0) aj (λ_ _=>rfl))) (λ_ _ _ _=>⟨#[2,(by show bT (["pairs","net","word"]:List Str);decide+kernel)],eW,#[1,a,@aa _ _ _ _ _ (@aD _ _ _ _ _ _ (bG K) bL (pv 1) aj (λ_ _=>rfl)) (@aa _ _ _ _ _ (pv 0) (@aa _ _ _ _ _ (pv 2) ai rfl) rfl) rfl]⟩)],?_⟩;refine Sv.dH g u D (ρ:=[.d false _, .d false _]) rfl ?_;clear D u;rfl';refine aq.ev (aq.e7 ⋯ rfl ?_);rfl';refine⟨by rw[ak];exact hl,λv=>⟨true,λi ds=>ds=(cs.take i).map λprs=>bJ (qp p prs wd),rfl,?_,?_⟩⟩
 .rintro i d ds hd hl' rfl;obtain⟨prs,J,rfl⟩:=cK hd;rfl';refine⟨by walk_at "wk",?_⟩;rfl';refine Ev.cg Xq ?_;rfl';refine⟨rfl,p,prs,wd,rfl,hp,h1 prs (bP J),h2,λ_=>rfl,?_⟩;show _=cf _ _;rw[FX J,bh]
  rfl
 .rintro ds hl' rfl;rw[ak,dQ];exact q
def J3:DF:=λds Φ=>∃wd:Wo,ds=[bI wd]/\wd.length<=10000/\Φ true (.list ((gh wd).map .int))
def T2:bW J3:=by
 intro ds Φ Ψ hm z;revert hm;walk_at "mo";exact λq=>z _ _ q
def Vs:bz ["word"] ["word"] (aE yh):=⟨rfl,rfl,rfl,by decide+kernel,rfl,by decide+kernel,by decide+kernel⟩
def abg(F:bq K "lost_of" "lost_of" yh f fd)(tw:mg "enumerate"=none):
    aU P w K mg base bf 1 f fd ["word"] (aM 1 J3):=by
  refine F.ok Vs (λvs H Q E h=>h.1) (λcdv A outer s H vs Q E hr h=>?_);obtain⟨nb,ds,Φ,g,u,D,I⟩:=dM h;obtain⟨wd,rfl,hl,q⟩:=I;refine⟨_,#[3,eK (cy.of (show cM (aE yh) ["word"] _ ["place","letter"] [none,none]=true by decide+kernel)) (@S9 _ (K) _ _ _ _ _ _ _ rfl rfl tw (pv 0) (by rfl)) (λ_ _ _ _=>⟨(@iG _ (K) _ _ _ (2) _ rfl rfl #[6,#[2,(by show bT (["place","letter"]:List Str);decide+kernel)],aJ (i:=1) (by show bT (["place","letter"]:List Str);decide+kernel) rfl (cm rfl)] (by rfl) (by rfl)),(mF (@aX _ _ _ _ _ _ _ _ qG (pv 1) gc (aV _))),(pv 0)⟩)],?_⟩;refine Sv.dH g u D (ρ:=[.d false _]) rfl ?_;clear D u;have W:(wd.map bJ).length=wd.length:=ak ..;rfl';refine aq.ev (aq.P8 ⋯ rfl ?_);rfl';refine λv=>⟨true,λi ds=>ds=(((cv i).filter λj=>wd[j]?==some none).map λ(j:Nat)=>(j:Int)).map bj,rfl,?_,?_⟩
  · rintro i d ds ⟨e,he,rfl⟩ hl' rfl
    obtain⟨o,ho,rfl⟩:=cK he;rfl';refine⟨by walk_at "wk",?_⟩;rfl';rw[nE];cases o with
    | none =>
      rfl';show _=cf _ (cf _ (Cy _ (cv (i+1))));rw[wJ,sA,tK (by rw[ho];rfl)];simp
    | some x =>
      rfl';show _=cf _ (cf _ (Cy _ (cv (i+1))));rw[wJ,sA,qY (by rw[ho];simp)];simp
  · rintro ds hl' rfl
    rw[W];exact q
def FU:DF:=λds Φ=>∃(p rest:Int) (prs:ao) (wd:Wo),ds=[.int p,dW prs, .int rest,bI wd]/\gu p/\p<10^40/\0<=rest/\rest<p/\prs.length<=10000/\nX prs wd.length/\Dy p prs/\dN wd/\Φ true (vW (dU p prs rest wd))
def Hk:bW FU:=by
 intro ds Φ Ψ hm z;revert hm;walk_at "mo";exact λq=>z _ _ q
def CI:bz ["p","pairs","rest","word","lost","place","factor"] ["p","pairs","rest","word"] (aE yM):=⟨rfl,rfl,rfl,by decide+kernel,rfl,by decide+kernel,by decide+kernel⟩
theorem V7(F:bq K "told_for" "told_for" yM f fd)(j:Callee P w K mg base "over" 2 ["p","a","b"] FY)(c:Callee P w K mg base "total" 1 ["p","pairs","word"] Bj)(bZ:mg "len"=none):
    aU P w K mg base bf 3 f fd ["p","pairs","rest","word"] (aM 4 FU):=by
  refine F.ok CI (λvs H Q E h=>h.1) (λcdv A outer s H vs Q E hr h=>?_);obtain⟨nb,ds,Φ,g,u,D,I⟩:=dM h;obtain⟨p,rest,prs,wd,rfl,hp,iE,r0,C,hl,hP,b,hW,q⟩:=I;refine⟨_,(@ay _ _ _ _ _ (nK (i:=4) CI.nd rfl rfl (cy.of (show cM (aE yM) ["p","pairs","rest","word","lost","place","factor"] _ ["place","factor","word"] [none,none,some 3]=true by decide+kernel)) (dh (K:=K) rfl (pv 1)) (λ_ _ _ _=>⟨(@iG _ (K) _ _ _ (2) _ rfl rfl #[6,aJ (i:=0) (by show bT (["place","factor","word"]:List Str);decide+kernel) rfl (cm rfl),aJ (i:=1) (by show bT (["place","factor","word"]:List Str);decide+kernel) rfl (cm rfl)] (by rfl) (by rfl)),(mF (@aX _ _ _ _ _ _ _ _ qG (@aD _ _ _ _ _ _ (cB K) bF (pv 2) (pv 0) (λ_ _=>rfl)) gc (aV _))),(@eO _ _ _ _ _ (@aa _ _ _ _ _ (pv 0) (@aa _ _ _ _ _ (pv 1) ai rfl) rfl))⟩)) (@ay _ _ _ _ _ #[10,(@aX _ _ _ _ _ _ _ _ j9 #[12,bZ,@aa _ _ _ _ _ (pv 4) ai rfl] aj (aV _)),gc] #[13,@aO _ _ (5) _ _ _ _ CI.nd rfl (cm rfl) (@aD _ _ _ _ _ _ (bG K) bL (@aD _ _ _ _ _ _ (cB K) bF (pv 4) aj (λ_ _=>rfl)) aj (λ_ _=>rfl)) (by rfl) (by first|exact .inl rfl|exact .inr rfl|assumption),#[11,(6),CI.nd,@aD _ _ _ _ _ _ (bG K) bL (@aD _ _ _ _ _ _ (cB K) bF (pv 4) aj (λ_ _=>rfl)) aj (λ_ _=>rfl)],(@aa _ _ _ _ _ (pv 5) #[0,#[8,j,@aa _ _ _ _ _ (@aC _ _ _ _ _ _ _ _ jl (pv 2) #[8,c,@aa _ _ _ _ _ (pv 1) (@aa _ _ _ _ _ (pv 3) ai rfl) rfl]) (@aa _ _ _ _ _ (pv 6) ai rfl) rfl]] rfl)])),?_⟩;refine Sv.dH g u D (ρ:=[.d false _, .d false _, .d false _, .d false _, .no, .no, .no]) rfl ?_;clear D u;have W:(prs.map F1).length=prs.length:=ak ..;have p2:=hp.1;rfl';refine aq.ev (aq.e7 ⋯ rfl ?_);rfl';refine λv=>⟨true,λi ds=>ds=(dz wd (prs.take i)).map F1,rfl,?_,?_⟩
  · rintro i d ds hd hl' rfl
    obtain⟨pr,c8,rfl⟩:=cK hd;obtain⟨g1,g2,N⟩:=hP pr (bP c8);obtain⟨o,ho,S⟩:=rZ (xs:=wd) bJ g1 g2 rfl;rfl';refine⟨by walk_at "wk",?_⟩;rfl';rw[nE];cases o with
    | none =>
      rfl';refine⟨λ_=>rfl,?_⟩;show _=cf F1 (dz wd (prs.take (i+1)));rw[FX c8,yS,if_pos ho,bh]
      rfl
    | some x =>
      rfl';show _=cf F1 (dz wd (prs.take (i+1)));rw[FX c8,yS,if_neg (by rw[ho];simp)]
  rintro ds hl' rfl;rw[W,dQ];rfl';have key:∀L,dz wd prs=L->dU p prs rest wd=(match L with|[pr]=>some (pr.1,sol p pr.2 (rest-aT prs wd%p))|_=>none):=λL e=>by unfold dU;rw[e]<;>rfl
  cases J:dz wd prs with
  | nil =>
    rfl';rw[key _ J] at q;exact q
  | cons pr r =>
    cases r with
    | cons a Y =>
      have:¬((cf F1 (pr::a::Y)).length:Int)=1:=by simp;omega
      rfl';rw[key _ J] at q;exact q
    | nil =>
      have hm:=(vm (wd:=wd) (prs:=prs) (pr:=pr) (by rw[J];simp)).1;have d0:=i7 (aT prs wd) (show p≠0 by omega);have d1:=iY (aT prs wd) (show 0<p by omega);rfl';refine Ev.over ?_;rfl';refine Ev.total ?_;rfl';refine⟨p,prs,wd,rfl,∅,hP,hW,?_⟩;rfl';refine⟨p,rest-aT prs wd%p,pr.2,rfl,hp,iE,b pr hm,∅,∅,λx M x1 hx=>?_⟩;rfl';rw[key _ J] at q;have e:=JB hp (b pr hm) M x1 hx;rw[e];exact q
def Kr:DF:=λds Φ=>∃(p n c:Int) (cs:List ao) (wd:Wo),ds=[bR p n cs,bI wd, .int c]/\fG p cs wd.length/\dN wd/\0<=c/\c<cs.length/\Φ true (vW (dU p (cs.getD c.toNat []) 0 wd))
def ahb:bW Kr:=by
 intro ds Φ Ψ hm z;revert hm;walk_at "mo";exact λq=>z _ _ q
def Ym:bz ["net","word","c"] ["net","word","c"] (aE Ky):=⟨rfl,rfl,rfl,by decide+kernel,rfl,by decide+kernel,by decide+kernel⟩
theorem X9(F:bq K "told_by" "told_by" Ky f fd)(a:Callee P w K mg base "told_for" 3 ["p","pairs","rest","word"] (aM 4 FU)):
  aU P w K mg base bf 4 f fd ["net","word","c"] (aM 3 Kr):=by
 refine F.ok Ym (λvs H Q E h=>h.1) (λcdv A outer s H vs Q E hr h=>?_);obtain⟨nb,ds,Φ,g,u,D,I⟩:=dM h;obtain⟨p,n,c,cs,wd,rfl,hN,hW,c0,c1,q⟩:=I;refine⟨_,#[3,#[1,a,@aa _ _ _ _ _ (@aD _ _ _ _ _ _ (bG K) bL (pv 0) aj (λ_ _=>rfl)) (@aa _ _ _ _ _ (@aD _ _ _ _ _ _ (cB K) bF (@aD _ _ _ _ _ _ (bG K) bL (pv 0) aj (λ_ _=>rfl)) (pv 2) (λ_ _=>rfl)) (@aa _ _ _ _ _ aj (@aa _ _ _ _ _ (pv 1) ai rfl) rfl) rfl) rfl]],?_⟩;refine Sv.dH g u D (ρ:=[.d false _, .d false _, .d false _]) rfl ?_;clear D u;obtain⟨prs,e1,e2,e3,e4,e5⟩:=hN.at c0 c1;have p2:=hN.1.1;have S:bU (cs.map dW) c=some (dW prs):=j6 c0 (by rw[cS,e1];rfl);rfl';refine Ev.cg Hk ?_;rfl';rw[e2] at q;exact⟨rfl,p,0,prs,wd,rfl,hN.1,hN.2.1,∅,∅,∅,e4,e5,hW,q⟩
def GZ:DF:=λds Φ=>∃(p n:Int) (cs:List ao) (wd:Wo),ds=[bR p n cs,bI wd]/\fG p cs wd.length/\dN wd/\wd.length<=4000/\Φ true (eB (aW p cs wd))
def VT:bW GZ:=by
 intro ds Φ Ψ hm z;revert hm;walk_at "mo";exact λq=>z _ _ q
def CH:bz ["net","word","found","c","told"] ["net","word"] (aE xM):=⟨rfl,rfl,rfl,by decide+kernel,rfl,by decide+kernel,by decide+kernel⟩
theorem acm(F:bq K "round_of" "round_of" xM f fd)(b:Callee P w K mg base "told_by" 4 ["net","word","c"] (aM 3 Kr))(dI:mg "range"=none)(bZ:mg "len"=none)(nQ:mg "sorted"=none):
    aU P w K mg base bf 5 f fd ["net","word"] (aM 2 GZ):=by
  refine F.ok CH (λvs H Q E h=>h.1) (λcdv A outer s H vs Q E hr h=>?_);obtain⟨nb,ds,Φ,g,u,D,I⟩:=dM h;obtain⟨p,n,cs,wd,rfl,hN,hW,hl,q⟩:=I;refine⟨_,#[5,@aO _ _ (2) _ _ _ _ CH.nd rfl (fx rfl) Dv (by rfl) (by first|exact .inl rfl|exact .inr rfl|assumption),@iZ _ _ _ _ _ _ _ _ iw rfl (@kX _ _ _ _ _ _ rfl dI #[0,#[12,bZ,@aa _ _ _ _ _ (@aD _ _ _ _ _ _ (bG K) bL (pv 0) aj (λ_ _=>rfl)) ai rfl]] (by rfl)) (aJ (i:=3) CH.nd rfl (cm rfl)) (@ay _ _ _ _ _ #[16,CH.nd,#[8,b,@aa _ _ _ _ _ (pv 1) (@aa _ _ _ _ _ (pv 3) ai rfl) rfl]] (@aF _ _ _ (@eG _ _ _ _ _ _ _ _ (PW.pt (mQ (@aX _ _ _ _ _ _ _ _ qA (pv 4) gc (aV _)) (mh (@aX _ _ _ _ _ _ _ _ (S3 hr.units) (@aD _ _ _ _ _ _ (bG K) bL (pv 4) aj (λ_ _=>rfl)) (pv 2) (by with_unfolding_all rfl))))) (@aF _ _ _ (@iW _ _ _ _ _ _ (@eO _ _ _ _ _ (@aa _ _ _ _ _ (@aD _ _ _ _ _ _ (bG K) bL (pv 4) aj (λ_ _=>rfl)) (@aa _ _ _ _ _ (pv 3) (@aa _ _ _ _ _ (@aD _ _ _ _ _ _ (bG K) bL (pv 4) aj (λ_ _=>rfl)) ai rfl) rfl) rfl)) (mH (pv 2) (@aD _ _ _ _ _ _ (bG K) bL (pv 4) aj (λ_ _=>rfl)) set_dict) (by rfl) (by rfl) (by rfl))) eH))) (by intro _;rfl),eK (cy.of (show cM (aE xM) ["net","word","found","c","told"] _ ["place","found"] [none,some 2]=true by decide+kernel)) (dh (K:=K) rfl (@eN _ _ _ _ _ _ _ _ (zB) (Mq rfl) rfl nQ Ik (@aa _ _ _ _ _ (pv 2) ai rfl) ⋯ ⋯ (by rfl) (by rfl))) (λ_ _ _ _=>⟨#[2,(by show bT (["place","found"]:List Str);decide+kernel)],eW,(@aD _ _ _ _ _ _ (Bk) Rk (pv 1) (pv 0) (λ_ _=>rfl))⟩)],?_⟩;refine Sv.dH g u D (ρ:=[.d false _, .d false _, .no, .no, .no]) rfl ?_;clear D u;have p2:=hN.1.1;have hcl:=hN.2.2.1;have N:((cs.map dW).length:Int)=cs.length:=by rw[ak]
  refine Sv.seq ?_;refine Sv.Sx (vH.new ?_);intro A2;refine Sv.seq ?_;refine Sv.zM ?_;refine Ev.Ol ?_;refine Ev.p8 ?_;refine Ev.var rfl ?_;refine⟨_,rfl,Ev.int ⟨_,rfl,_,rfl,_, .inl rfl,_,rfl,∅,∅,?_⟩⟩;rw[show((cs.map dW).length:Int).toNat=cs.length by omega];refine⟨λi ρ=>∃(x3 x4:Sl),ρ=[.d false (bR p n cs), .d false (bI wd), .cE A2 true ((bQ p cs wd i).map kM),x3,x4],⟨_,_,rfl⟩,?_,?_⟩
  · rintro i d ρ' ⟨hi,rfl⟩ ⟨x3,x4,rfl⟩
    have hfl:=xu (p:=p) (cs:=cs) (wd:=wd) ∅ hN.rg (i:=i) ∅;rfl';refine Ev.cg ahb ?_;rfl';refine⟨rfl,p,n,0+(i:Int),cs,wd,rfl,hN,hW,∅,∅,?_⟩;rw[show(0+(i:Int)).toNat=i by omega]
    have ef:bQ p cs wd (i+1)=match dU p (cs.getD i []) 0 wd with
      |some (a,x)=>if a∈(bQ p cs wd i).map (·.1) then bQ p cs wd i else bQ p cs wd i++[(a,(i:Int),x)]
      |none=>bQ p cs wd i:=by rw[bQ]<;>rfl
    cases ht:dU p (cs.getD i []) 0 wd with
    | none =>
      rw[ht] at ef;dsimp only at ef;show Gv _ _ _ _ tx _;rfl';show∃(x3 x4:Sl),(_:Rh)=[Sl.d false (bR p n cs),Sl.d false (bI wd),Sl.cE A2 true ((bQ p cs wd (i+1)).map kM),x3,x4];rw[ef];exact⟨_,_,rfl⟩
    | some r =>
      obtain⟨a,x⟩:=r;rw[ht] at ef;dsimp only at ef;show Gv _ _ _ _ (p0 [.int a, .int x]) _;rfl';refine Ev.RA rfl ?_;rfl';rw[xc];by_cases c:a∈(bQ p cs wd i).map (·.1)
      · rw[if_pos c] at ef
        have:k8 ((bQ p cs wd i).map kM) a=true:=by rw[BG,q8];exact c
        rw[this];rfl';show∃(x3 x4:Sl),(_:Rh)=[Sl.d false (bR p n cs),Sl.d false (bI wd),Sl.cE A2 true ((bQ p cs wd (i+1)).map kM),x3,x4];rw[ef];exact⟨_,_,rfl⟩
      · rw[if_neg c] at ef
        have:k8 ((bQ p cs wd i).map kM) a=false:=by rw[<-rf,BG,q8];exact c
        rw[this];generalize W:(gD _ (qq (dD 2) _ _):TS)=tl;rfl';subst W;refine Sv.QO rfl ?_;rfl';refine⟨by rw[ak];omega,?_⟩;show∃(x3 x4:Sl),(_:Rh)=[Sl.d false (bR p n cs),Sl.d false (bI wd),Sl.cE A2 true ((bQ p cs wd (i+1)).map kM),x3,x4];rw[ef,bh];unfold wF;rw[this,show(0+(i:Int))=i by omega];exact⟨_,_,rfl⟩
  · rintro ρ' ⟨x3,x4,rfl⟩
    have hfl:=xu (p:=p) (cs:=cs) (wd:=wd) ∅ hN.rg (i:=cs.length) (aH _);refine Sv.ret (aq.ev (aq.e7 ⋯ rfl ?_));refine aq.ev (aq.MG rfl (by rw[ak];omega) λM X y=>?_);rw[q8] at y;obtain⟨ms,rfl,t⟩:=Lk y _ rfl;have hmr:=LP t X;have hml:ms.length<=wd.length:=by rw[t.length_eq];exact hfl
    refine⟨_,rfl,by rw[ak,ak];omega,λv=>⟨true,λi ds=>ds=(ms.take i).map kj,rfl,?_,?_⟩⟩
    · rintro i d ds hd hl' rfl
      obtain⟨a,ha,rfl⟩:=cK hd;obtain⟨m,hm,rfl⟩:=cK ha;have hv:=JT (pJ (p:=p) (cs:=cs) (wd:=wd) cs.length) (t.mem_iff.mp (bP hm));rfl';refine⟨by walk_at "wk",?_⟩;rfl';refine Ev.N3 rfl ?_;rfl';refine⟨_,hv,λ_=>rfl,?_⟩;show _=cf _ (dA (i+1) ms);rw[FX hm,bh]
      rfl
    · rintro ds hl' rfl
      rw[ak,ak,dQ,hmr,wu];exact q
def Fv:DF:=λds Φ=>∃(p n:Int) (cs:List ao),ds=[bR p n cs]/\cs.length<=10000/\(∀prs∈cs,prs.length<=10000)/\∀f,Φ f (bR p n cs)
def K0:bW Fv:=by
 intro ds Φ Ψ hm z;revert hm;walk_at "mo";exact λq=>λf=>z _ _ (q f)
def Zo:bz ["net"] ["net"] (aE AY):=⟨rfl,rfl,rfl,by decide+kernel,rfl,by decide+kernel,by decide+kernel⟩
def aaz(F:bq K "copied" "copied" AY f fd)(ju:mg "list"=none):
  aU P w K mg base bf 1 f fd ["net"] (aM 1 Fv):=by
 refine F.ok Zo (λvs H Q E h=>h.1) (λcdv A outer s H vs Q E hr h=>?_);obtain⟨nb,ds,Φ,g,u,D,I⟩:=dM h;obtain⟨p,n,cs,rfl,hl,k,q⟩:=I;refine⟨_,#[3,@eO _ _ _ _ _ (@aa _ _ _ _ _ (@aD _ _ _ _ _ _ (bG K) bL (pv 0) aj (λ_ _=>rfl)) (@aa _ _ _ _ _ (@aD _ _ _ _ _ _ (bG K) bL (pv 0) aj (λ_ _=>rfl)) (@aa _ _ _ _ _ (eK (cy.of (show cM (aE AY) ["net"] _ ["pairs"] [none]=true by decide+kernel)) (dh (K:=K) rfl (@aD _ _ _ _ _ _ (bG K) bL (pv 0) aj (λ_ _=>rfl))) (λ_ _ _ _=>⟨#[2,(by show bT (["pairs"]:List Str);decide+kernel)],eW,(@gG _ _ _ _ _ _ _ _ (nG K) ue rfl ju uY (@aa _ _ _ _ _ (pv 0) ai rfl) ⋯ ⋯ (by rfl) (by rfl))⟩)) ai rfl) rfl) rfl)],?_⟩;refine Sv.dH g u D (ρ:=[.d false _]) rfl ?_;clear D u;rfl';refine aq.ev (aq.e7 ⋯ rfl ?_);rfl';refine⟨by rw[ak];exact hl,λv=>⟨false,λi ds=>ds=(cs.take i).map dW,rfl,?_,?_⟩⟩
 .rintro i d ds hd hl' rfl;obtain⟨prs,J,rfl⟩:=cK hd;rfl';refine⟨by walk_at "wk",?_⟩;rfl';refine⟨λz=>(by cases z),?_⟩;show _=cf dW (dA (i+1) cs);rw[FX J,bh]
  rfl
 .rintro ds hl' rfl;rw[ak,dQ];rfl';exact q _
def vn(C:ax):CF:=λc ds Φ=>∃(x dx l:ax) (p n:Int) (cs:List ao) (wd:Wo),c=cG C x dx (lu (bR p n cs) l wd)/\ds=[]/\fG p cs wd.length/\dN wd/\wd.length<=4000/\Φ (cG C x dx (lu (bR p n cs) l (FV wd (aW p cs wd)))) true (eB (aW p cs wd))
def Mz:qt (vn C):=by
 intro c ds Φ Ψ h z;obtain⟨x,dx,l,p,n,cs,wd,e1,e2,h1,h2,h3,q⟩:=h;exact⟨x,dx,l,p,n,cs,wd,e1,e2,h1,h2,h3,z _ _ _ q⟩
def uV:bz ["self","found","place","c","letter"] ["self"] (aE sJ):=⟨rfl,rfl,rfl,by decide+kernel,rfl,by decide+kernel,by decide+kernel⟩
theorem agr(F:bq K "step" "Mender.step" sJ f fd){bE:ax}(j:gm K bE)(t:iA K bE "net")(r:iA K bE "letters")(k:Callee P w K mg base "round_of" 5 ["net","word"] (aM 2 GZ)):
  aU P w K mg base bf 6 f fd ["self"] (jo 1 (vn bE)):=by
 refine F.ok uV (λvs H Q E h=>h.1) (λcdv A outer s H vs Q E hr h=>?_);obtain⟨_,nb,c,ws,ds,rfl,g,J,b,o,u,I⟩:=h;obtain⟨Φ,D,I⟩:∃Φ:Cu->Pd,(∀c' f d v H',Φ c' f d->sj c c' H H'->c'.P (λa=>nb a\/a∈c'.F) H'->ah (λa=>nb a\/a∈c'.F\/(f=true/\H a≠none)) H' d v->Q v H')/\vn bE c ds Φ:=⟨_,λc' f d v H' q=>q v H',I⟩;obtain⟨x,dx,l,p,n,cs,wd,rfl,rfl,hN,hW,hl,q⟩:=I;refine⟨_,#[5,#[17,uV.nd,#[1,k,#[4,@wZ _ _ _ _ _ (pv 0) rfl,@wZ _ _ _ _ _ (pv 0) rfl]]],@iZ _ _ _ _ _ _ _ _ iw rfl (dh (K:=K) rfl (pv 1)) (@iG _ (K) _ _ _ (3) _ rfl rfl (@bS _ _ _ _ _ (aJ (i:=2) uV.nd rfl (cm rfl)) #[6,aJ (i:=3) uV.nd rfl (cm rfl),aJ (i:=4) uV.nd rfl (cm rfl)] (by rfl)) (by rfl) (by rfl)) (@aF _ _ _ (@iW _ _ _ _ _ _ (pv 4) (mH (@wZ _ _ _ _ _ (pv 0) rfl) (pv 2) set_list) (by rfl) (by rfl) (by rfl))) (by intro _;rfl),pv 1],?_⟩;refine Sv.AA g J b o u D (ρ:=[.cu _, .no, .no, .no, .no]) rfl ?_;clear D u;have p2:=hN.1.1;refine Sv.seq ?_;refine Sv.asg ?_;refine Ev.Md VT ?_;refine k6.cons (Ev.fld rfl j t rfl ?_);refine k6.fld rfl j r rfl ?_;refine k6.nil ?_;refine⟨rfl,p,n,cs,wd,rfl,hN,hW,hl, .inl rfl,?_⟩;refine Gv.name ?_;refine Sv.seq ?_;refine Sv.forL ?_;refine Ev.var rfl ?_;refine⟨_,rfl,λv=>⟨λi ρ=>∃(x2 x3 x4:Sl),ρ=[.cu (cG bE x dx (lu (bR p n cs) l (FV wd ((aW p cs wd).take i)))), .d true (eB (aW p cs wd)),x2,x3,x4],⟨_,_,_,rfl⟩,?_,?_⟩⟩
 .rintro i d ρ hd ⟨x2,x3,x4,rfl⟩;obtain⟨m,hm,rfl⟩:=cK hd;obtain⟨b1,b2,b3,b4,b5⟩:=su ∅ (bP hm) hN.rg;generalize W:(gD (dD 4) _:TS)=tl;rfl';subst W;refine Sv.Yc rfl j r rfl ?_;rfl';refine⟨_,m.1.toNat,rfl,Et b1 (by rw[ak,ie];omega),?_⟩;have e:((FV wd ((aW p cs wd).take i)).map bJ).set m.1.toNat (.int m.2.2)=(FV wd ((aW p cs wd).take (i+1))).map bJ:=by
   rw[FX hm,qT];show _=((FV wd ((aW p cs wd).take i)).set m.1.toNat (some m.2.2)).map bJ;rw[Jo]
   rfl
  rw[e,YY];exact⟨_,_,_,rfl⟩
 .rintro ρ ⟨x2,x3,x4,rfl⟩;rw[ak,dQ];refine Sv.JR (gP.of ?_);refine Ev.var rfl ?_;intro aP v' H' hv;exact⟨_,_,_,rfl,⟨rfl,rfl,λa m=>m⟩,q,hv⟩
def vd(C:ax):CF:=λc ds Φ=>∃(x dx l:ax) (p n:Int) (cs:List ao) (wd:Wo),c=cG C x dx (lu (bR p n cs) l wd)/\ds=[]/\fG p cs wd.length/\dN wd/\wd.length<=4000/\Φ (cG C x dx (lu (bR p n cs) l (bx p cs wd))) true (.list ((bX p cs wd).map eB))
def XU:qt (vd C):=by
 intro c ds Φ Ψ h z;obtain⟨x,dx,l,p,n,cs,wd,e1,e2,h1,h2,h3,q⟩:=h;exact⟨x,dx,l,p,n,cs,wd,e1,e2,h1,h2,h3,z _ _ _ q⟩
def B3:bz ["self","rounds","found"] ["self"] (aE sS):=⟨rfl,rfl,rfl,by decide+kernel,rfl,by decide+kernel,by decide+kernel⟩
theorem Tx(F:bq K "mend" "Mender.mend" sS f fd){bE:ax}(i:oQ P w K mg base bE "step" 6 ["self"] (jo 1 (vn bE))):
  aU P w K mg base bf 7 f fd ["self"] (jo 1 (vd bE)):=by
 refine F.ok B3 (λvs H Q E h=>h.1) (λcdv A outer s H vs Q E hr h=>?_);obtain⟨_,nb,c,ws,ds,rfl,g,J,b,o,u,I⟩:=h;obtain⟨Φ,D,I⟩:∃Φ:Cu->Pd,(∀c' f d v H',Φ c' f d->sj c c' H H'->c'.P (λa=>nb a\/a∈c'.F) H'->ah (λa=>nb a\/a∈c'.F\/(f=true/\H a≠none)) H' d v->Q v H')/\vd bE c ds Φ:=⟨_,λc' f d v H' q=>q v H',I⟩;obtain⟨x,dx,l,p,n,cs,wd,rfl,rfl,hN,hW,hl,q⟩:=I;refine⟨_,(@ay _ _ _ _ _ #[17,B3.nd,@fc _ _ _ _ ai] #[5,#[7,B3.nd,@yW _ _ _ _ _ _ _ _ _ _ _ i (pv 0) (hr.mono ⋯) (by rfl)],@Ji _ _ _ _ _ _ iw (@aX _ _ _ _ _ _ _ _ (Yw hr.units) (pv 2) (@fc _ _ _ _ ai) (aV _)) (@ay _ _ _ _ _ (@uN _ _ _ _ (ic um xh Aa vJ (pv 1) (@aa _ _ _ _ _ (pv 2) ai rfl)) (by rfl)) (@aF _ _ _ #[7,B3.nd,@yW _ _ _ _ _ _ _ _ _ _ _ i (pv 0) (hr.mono ⋯) (by rfl)])),pv 1]),?_⟩;refine Sv.AA g J b o u D (ρ:=[.cu _, .no, .no]) rfl ?_;clear D u;have p2:=hN.1.1;have key:∀{w:Wo},w.length=wd.length->fG p cs w.length:=λ{w} h=>by rw[h];exact hN
 refine Sv.seq ?_;refine Sv.wK ?_;intro A1;refine Sv.seq ?_;refine Sv.Ka (gP.zj Mz rfl rfl (cG.is rfl) ?_);refine Av.nil ?_;refine⟨rfl,x,dx,l,p,n,cs,wd,rfl,rfl,hN,hW,hl,?_⟩;refine Gv.name ?_;refine Sv.seq ?_;refine Sv.Lu (λρ=>∃(w:Wo) (st:List (List bK)),w.length=wd.length/\dN w/\st++bX p cs w=bX p cs wd/\bx p cs w=bx p cs wd/\ρ=[.cu (cG bE x dx (lu (bR p n cs) l (FV w (aW p cs w)))), .own A1 true (st.map eB), .d true (eB (aW p cs w))]) (λ(ρ:Rh)=>match ρ[1]? with|some (Sl.own _ _ ds)=>wd.length-ds.length|_=>0) ⟨wd,[],rfl,hW,rfl,rfl,rfl⟩ ?_;rintro ρ' ⟨w,st,hwl,hwW,h1,h2,rfl⟩;have kF:=key hwl;rfl';refine⟨aeb _,VH,_,rfl,?_⟩;rw[jU,KD];by_cases c:aW p cs w=[]
 .rw[if_neg (by rw[decide_eq_true c];simp)];rw[xB c,fW] at h1;rw[Px c] at h2;subst h1 h2;rw[c];refine Sv.tL 1 rfl ?_;refine Sv.JR (gP.of ?_);refine Ev.var rfl ?_;intro aP v' H' hv;exact⟨_,_,_,rfl,⟨rfl,rfl,λa m=>m⟩,q,hv⟩
 rw[if_pos (by rw[decide_eq_false c];rfl)];have hl':=Gg (p:=p) (cs:=cs) (wd:=wd);rw[<-h1,uK ∅ kF.rg c,cH,cZ] at hl';rw[uK ∅ kF.rg c] at h1;rw[LI ∅ kF.rg c] at h2;have e:fG p cs (FV w (aW p cs w)).length:=by rw[ie];exact kF
 have Tu:=Ou kF hwW;refine Sv.seq ?_;refine Sv.append rfl ?_;refine Ev.var rfl ?_;refine⟨by rw[ak];omega,?_⟩;refine Sv.Ka (gP.zj Mz rfl rfl (cG.is rfl) ?_);refine Av.nil ?_;refine⟨rfl,x,dx,l,p,n,cs,FV w (aW p cs w),rfl,rfl,e,Tu,by rw[ie,hwl];exact hl,?_⟩;refine Gv.name ?_;refine⟨⟨FV w (aW p cs w),st++[aW p cs w],by rw[ie];exact hwl,Tu,by rw[fj];exact h1,h2,by rw[bh];rfl⟩,?_⟩;show wd.length-(cf eB st++[_]).length<wd.length-(cf eB st).length;rw[cH,gQ,ak];omega
def u5(C:ax):CF:=λc ds Φ=>∃(x dx l:ax) (nd:PyData) (wd:Wo),c=cG C x dx (lu nd l wd)/\ds=[]/\Φ (cG C x dx (lu nd l wd)) true (bI wd)
def Zl:qt (u5 C):=by
 intro c ds Φ Ψ h z;obtain⟨x,dx,l,nd,wd,e1,e2,q⟩:=h;exact⟨x,dx,l,nd,wd,e1,e2,z _ _ _ q⟩
def WZ:bz ["self"] ["self"] (aE rK):=⟨rfl,rfl,rfl,by decide+kernel,rfl,by decide+kernel,by decide+kernel⟩
def VI(F:bq K "word" "Mender.word" rK f fd){bE:ax}(j:gm K bE)(r:iA K bE "letters")(ju:mg "list"=none):
  aU P w K mg base bf 1 f fd ["self"] (jo 1 (u5 bE)):=by
 refine F.ok WZ (λvs H Q E h=>h.1) (λcdv A outer s H vs Q E hr h=>?_);obtain⟨_,nb,c,ws,ds,rfl,g,J,b,o,u,I⟩:=h;obtain⟨Φ,D,I⟩:∃Φ:Cu->Pd,(∀c' f d v H',Φ c' f d->sj c c' H H'->c'.P (λa=>nb a\/a∈c'.F) H'->ah (λa=>nb a\/a∈c'.F\/(f=true/\H a≠none)) H' d v->Q v H')/\u5 bE c ds Φ:=⟨_,λc' f d v H' q=>q v H',I⟩;obtain⟨x,dx,l,nd,wd,rfl,rfl,q⟩:=I;refine⟨_,#[3,(@gG _ _ _ _ _ _ _ _ (nG K) ue rfl ju uY #[0,@wZ _ _ _ _ _ (pv 0) rfl] ⋯ ⋯ (by rfl) (by rfl))],?_⟩;refine Sv.AA g J b o u D (ρ:=[.cu _]) rfl ?_;clear D u;refine Sv.JR (gP.of (aq.ev (aq.S8 rfl j r rfl ?_)));rw[Nd];intro aP v' H' hv;exact⟨_,_,_,rfl,⟨rfl,rfl,λa m=>m⟩,q,hv⟩
def vv(C:ax):CF:=λc ds Φ=>∃(x dx:ax) (p n:Int) (cs:List ao) (wd:Wo),c=cG C x dx []/\ds=[bR p n cs,bI wd]/\cs.length<=10000/\(∀prs∈cs,prs.length<=10000)/\∀l,Φ (cG C x dx (lu (bR p n cs) l wd)) true .none
def Wi:qt (vv C):=by
 intro c ds Φ Ψ h z;obtain⟨x,dx,p,n,cs,wd,e1,e2,h1,h2,q⟩:=h;exact⟨x,dx,p,n,cs,wd,e1,e2,h1,h2,λl=>z _ _ _ (q l)⟩
def ahs:bz ["self","net","word"] ["self","net","word"] (aE qU):=⟨rfl,rfl,rfl,by decide+kernel,rfl,by decide+kernel,by decide+kernel⟩
def Xv(F:bq K "__init__" "Mender.__init__" qU f fd){bE:ax}(j:gm K bE)(t:iA K bE "net")(r:iA K bE "letters")(e:Callee P w K mg base "copied" 1 ["net"] (aM 1 Fv))(ju:mg "list"=none):
  aU P w K mg base bf 2 f fd ["self","net","word"] (jo 3 (vv bE)):=by
 refine F.ok ahs (λvs H Q E h=>h.1) (λcdv A outer s H vs Q E hr h=>?_);obtain⟨_,nb,c,ws,ds,rfl,g,J,b,o,u,I⟩:=h;obtain⟨Φ,D,I⟩:∃Φ:Cu->Pd,(∀c' f d v H',Φ c' f d->sj c c' H H'->c'.P (λa=>nb a\/a∈c'.F) H'->ah (λa=>nb a\/a∈c'.F\/(f=true/\H a≠none)) H' d v->Q v H')/\vv bE c ds Φ:=⟨_,λc' f d v H' q=>q v H',I⟩;obtain⟨x,dx,p,n,cs,wd,rfl,rfl,hl,k,q⟩:=I;refine⟨_,(@ay _ _ _ _ _ (@Ob _ _ _ _ _ _ _ _ (pv 0) (@aI _ _ _ _ _ _ _ _ _ _ e (hr.mono ⋯) (@aa _ _ _ _ _ (pv 1) ai rfl) (by rfl) ⋯ (by rfl) (by rfl)) rfl) (@aF _ _ _ (@Ob _ _ _ _ _ _ _ _ (pv 0) (@gG _ _ _ _ _ _ _ _ (nG K) ue rfl ju uY (@aa _ _ _ _ _ (pv 2) ai rfl) ⋯ ⋯ (by rfl) (by rfl)) rfl))),?_⟩;refine Sv.AA g J b o u D (ρ:=[.cu _, .d false _, .d false _]) rfl ?_;clear D u;refine Sv.seq ?_;refine Sv.Vb rfl j t (.inl rfl) ⋯ ?_;refine Ev.cg K0 ?_;rfl';refine⟨rfl,p,n,cs,rfl,hl,k,λf=>?_⟩;refine Sv.Hn rfl j r rfl (DA rfl) ?_;refine aq.listOf ?_;rfl';intro l;exact⟨_,rfl,⟨rfl,rfl,λa m=>rO [l] m⟩,q l⟩
def GA:DF:=λds Φ=>∃(p n:Int) (cs:List ao) (wd:Wo),ds=[bR p n cs,bI wd]/\fG p cs wd.length/\dN wd/\wd.length<=4000/\Φ true (.tuple [bI (bx p cs wd), .list ((bX p cs wd).map eB)])
def U1:bW GA:=by
 intro ds Φ Ψ hm z;revert hm;walk_at "mo";exact λq=>z _ _ q
def DN:bz ["net","word","mender","rounds"] ["net","word"] (aE Hh):=⟨rfl,rfl,rfl,by decide+kernel,rfl,by decide+kernel,by decide+kernel⟩
theorem ac5(F:bq K "mended" "mended" Hh f fd){bE:ax}(c:oQ P w K mg base bE "mend" 7 ["self"] (jo 1 (vd bE)))(b:oQ P w K mg base bE "word" 1 ["self"] (jo 1 (u5 bE)))(a:G3 P w K mg base bE "Mender" 2 ["self","net","word"] (jo 3 (vv bE))):
  aU P w K mg base bf 8 f fd ["net","word"] (aM 2 GA):=by
 refine F.ok DN (λvs H Q E h=>h.1) (λcdv A outer s H vs Q E hr h=>?_);obtain⟨nb,ds,Φ,g,u,D,I⟩:=dM h;obtain⟨p,n,cs,wd,rfl,hN,hW,hl,q⟩:=I;refine⟨_,#[13,#[7,DN.nd,@Wl _ _ _ _ _ _ _ _ _ _ _ a (hr.mono ⋯) (@aa _ _ _ _ _ (pv 0) (@aa _ _ _ _ _ (pv 1) ai rfl) rfl) (by rfl) ⋯ (by rfl) (by rfl)],#[15,DN.nd,@yW _ _ _ _ _ _ _ _ _ _ _ c (pv 2) (hr.mono ⋯) (by rfl)],@aa _ _ _ _ _ (@yW _ _ _ _ _ _ _ _ _ _ _ b (pv 2) (hr.mono ⋯) (by rfl)) (@aa _ _ _ _ _ (pv 3) ai rfl) rfl],?_⟩;refine Sv.dH g u D (ρ:=[.d false _, .d false _, .no, .no]) rfl ?_;clear D u;have hcl:=hN.2.2.1;refine Sv.seq ?_;refine Sv.make Wi ?_;rfl';refine⟨rfl,λx dx=>⟨x,dx,p,n,cs,wd,rfl,rfl,∅,λprs hp=>by have:=(hN.2.2.2 prs hp).1;omega,λl=>⟨rfl,?_⟩⟩⟩;refine Sv.seq ?_;refine Sv.Ka (gP.zj XU rfl rfl (cG.is rfl) ?_);refine Av.nil ?_;refine⟨rfl,x,dx,l,p,n,cs,wd,rfl,rfl,hN,hW,hl,?_⟩;refine Gv.name ?_;refine Sv.retS (gP.tup ?_);refine Cj.cons (gP.zj Zl rfl rfl (cG.is rfl) ?_);refine Av.nil ?_;refine⟨rfl,x,dx,l,_,bx p cs wd,rfl,rfl,?_⟩;rfl';exact q
def tR:DF:=λds Φ=>∃(f:Str) (os:List Str),ds=[.str f, .list (os.map .str)]/\os.length<=1000/\mE (sg 32) (f::os)=true/\Φ true (.str (bA f os))
def RK:bW tR:=by
 intro ds Φ Ψ hm z;revert hm;walk_at "mo";exact λq=>z _ _ q
def Yl:bz ["first","others"] ["first","others"] (aE Iz):=⟨rfl,rfl,rfl,by decide+kernel,rfl,by decide+kernel,by decide+kernel⟩
theorem aaH(F:bq K "row_of" "row_of" Iz f fd):
  aU P w K mg base bf 1 f fd ["first","others"] (aM 2 tR):=by
 refine F.ok Yl (λvs H Q E h=>h.1) (λcdv A outer s H vs Q E hr h=>?_);obtain⟨nb,ds,Φ,g,u,D,I⟩:=dM h;obtain⟨Y,os,rfl,hl,hok,q⟩:=I;refine⟨_,#[3,jN (K:=K) rfl (ic jR oH o8 oW bY #[0,@aC _ _ _ _ _ _ _ _ oR (@fc _ _ _ _ (@aa _ _ _ _ _ (pv 0) ai rfl)) (pv 1)])],?_⟩;refine Sv.dH g u D (ρ:=[.d false _, .d false _]) rfl ?_;clear D u;have i:(os.map cx).length=os.length:=ak ..;refine Sv.ret (Ev.join (Ev.str ⟨_,rfl,?_⟩));rfl';refine⟨by rw[i];show 1+_<=_;omega,Y::os,rfl,hok,q⟩
noncomputable def nD:Option Int->Str
 |none=> "-"
 |some n=>nS n
def uI(wd:Wo):Prop:=wd.length<=1000/\∀n,some n∈wd->n.natAbs<10^60
noncomputable def p6(wd:Wo):Str:=bA "word" (wd.map nD)
def Ng(h:uI wd):∀o∈wd,(nD o).length<=61/\32∉(nD o).cps.toList:=λo ho=>by
 cases o with
 |none=>exact⟨(by decide:(ag "-").length<=61),(by decide:32∉(ag "-").cps.toList)⟩
 |some n=>exact⟨(fY (h.2 n ho)).2.1,kT n ⟨⋯,⋯⟩⟩
theorem TY(h:uI wd):mE (sg 32) ("word"::wd.map nD)=true:=
 F4 (B:=61) (λy hy=>(aK.mp hy).elim (λe=>e▸⋯) λhy=>by
  obtain⟨o,hm,rfl⟩:=bH.mp hy;exact(Ng h o hm).1) (by have:=h.1;rw[cZ,ak];omega)
theorem Pa(h:uI wd):(p6 wd).length<=70000:=by
 unfold p6 bA;rw[join_le];have h1:=mZ (B:=61) (ys:=wd.map nD) λy hy=>by
  obtain⟨o,hm,rfl⟩:=bH.mp hy;exact(Ng h o hm).1
 have h2:=h.1;rw[ak] at h1⊢;have:(ag "word").length=4:=⋯
 omega
def IB:DF:=λds Φ=>∃(wd:Wo),ds=[bI wd]/\uI wd/\Φ true (.str (p6 wd))
def Wz:bW IB:=by
 intro ds Φ Ψ hm z;revert hm;walk_at "mo";exact λq=>z _ _ q
def aee:bz ["word"] ["word"] (aE BD):=⟨rfl,rfl,rfl,by decide+kernel,rfl,by decide+kernel,by decide+kernel⟩
theorem acH(F:bq K "word_row" "word_row" BD f fd)(k:Callee P w K mg base "row_of" 1 ["first","others"] (aM 2 tR))(eY:mg "str"=none):
    aU P w K mg base bf 2 f fd ["word"] (aM 1 IB):=by
  refine F.ok aee (λvs H Q E h=>h.1) (λcdv A outer s H vs Q E hr h=>?_);obtain⟨nb,ds,Φ,g,u,D,I⟩:=dM h;obtain⟨wd,rfl,hw,q⟩:=I;refine⟨_,#[3,#[1,k,(@aa _ _ _ _ _ bY #[0,eK (cy.of (show cM (aE BD) ["word"] _ ["letter"] [none]=true by decide+kernel)) (dh (K:=K) rfl (pv 0)) (λ_ _ _ _=>⟨#[2,(by show bT (["letter"]:List Str);decide+kernel)],eW,(@lC _ _ _ _ _ _ _ _ (@aX _ _ _ _ _ _ _ _ qG (pv 0) gc (aV _)) bY #[18,eY])⟩)] rfl)]],?_⟩;refine Sv.dH g u D (ρ:=[.d false _]) rfl ?_;clear D u;have hwl:=hw.1;have i:((wd.map nD).map cx).length=wd.length:=by rw[ak,ak]
  refine Sv.ret (Ev.cg RK ?_);refine Av.cons (Ev.str ?_);refine Av.cons (aq.ev (aq.e7 ⋯ rfl ?_));refine Ev.var rfl ⟨_,rfl,by rw[ak];omega,λv=>⟨true,λj ds=>ds=((wd.take j).map nD).map .str,rfl,?_,?_⟩⟩
  · rintro j d ds hd hl' rfl
    obtain⟨o,ho,rfl⟩:=cK hd;refine Gv.pD ?_;refine⟨by walk_at "wk",?_⟩;rfl';cases o with
    | none =>
      rfl';show _=cf _ (cf _ (dA (j+1) wd));rw[FX ho,bh,bh]
      rfl
    | some n =>
      rfl';refine Ev.k9 (Ev.var rfl ⟨n,rfl,hw.2 n (bP ho),λ_=>rfl,?_⟩);show _=cf _ (cf _ (dA (j+1) wd));rw[FX ho,bh,bh]
      rfl
  rintro ds hl' rfl;rw[ak,dQ];refine Av.nil ⟨rfl,"word",wd.map nD,rfl,by rw[ak];omega,TY hw,q⟩
def Ih:DF:=λds Φ=>∃(x:Str) (j n:Int),ds=[.str x, .int j]/\x.length<=640/\rX x j=some n/\Φ true (.int n)
def Oy:bW Ih:=by
 intro ds Φ Ψ hm z;revert hm;walk_at "mo";exact λq=>z _ _ q
def PK:bz ["text","most","figures"] ["text","most"] (aE yJ):=⟨rfl,rfl,rfl,by decide+kernel,rfl,by decide+kernel,by decide+kernel⟩
theorem GQ(F:bq K "read_whole" "read_whole" yJ f fd)(nJ:mg "int"=none)(bZ:mg "len"=none)(nF:mg "all"=none){T:Tok}(G7:mg "FIGURES"=some (.str "0123456789" T)):
    aU P w K mg base bf 1 f fd ["text","most"] (aM 2 Ih):=by
  refine F.ok PK (λvs H Q E h=>h.1) (λcdv A outer s H vs Q E hr h=>?_);obtain⟨nb,ds,Φ,g,u,D,I⟩:=dM h;obtain⟨x,j,U,rfl,hl,hv,q⟩:=I;refine⟨_,(@ay _ _ _ _ _ #[7,PK.nd,@lC _ _ _ _ _ _ _ _ (@qh _ (K) _ _ rfl (jN (K:=K) rfl (ic jR Si Rr LH (pv 0) (@aa _ _ _ _ _ bY ai rfl))) (λ_=>rfl)) (@lX _ _ _ _ _ _ _ _ _ (Ie) Ya (pv 0) (@lD _ _ _ aj) lR) (pv 0)] #[5,@eG _ _ _ _ _ _ _ _ (PW.pt (mL (@aX _ _ _ _ _ _ _ _ nI (@eN _ _ _ _ _ _ _ _ (Cd) SJ rfl bZ iN (@aa _ _ _ _ _ (pv 2) ai rfl) ⋯ ⋯ (by rfl) (by rfl)) aj (aV _)) (mL (@aX _ _ _ _ _ _ _ _ rq (@eN _ _ _ _ _ _ _ _ (Cd) SJ rfl bZ iN (@aa _ _ _ _ _ (pv 2) ai rfl) ⋯ ⋯ (by rfl) (by rfl)) (pv 1) (aV _)) (uB (@zL _ _ _ _ (@qh _ (K) _ _ rfl (@eN _ _ _ _ _ _ _ _ (uA K) (GR rfl) rfl nF FW (@aa _ _ _ _ _ (eK (cy.of (show cM (aE yJ) ["text","most","figures"] _ ["sign"] [none]=true by decide+kernel)) (Ww (pv 2)) (λ_ _ _ _=>⟨#[2,(by show bT (["sign"]:List Str);decide+kernel)],eW,(@oZ _ _ _ _ _ _ _ _ Vv (pv 0) (uy (v:= .str "0123456789") rfl G7 ⟨_,rfl⟩) (by with_unfolding_all rfl))⟩)) ai rfl) ⋯ ⋯ (by rfl) (by rfl)) (λ_=>rfl))))))) (@aF _ _ _ sE) eH,@eG _ _ _ _ _ _ _ _ (PW.pt (mQ (@qh _ (K) _ _ rfl (jN (K:=K) rfl (ic jR Si Rr LH (pv 2) (@aa _ _ _ _ _ bY ai rfl))) (λ_=>rfl)) (mh (@aX _ _ _ _ _ _ _ _ j9 (pv 0) bY (aV _))))) (@aF _ _ _ sE) eH,@gG _ _ _ _ _ _ _ _ (BW) Wq rfl nJ JS (@aa _ _ _ _ _ (pv 0) ai rfl) ⋯ ⋯ (by rfl) (by rfl)]),?_⟩;refine Sv.dH g u D (ρ:=[.d false _, .d false _, .no]) rfl ?_;clear D u;have hsz:x.length<=sizeLine:=eu hl ⋯;have hcl:x.cps.toList.length=x.length:=by simp[er]
  refine Sv.seq ?_;refine Sv.rE (λC=>∃(y:Str) (f:Bool),y.cps.toList=ig x/\C=[.d false (.str x), .d false (.int j), .d f (.str y)]) ?_ ?_
  · refine Sv.asg (Ev.ve (Tv.z4 ?_))
    refine Ev.starts (Ev.var rfl ⟨x,rfl,Ev.str ⟨_,rfl,_,rfl,?_⟩⟩);rw[show(ag "-")=(⟨#[45]⟩:Str) by decide,Sy];by_cases c:x.cps.toList.head?=some 45
    · rw[if_pos (decide_eq_true c)]
      refine Ev.slS (Ev.var rfl ⟨x,rfl,hsz,Ov.some (Ev.int ⟨_,rfl,Ov.none ?_⟩)⟩);refine Gv.name ?_;refine⟨_,_,?_,rfl⟩;unfold ig;rw[N1 ⋯,if_pos c]
      rfl
    · rw[if_neg (by simpa using c)]
      refine Ev.var rfl ?_;refine Gv.name ?_;refine⟨x,_,?_,rfl⟩;unfold ig;rw[if_neg c]
  rintro ρ ⟨y,fy,hy,rfl⟩;have p:(ig x).length=y.length:=by rw[<-hy];simp[er]
  have V:y.cps.size=y.length:=rfl;have hfl:(ig x).length<=x.length:=by
    rw[<-hcl];unfold ig;split;· rw[rF];omega
    · exact aH _
  have S:y.length<=sizeLine:=∅
  have J:¬oN x j->False:=λh=>by rw[PL h] at hv;cases hv
  have G:∀{P:Prop},¬oN x j->P:=λh=>(J h).elim;refine Sv.seq ?_;refine Sv.pC ?_;refine Tv.or ?_;refine Tv.test ?_;refine Ev.J8 ?_;refine Ev.Tj (Ev.var rfl ⟨y,rfl,S,_,rfl,Ev.int ⟨_,rfl,_,rfl,?_⟩⟩);by_cases c1:(y.length:Int)<1
  · rw[if_pos (decide_eq_true c1),if_pos rfl]
    exact G λh=>h.1 (pF.mp ∅)
  rw[if_neg (by simpa using c1)];refine Tv.or ?_;refine Tv.test ?_;refine Ev.J8 ?_;refine Ev.Tj (Ev.var rfl ⟨y,rfl,S,_,rfl,Ev.var rfl ⟨_,rfl,_,rfl,?_⟩⟩);by_cases c2:j<(y.length:Int)
  · rw[if_pos (decide_eq_true c2),if_pos rfl]
    exact G λh=>by have:=h.2.1;omega
  rw[if_neg (by simpa using c2)];refine Tv.not ?_;refine Tv.z4 ?_;refine Ev.all ?_;refine aq.ev (aq.UQ ⋯ rfl ?_);refine Ev.var rfl ⟨y,rfl,∅,?_⟩;refine iH.rel lr true (λi b=>∃c,y.cps[i]?=some c/\b=decide (48<=c/\c<=57)) ?_ λbs M t=>?_
  · rintro i d ⟨c,hc,rfl⟩
    refine Gv.name ?_;refine⟨by walk_at "wk",?_⟩;refine Ev.A0 (Ev.var rfl ⟨_,rfl,Ev.str ⟨_,rfl,?_⟩⟩);refine⟨λ_=>rfl,_,rfl,c,hc,?_⟩;rw[vq];exact Iy c
  refine⟨bs,rfl,_,rfl,?_⟩;have m:bs.all id=true↔lN (ig x):=by
    rw[lU,<-hy];constructor
    · intro h c hc
      obtain⟨i,hi⟩:=jS hc;have hil:=(bV.mp hi).1;have R:i<bs.length:=by rw[M];simpa using hil
      obtain⟨c',l,e⟩:=t i _ (aS R);have:=h _ (fU R);rw[e] at this;rw[jK] at hi;rw[hi] at l;cases l;exact of_decide_eq_true this
    · intro h b hb
      obtain⟨i,hi⟩:=jS hb;obtain⟨c,hc,e⟩:=t i b hi;rw[e];exact decide_eq_true (h c (bP (by rw[jK];exact hc)))
  by_cases L:lN (ig x)
  case neg=>
    have:bs.all id=false:=tE.mpr λh=>L (m.mp h);rw[this,if_pos (by rfl)];exact G λh=>L h.2.2.1
  rw[m.mpr L,if_neg ⋯];refine Sv.next ?_
  refine Sv.seq ?_;refine Sv.pC ?_;refine Tv.and ?_;refine Tv.z4 ?_;refine Ev.starts (Ev.var rfl ⟨y,rfl,Ev.str ⟨_,rfl,_,rfl,?_⟩⟩);rw[show(ag "0")=(⟨#[48]⟩:Str) by decide,Sy,hy];have k:oN x j->Sv {B:=none,H0:=H,A:=nb} [.d false (.str x), .d false (.int j), .d fy (.str y)] (nZ (gv BW (bN (dD 0) cI))) {nx:=λ_=>Φ true .none,rt:=Φ}:=λh=>by
    obtain⟨n,hn⟩:=GW h hl;rw[GK h hn] at hv;cases hv;refine Sv.ret (Ev.Wx (Ev.var rfl ⟨x,U,rfl,hl,hn,q⟩))
  by_cases o:(ig x).head?=some 48
  · rw[if_pos (decide_eq_true o)]
    refine Tv.test (Ev.ne (Ev.var rfl (Ev.str ⟨_, .sd _ _,_,rfl,?_⟩)));by_cases N:x=⟨#[48]⟩
    · rw[decide_eq_true N,if_neg ⋯]
      refine Sv.next ?_
      refine k ⟨λz=>?_,∅,L,λz=>?_⟩;· rw[z] at o;cases o
      · have:=z.2
        rw[N] at this;exact absurd this ⋯
    · rw[decide_eq_false N,if_pos (by rfl)]
      refine G λh=>h.2.2.2 ⟨o,?_⟩;refine qJ λz=>N (jy ?_);show x.cps.toList=[48];have h1:=h.1;unfold ig at o h1;cases e:x.cps.toList with
      |nil=>rw[e] at o;simp at o
      | cons a r =>
        have hr:r=[]:=pF.mp (by rw[e] at hcl;simp at hcl;omega);subst hr;rw[e] at o h1;by_cases O:a=45;· subst O;simp at h1
        · simp[O] at o
          rw[o]
  · rw[if_neg (by simpa using o),if_neg ⋯]
    refine Sv.next ?_
    exact k ⟨λz=>c1 (by rw[z] at p;simp at p;omega),∅,L,λz=>o z.1⟩
def uR:DF:=λds Φ=>∃(n:Int),ds=[.str (nS n)]/\n.natAbs<10^60/\Φ true (.int n)
def C3:bW uR:=by
 intro ds Φ Ψ hm z;revert hm;walk_at "mo";exact λq=>z _ _ q
def RE:bz ["text"] ["text"] (aE DC):=⟨rfl,rfl,rfl,by decide+kernel,rfl,by decide+kernel,by decide+kernel⟩
theorem P7(F:bq K "read_number" "read_number" DC f fd)(a:Callee P w K mg base "read_whole" 1 ["text","most"] (aM 2 Ih)){b:Tok}(GB:mg "MOST_FIGURES"=some (.int 60 b)):
  aU P w K mg base bf 2 f fd ["text"] (aM 1 uR):=by
 refine F.ok RE (λvs H Q E h=>h.1) (λcdv A outer s H vs Q E hr h=>?_);obtain⟨nb,ds,Φ,g,u,D,I⟩:=dM h;obtain⟨n,rfl,hn,q⟩:=I;refine⟨_,#[3,#[8,a,#[0,uy (v:= .int 60) rfl GB ⟨_,rfl⟩]]],?_⟩;refine Sv.dH g u D (ρ:=[.d false _]) rfl ?_;clear D u;obtain⟨hv,hl,_⟩:=fY hn;rfl';refine Ev.cg Oy ?_;rfl';exact⟨rfl,nS n,60,n,rfl,∅,hv,q⟩
def v8:DF:=λds Φ=>∃(f:Str) (os:List Str),ds=[.str (bA f os), .str f]/\(bA f os).length+2<=sizeLine/\os.length<=1000/\32∉f.cps.toList/\(∀o∈os,32∉o.cps.toList)/\Φ true (.list (os.map .str))
def EY:bW v8:=by
 intro ds Φ Ψ hm z;revert hm;walk_at "mo";exact λq=>z _ _ q
def Rl:bz ["row","first","parts"] ["row","first"] (aE DB):=⟨rfl,rfl,rfl,by decide+kernel,rfl,by decide+kernel,by decide+kernel⟩
theorem ZG(F:bq K "parts_of" "parts_of" DB f fd):
  aU P w K mg base bf 1 f fd ["row","first"] (aM 2 v8):=by
 refine F.ok Rl (λvs H Q E h=>h.1) (λcdv A outer s H vs Q E hr h=>?_);obtain⟨nb,ds,Φ,g,u,D,I⟩:=dM h;obtain⟨Y,os,rfl,hl,X,hf,ho,q⟩:=I;refine⟨_,#[5,#[7,Rl.nd,jN (K:=K) rfl (ic jR zg Bo Ao (pv 0) (@aa _ _ _ _ _ bY ai rfl))],@eG _ _ _ _ _ _ _ _ (@aX _ _ _ _ _ _ _ _ j9 (@aD _ _ _ _ _ _ (cB K) bF (pv 2) aj (λ_ _=>rfl)) (pv 1) (aV _)) (@aF _ _ _ sE) eH,@lX _ _ _ _ _ _ _ _ _ (jZ K) nk (pv 2) (@lD _ _ _ aj) lR],?_⟩;refine Sv.dH g u D (ρ:=[.d false _, .d false _, .no]) rfl ?_;clear D u;obtain⟨Z,S⟩:=xE (x:=bA Y os) (c:=32) hl;have i6:=VU hf ho;rw[i6] at S;refine Sv.seq (Sv.asg (aq.ev (aq.split ?_)));refine Ev.var rfl ⟨_,rfl,Ev.str ⟨_,rfl,?_⟩⟩;rw[show(ag " ")=sg 32 by decide,i6];refine⟨Z,S,?_⟩;refine Gv.name ?_;rfl';refine⟨.str Y,j6 ⋯ rfl,Ev.var rfl ⟨true, .ss _,_,rfl,?_⟩⟩;rw[if_neg ⋯];rfl';rw[Ey ⋯ (by simp;omega)];exact q
def FF:DF:=λds Φ=>∃(f:Str) (ns:List Int),ds=[.str (bA f (ns.map nS)), .str f]/\(bA f (ns.map nS)).length+2<=sizeLine/\ns.length<=1000/\32∉f.cps.toList/\(∀n∈ns,n.natAbs<10^60)/\Φ true (.list (ns.map .int))
def Vx:bW FF:=by
 intro ds Φ Ψ hm z;revert hm;walk_at "mo";exact λq=>z _ _ q
def ag2:bz ["row","first"] ["row","first"] (aE xq):=⟨rfl,rfl,rfl,by decide+kernel,rfl,by decide+kernel,by decide+kernel⟩
theorem Vz(F:bq K "numbers_of" "numbers_of" xq f fd)(b:Callee P w K mg base "read_number" 2 ["text"] (aM 1 uR))(e:Callee P w K mg base "parts_of" 1 ["row","first"] (aM 2 v8)):
  aU P w K mg base bf 3 f fd ["row","first"] (aM 2 FF):=by
 refine F.ok ag2 (λvs H Q E h=>h.1) (λcdv A outer s H vs Q E hr h=>?_);obtain⟨nb,ds,Φ,g,u,D,I⟩:=dM h;obtain⟨Y,ns,rfl,hl,c,hf,hn,q⟩:=I;refine⟨_,#[3,eK (cy.of (show cM (aE xq) ["row","first"] _ ["part"] [none]=true by decide+kernel)) (dh (K:=K) rfl #[1,e,@aa _ _ _ _ _ (pv 0) (@aa _ _ _ _ _ (pv 1) ai rfl) rfl]) (λ_ _ _ _=>⟨#[2,(by show bT (["part"]:List Str);decide+kernel)],eW,#[14,b]⟩)],?_⟩;refine Sv.dH g u D (ρ:=[.d false _, .d false _]) rfl ?_;clear D u;refine Sv.ret (aq.ev (aq.e7 ⋯ rfl ?_));refine Ev.cg EY ?_;rfl';refine⟨rfl,Y,ns.map nS,rfl,hl,by rw[ak];omega,hf,λo ho=>?_,?_⟩
 .obtain⟨n,_,rfl⟩:=bH.mp ho;exact kT n ⟨⋯,⋯⟩
 refine⟨_,rfl,by rw[ak,ak];omega,λv=>⟨true,λj ds=>ds=(ns.take j).map .int,rfl,?_,?_⟩⟩
 .rintro j d ds hd hl' rfl;obtain⟨o,ho,rfl⟩:=cK hd;obtain⟨n,a,rfl⟩:=cK ho;refine Gv.name ?_;refine⟨by walk_at "wk",?_⟩;rfl';refine Ev.cg C3 ?_;rfl';refine⟨rfl,n,rfl,hn n (bP a),λ_=>rfl,?_⟩;show _=cf _ (dA (j+1) ns);rw[FX a,bh]
  rfl
 .rintro ds hl' rfl;rw[ak,ak,dQ,wu];exact q
def DX:DF:=λds Φ=>∃pr:Int×Int,ds=[.str (jv pr)]/\zQ pr/\Φ true (F1 pr)
def afQ:bW DX:=by
 intro ds Φ Ψ hm z;revert hm;walk_at "mo";exact λq=>z _ _ q
def P6:bz ["part","numbers"] ["part"] (aE xP):=⟨rfl,rfl,rfl,by decide+kernel,rfl,by decide+kernel,by decide+kernel⟩
theorem ZO(F:bq K "read_pair" "read_pair" xP f fd)(b:Callee P w K mg base "read_number" 2 ["text"] (aM 1 uR))(bZ:mg "len"=none):
    aU P w K mg base bf 3 f fd ["part"] (aM 1 DX):=by
  refine F.ok P6 (λvs H Q E h=>h.1) (λcdv A outer s H vs Q E hr h=>?_);obtain⟨nb,ds,Φ,g,u,D,I⟩:=dM h;obtain⟨pr,rfl,hok,q⟩:=I;refine⟨_,#[13,nK (i:=1) P6.nd rfl rfl (cy.of (show cM (aE xP) ["part","numbers"] _ ["side"] [none]=true by decide+kernel)) (dh (K:=K) rfl (jN (K:=K) rfl (ic jR zg Bo Ao (pv 0) (@aa _ _ _ _ _ bY ai rfl)))) (λ_ _ _ _=>⟨#[2,(by show bT (["side"]:List Str);decide+kernel)],eW,#[14,b]⟩),@eG _ _ _ _ _ _ _ _ (@aX _ _ _ _ _ _ _ _ j9 #[12,bZ,@aa _ _ _ _ _ (pv 1) ai rfl] aj (aV _)) (@aF _ _ _ sE) eH,#[4,@aD _ _ _ _ _ _ (cB K) bF (pv 1) aj (λ_ _=>rfl),@aD _ _ _ _ _ _ (cB K) bF (pv 1) aj (λ_ _=>rfl)]],?_⟩;refine Sv.dH g u D (ρ:=[.d false _, .no]) rfl ?_;clear D u;have hl:=(Jh hok).1;have i6:=w4 (c:=58) (A:=[nS pr.1,nS pr.2]) (by simp) λa ha=>by
    rcases aK.mp ha with rfl|ha
    · exact kT _ ⟨⋯,⋯⟩
    · rw[aY.mp ha]
      exact kT _ ⟨⋯,⋯⟩
  rw[<-Nk] at i6
  obtain ⟨Z,   S⟩   := xE       (x := jv  pr) (c := 58) (by have h4 : 8000000 <= sizeLine := by decide
                                                            omega)
  rw[i6] at S;refine Sv.seq ?_;refine Sv.setC (aq.ev (aq.e7 ⋯ rfl ?_));refine aq.ev (aq.split ?_);refine Ev.var rfl ⟨_,rfl,Ev.str ⟨_,rfl,?_⟩⟩;rw[show(ag ":")=sg 58 by decide,i6];refine⟨Z,S,?_⟩;refine⟨_,rfl,(by decide:2<=10000),λv=>⟨true,λj ds=>ds=([pr.1,pr.2].take j).map .int,rfl,?_,?_⟩⟩
  · rintro j d ds hd hl' rfl
    obtain⟨s,hs,rfl⟩:=cK hd;obtain⟨n,hn,rfl⟩:=cK (xs:=[pr.1,pr.2]) (φ:=nS) hs;have hno:n.natAbs<10^60:=by
      have:=bP hn;simp at this;rcases this with rfl|rfl
      · exact hok.1
      · exact hok.2
    refine Gv.name ?_;refine⟨by walk_at "wk",?_⟩;rfl';refine Ev.cg C3 ?_;rfl';refine⟨rfl,n,rfl,hno,λ_=>rfl,?_⟩;show _=cf _ (dA (j+1) _);rw[FX hn,bh]
    rfl
  rintro ds hl' rfl;rfl';exact q
def DL:DF:=λds Φ=>∃prs:ao,ds=[.str (qf prs)]/\JP prs/\Φ true (dW prs)
def ZR:bW DL:=by
 intro ds Φ Ψ hm z;revert hm;walk_at "mo";exact λq=>z _ _ q
theorem ON(h:JP prs):(qf prs).length<=30000:=by
 unfold qf bA;rw[join_le];have h1:=mZ (B:=123) (ys:=prs.map jv) λy hy=>by
  obtain⟨o,hm,rfl⟩:=bH.mp hy;exact(Jh (h.2 o hm)).1
 have h2:=h.1;rw[ak] at h1⊢;have:(ag "check").length=5:=⋯
 omega
def Ts:bz ["row"] ["row"] (aE Ca):=⟨rfl,rfl,rfl,by decide+kernel,rfl,by decide+kernel,by decide+kernel⟩
theorem agO(F:bq K "read_check" "read_check" Ca f fd)(a:Callee P w K mg base "read_pair" 3 ["part"] (aM 1 DX))(e:Callee P w K mg base "parts_of" 1 ["row","first"] (aM 2 v8)):
  aU P w K mg base bf 4 f fd ["row"] (aM 1 DL):=by
 refine F.ok Ts (λvs H Q E h=>h.1) (λcdv A outer s H vs Q E hr h=>?_);obtain⟨nb,ds,Φ,g,u,D,I⟩:=dM h;obtain⟨prs,rfl,hok,q⟩:=I;refine⟨_,#[3,eK (cy.of (show cM (aE Ca) ["row"] _ ["part"] [none]=true by decide+kernel)) (dh (K:=K) rfl #[8,e,@aa _ _ _ _ _ bY ai rfl]) (λ_ _ _ _=>⟨#[2,(by show bT (["part"]:List Str);decide+kernel)],eW,#[14,a]⟩)],?_⟩;refine Sv.dH g u D (ρ:=[.d false _]) rfl ?_;clear D u;have hl:=ON hok;have h2:=hok.1;have h4:8000000<=sizeLine:=⋯
 refine Sv.ret (aq.ev (aq.e7 ⋯ rfl ?_));refine Ev.cg EY ?_;rfl';refine⟨rfl,"check",prs.map jv,rfl,by unfold qf at hl;omega,by rw[ak];omega,⋯,λo ho=>?_,?_⟩
 .obtain⟨pr,_,rfl⟩:=bH.mp ho;exact OD pr ⟨⋯,⋯,⋯⟩
 refine⟨_,rfl,by rw[ak,ak];omega,λv=>⟨true,λj ds=>ds=(prs.take j).map F1,rfl,?_,?_⟩⟩
 .rintro j d ds hd hl' rfl;obtain⟨s,hs,rfl⟩:=cK hd;obtain⟨pr,hp,rfl⟩:=cK hs;refine Gv.name ?_;refine⟨by walk_at "wk",?_⟩;rfl';refine Ev.cg afQ ?_;rfl';refine⟨rfl,pr,rfl,hok.2 pr (bP hp),λ_=>rfl,?_⟩;show _=cf _ (dA (j+1) prs);rw[FX hp,bh]
  rfl
 .rintro ds hl' rfl;rw[ak,ak,dQ,wu];exact q
def AE:SF:=λds Φ=>∃(p n:Int) (cs:List ao),ds=[.str (nY p n cs)]/\sL p n cs/\∀L c a0 bs,uS L c a0 bs (.int p) (.int n) (cs.map λprs=>prs.map F1)->Φ (.ref c) L
def acr:t6 AE:=by
 intro ds Φ Ψ hm z;revert hm;walk_at "mo";exact λq=>λL c a0 bs k=>z _ _ (q L c a0 bs k)
theorem Ht{n:Int}(hp:p.natAbs<10^60)(hn:n.natAbs<10^60):(bA "net" ([p,n].map nS)).length<=200:=by
 have a:=(fY hp).2.1;have b:=(fY hn).2.1;unfold bA;rw[aZ,aZ,jU,join_le];have:(ag "net").length=3:=⋯
 simp[jO];omega
theorem N0{n:Int}(h:sL p n cs):∀y∈nu p n cs,y.length<=30000:=λy hy=>by
 rcases aK.mp hy with rfl|hy
 .have:=Ht h.1 h.2.1;omega
 .obtain⟨prs,hm,rfl⟩:=bH.mp hy;exact ON (h.2.2.2 prs hm)
def sP{f:Str}{os:List Str}{c:Nat}(hc:c≠32)(hf:c∉f.cps.toList)(ho:∀o∈os,c∉o.cps.toList):c∉(bA f os).cps.toList:=by
 unfold bA;rw[join_eq,F0];intro z;rcases fO.mp z with z|z
 .exact hf z
 .obtain⟨l,hl,hz⟩:=rh.mp z;obtain⟨o,hm,rfl⟩:=bH.mp hl;rcases aK.mp hz with h|h
  .exact hc h
  .exact ho o hm h
def Y6{n:Int}:∀y∈nu p n cs,10∉y.cps.toList:=λy hy=>by
 rcases aK.mp hy with rfl|hy
 .refine sP ⋯ ⋯ λo ho=>?_;obtain⟨m,_,rfl⟩:=bH.mp ho;exact kT m ⟨⋯,⋯⟩
 .obtain⟨prs,hm,rfl⟩:=bH.mp hy;refine sP ⋯ ⋯ λo ho=>?_;obtain⟨m,_,rfl⟩:=bH.mp ho;exact OD m ⟨⋯,⋯,⋯⟩
theorem ahA{n:Int}(h:sL p n cs):(nY p n cs).length<=12100000:=by
 unfold nY nu;rw[join_le];have h1:=Ht h.1 h.2.1;have h2:=mZ (B:=30000) (ys:=cs.map qf) λy hy=>N0 h y (cF _ hy);have h3:=h.2.2.1;rw[ak] at h2⊢;have:cs.length*30000<=400*30000:=oA _ h3;omega
def Jt:bz ["text","rows","head"] ["text"] (aE Be):=⟨rfl,rfl,rfl,by decide+kernel,rfl,by decide+kernel,by decide+kernel⟩
theorem Zk(F:bq K "read_net" "read_net" Be f fd)(e:Callee P w K mg base "numbers_of" 3 ["row","first"] (aM 2 FF))(b:Callee P w K mg base "read_check" 4 ["row"] (aM 1 DL))(bZ:mg "len"=none):
  aU P w K mg base bf 5 f fd ["text"] (F6 1 AE):=by
 refine F.ok Jt (λvs H Q E h=>h.1) (λcdv A outer s H vs Q E hr h=>?_);obtain⟨_,nb,ds,g,u,I⟩:=h;obtain⟨Φ,D,I⟩:∃Φ:V->fF->Prop,(∀v L H',Φ v L->cT H H'->Br H H' L->Q v H')/\AE ds Φ:=⟨_,λv L H' q=>q H',I⟩;obtain⟨p,n,cs,rfl,hok,q⟩:=I;refine⟨_,(@ay _ _ _ _ _ #[17,Jt.nd,jN (K:=K) rfl (ic jR zg Bo Ao (pv 0) (@aa _ _ _ _ _ bY ai rfl))] #[13,#[7,Jt.nd,#[1,e,@aa _ _ _ _ _ (@aD _ _ _ _ _ _ (cB K) bF (pv 1) aj (λ_ _=>rfl)) (@aa _ _ _ _ _ bY ai rfl) rfl]],@eG _ _ _ _ _ _ _ _ (@aX _ _ _ _ _ _ _ _ j9 (@eN _ _ _ _ _ _ _ _ (iP K) jM rfl bZ iN (@aa _ _ _ _ _ (pv 2) ai rfl) ⋯ ⋯ (by rfl) (by rfl)) aj (aV _)) (@aF _ _ _ sE) eH,(@aa _ _ _ _ _ (@aD _ _ _ _ _ _ (cB K) bF (pv 2) aj (λ_ _=>rfl)) #[4,@aD _ _ _ _ _ _ (cB K) bF (pv 2) aj (λ_ _=>rfl),eK (cy.of (show cM (aE Be) ["text","rows","head"] _ ["row"] [none]=true by decide+kernel)) (dh (K:=K) rfl (@lX _ _ _ _ _ _ _ _ _ (jZ K) nk (pv 1) (@lD _ _ _ aj) lR)) (λ_ _ _ _=>⟨#[2,(by show bT (["row"]:List Str);decide+kernel)],eW,#[14,b]⟩)] rfl)]),?_⟩;refine Sv.Uk g u D (ρ:=[.d false _, .no, .no]) rfl ?_;clear D u;have hsl:=ahA hok;have h4:12200000<=sizeLine:=⋯
 have hcl:=hok.2.2.1;obtain⟨Z,S⟩:=xE (x:=nY p n cs) (c:=10) ∅;have i6:=w4 (c:=10) (A:=nu p n cs) (by unfold nu;simp) Y6;change hM (nY p n cs) (sg 10)=_ at i6;rw[i6] at S;refine Sv.seq (Sv.asg (aq.ev (aq.split ?_)));refine Ev.var rfl ⟨_,rfl,Ev.str ⟨_,rfl,?_⟩⟩;rw[show(ag "\n")=sg 10 by decide,i6];refine⟨Z,S,?_⟩;refine Gv.name ?_;have O:bU ((nu p n cs).map cx) 0=some (.str (bA "net" ([p,n].map nS))):=j6 ⋯ rfl;refine Sv.seq (Sv.asg (Ev.cg Vx ?_));rfl'
 refine⟨rfl,"net",[p,n],rfl,by have:=Ht hok.1 hok.2.1;omega,by show 2<=1000;decide,⋯,λm hm=>by
  simp at hm;rcases hm with rfl|rfl
  .exact hok.1
  .exact hok.2.1,?_⟩
 refine Gv.name ?_;generalize W:(nZ _:TS)=tl;rfl';subst W;refine Sv.Yo rfl ?_;rfl';refine⟨rfl,?_⟩;rfl';refine⟨rfl,Au.e7 ⋯ rfl ?_⟩;rfl';have a:iy ((nu p n cs).map cx) (some 1) none=(cs.map qf).map .str:=by
  rw[Ey ⋯ (by unfold nu;simp;omega)]
  rfl
 rw[a];refine⟨by rw[ak,ak];omega,λv=>⟨λi bC=>bC=(cs.take i).map λprs=>prs.map F1,rfl,?_,?_⟩⟩
 .rintro i d bC hd hl rfl;obtain⟨s,hs,rfl⟩:=cK hd;obtain⟨prs,hp,rfl⟩:=cK hs;refine Gv.name ?_;refine⟨by walk_at "wk",?_⟩;refine jH.cg ZR ?_;rfl';refine⟨rfl,prs,rfl,hok.2.2.2 prs (bP hp),rfl,_,rfl,?_⟩;show _=cf _ (dA (i+1) cs);rw[FX hp,bh]
  rfl
 .rintro bC hl rfl;rw[ak,ak,dQ];exact q
noncomputable def mY:Option Int->Str
 |none=> "-"
 |some n=>nS n
def HZ:DF:=λds Φ=>∃(wd:Wo),ds=[.str (bA "word" (wd.map mY))]/\wd.length<=1000/\(∀n,some n∈wd->n.natAbs<10^60)/\Φ true (bI wd)
def HQ:bW HZ:=by
 intro ds Φ Ψ hm z;revert hm;walk_at "mo";exact λq=>z _ _ q
def Oh(h:∀n,some n∈wd->n.natAbs<10^60):∀o∈wd,(mY o).length<=61/\32∉(mY o).cps.toList:=λo ho=>by
 cases o with
 |none=>exact⟨(by decide:(ag "-").length<=61),(by decide:32∉(ag "-").cps.toList)⟩
 |some n=>exact⟨(fY (h n ho)).2.1,kT n ⟨⋯,⋯⟩⟩
def Ue{n:Int}(h:n.natAbs<10^60):nS n≠ag "-":=λe=>by
 have h1:=(fY h).1;rw[e] at h1;have h2:¬oN (ag "-") 60:=λz=>z.1 ⋯;rw[PL h2] at h1;cases h1
def agH:bz ["text"] ["text"] (aE ya):=⟨rfl,rfl,rfl,by decide+kernel,rfl,by decide+kernel,by decide+kernel⟩
theorem Wn(F:bq K "read_word" "read_word" ya f fd)(b:Callee P w K mg base "read_number" 2 ["text"] (aM 1 uR))(e:Callee P w K mg base "parts_of" 1 ["row","first"] (aM 2 v8)):
    aU P w K mg base bf 3 f fd ["text"] (aM 1 HZ):=by
  refine F.ok agH (λvs H Q E h=>h.1) (λcdv A outer s H vs Q E hr h=>?_);obtain⟨nb,ds,Φ,g,u,D,I⟩:=dM h;obtain⟨wd,rfl,hwl,c,q⟩:=I;refine⟨_,#[3,eK (cy.of (show cM (aE ya) ["text"] _ ["part"] [none]=true by decide+kernel)) (dh (K:=K) rfl #[8,e,@aa _ _ _ _ _ bY ai rfl]) (λ_ _ _ _=>⟨#[2,(by show bT (["part"]:List Str);decide+kernel)],eW,(@lC _ _ _ _ _ _ _ _ (@aX _ _ _ _ _ _ _ _ jb (pv 0) bY (aV _)) gc #[14,b])⟩)],?_⟩;refine Sv.dH g u D (ρ:=[.d false _]) rfl ?_;clear D u;have hlen:(bA "word" (wd.map mY)).length+2<=sizeLine:=by
    unfold bA;rw[join_le];have h1:=mZ (B:=61) (ys:=wd.map mY) λy hy=>by
      obtain⟨o,hm,rfl⟩:=bH.mp hy;exact(Oh c o hm).1
    rw[ak] at h1⊢;have:(ag "word").length=4:=⋯
    have h3:70000<=sizeLine:=⋯
    omega
  refine Sv.ret (aq.ev (aq.e7 ⋯ rfl ?_));refine Ev.cg EY ?_;rfl';refine⟨rfl,"word",wd.map mY,rfl,hlen,by rw[ak];omega,⋯,λo ho=>?_,?_⟩
  · obtain⟨o,hm,rfl⟩:=bH.mp ho
    exact(Oh c o hm).2
  refine⟨_,rfl,by rw[ak,ak];omega,λv=>⟨true,λj ds=>ds=(wd.take j).map bJ,rfl,?_,?_⟩⟩
  · rintro j d ds hd hl' rfl
    obtain⟨s,hs,rfl⟩:=cK hd;obtain⟨o,ho,rfl⟩:=cK hs;have hts:=FX ho;refine Gv.name ?_;refine⟨by walk_at "wk",?_⟩;refine Tv.oG ?_;refine Ev.ve (Tv.test (Ev.eq (Ev.var rfl (Ev.str ⟨_, .sd _ _,_,rfl,?_⟩))));cases o with
    | none =>
      rw[if_pos (decide_eq_true (show mY none=ag "-" from rfl))];rfl';show _=cf _ (dA (j+1) wd);rw[hts,bh]
      rfl
    | some n =>
      have hn:=c n (bP ho);rw[if_neg (by rw[decide_eq_false (show mY (some n)≠ag "-" from Ue hn)];decide)];refine Ev.cg C3 ?_;rfl';refine⟨rfl,n,rfl,hn,λ_=>rfl,?_⟩;show _=cf _ (dA (j+1) wd);rw[hts,bh]
      rfl
  · rintro ds hl' rfl
    rw[ak,ak,dQ,wu];exact q
def zS:SF:=λds Φ=>∃(wd:Wo) (M:List (List bK)),ds=[bI wd, .list (M.map eB)]/\wd.length<=10000/\M.flatten.length<=10000/\∀c a0 a1,c≠a0->c≠a1->a0≠a1->Φ (.ref c) (nB c a0 a1 M.flatten (gh wd))
def abJ:t6 zS:=by
 intro ds Φ Ψ hm z;revert hm;walk_at "mo";exact λq=>λc a0 a1 x y w=>z _ _ (q c a0 a1 x y w)
def EK:bz ["word","rounds","mends","found"] ["word","rounds"] (aE ET):=⟨rfl,rfl,rfl,by decide+kernel,rfl,by decide+kernel,by decide+kernel⟩
theorem Pt(F:bq K "paper_from" "paper_from" ET f fd)(a:Callee P w K mg base "lost_of" 1 ["word"] (aM 1 J3)):
  aU P w K mg base bf 2 f fd ["word","rounds"] (wC 2 zS):=by
 refine F.ok EK (λvs H Q E h=>h.1) (λcdv A outer s H vs Q E hr h=>?_);obtain⟨_,nb,ds,g,u,I⟩:=h;obtain⟨Φ,D,I⟩:∃Φ:V->fF->Prop,(∀v L H',Φ v L->cT H H'->vC nb H H' L->Q v H')/\zS ds Φ:=⟨_,λv L H' q=>q H',I⟩;obtain⟨wd,M,rfl,hl,hf,q⟩:=I;refine⟨_,#[13,#[7,EK.nd,@fc _ _ _ _ ai],@iZ _ _ _ _ _ _ _ _ iw rfl (dh (K:=K) rfl (pv 1)) (aJ (i:=3) EK.nd rfl (cm rfl)) (@aF _ _ _ (@uN _ _ _ _ (ic um PySem.F.slot_list_extend PySem.F.type_list_extend V5 (pv 2) (@aa _ _ _ _ _ (pv 3) ai rfl)) (by rfl))) (by intro _;rfl),(@aa _ _ _ _ _ (pv 2) #[0,#[14,a]] rfl)],?_⟩;refine Sv.Vc g u D (ρ:=[.d false _, .d false _, .no, .no]) rfl ?_;clear D u;have b:(M.map eB).length=M.length:=ak ..;refine Sv.seq ?_;refine Sv.wK ?_;intro A;refine Sv.seq ?_;refine Sv.forL ?_;refine Ev.var rfl ?_;refine⟨_,rfl,?_⟩;intro v;refine⟨λi ρ=>∃(f:Bool) (x3:Sl),ρ=[.d false (bI wd), .d false (.list (M.map eB)), .own A f ((M.take i).flatten.map kj),x3],⟨_,_,rfl⟩,?_,?_⟩
 .rintro i d ρ hd ⟨f,x3,rfl⟩;obtain⟨r,hr,rfl⟩:=cK hd;have C:(M.take (i+1)).flatten.length<=M.flatten.length:=by
   conv=>rhs;rw[<-kK (i+1) M,Ab,cH]
   omega
  have e2:(M.take (i+1)).flatten=(M.take i).flatten++r:=by rw[FX hr];simp
  refine Gv.pD ?_;refine Sv.extend rfl (Ev.var rfl ⟨_,rfl,?_,?_⟩);·rw[<-cH,<-bh,<-e2,ak];omega
  .rw[<-bh,<-e2];exact⟨_,_,rfl⟩
 rintro ρ ⟨f,x3,rfl⟩;rw[b,dQ];refine Sv.Vf 1 ⋯ (DA rfl) rfl rfl (jH.Hb (jH.cg T2 ?_));rfl';refine⟨rfl,wd,rfl,hl,?_⟩;exact⟨rfl,_,rfl,λc a1 h1 h2 h3=>q c A a1 h1 h2 h3⟩
theorem Zz{f:Str}(h1:f.length<=61)(h2:ns.length<=1000)(hn:∀n∈ns,n.natAbs<10^60):mE (sg 32) (f::ns.map nS)=true:=
 F4 (B:=61) (λy hy=>(aK.mp hy).elim (λe=>e▸h1) λhy=>by
  obtain⟨n,hm,rfl⟩:=bH.mp hy;exact(fY (hn n hm)).2.1) (by rw[cZ,ak];omega)
def xF:DF:=λds Φ=>∃(f:Str) (ns:List Int) (d:PyData),ds=[.str f,d]/\(d= .list (ns.map .int)\/d= .tuple (ns.map .int))/\f.length<=61/\ns.length<=1000/\(∀n∈ns,n.natAbs<10^60)/\Φ true (.str (bA f (ns.map nS)))
def D9:bW xF:=by
 intro ds Φ Ψ hm z;revert hm;walk_at "mo";exact λq=>z _ _ q
def TZ:bz ["first","numbers"] ["first","numbers"] (aE Bm):=⟨rfl,rfl,rfl,by decide+kernel,rfl,by decide+kernel,by decide+kernel⟩
theorem IA(F:bq K "numbers_row" "numbers_row" Bm f fd)(k:Callee P w K mg base "row_of" 1 ["first","others"] (aM 2 tR))(eY:mg "str"=none):
  aU P w K mg base bf 2 f fd ["first","numbers"] (aM 2 xF):=by
 refine F.ok TZ (λvs H Q E h=>h.1) (λcdv A outer s H vs Q E hr h=>?_);obtain⟨nb,ds,Φ,g,u,D,I⟩:=dM h;obtain⟨Y,ns,d,rfl,l,hf,c,hn,q⟩:=I;refine⟨_,#[3,#[8,k,@aa _ _ _ _ _ (eK (cy.of (show cM (aE Bm) ["first","numbers"] _ ["number"] [none]=true by decide+kernel)) (VM (K:=K) rfl (pv 1)) (λ_ _ _ _=>⟨#[2,(by show bT (["number"]:List Str);decide+kernel)],eW,#[18,eY]⟩)) ai rfl]],?_⟩;refine Sv.dH g u D (ρ:=[.d false _, .d false _]) rfl ?_;clear D u;have i:((ns.map nS).map cx).length=ns.length:=by rw[ak,ak]
 refine Sv.ret (Ev.cg RK ?_);refine Av.cons (Ev.var rfl ?_);refine Av.cons (aq.ev ?_);have step:∀{G:Gx} (j:Nat) (d':PyData) (ds:List PyData),(ns.map bj)[j]?=some d'->ds=((ns.take j).map nS).map cx->Gv G [.no] (gZ 0) false d' λm=>Wk [.no] m/\Tv G m p9 λb=>if b=true then Ev G m (gv ji (bN (dD 0) cI)) λf e=>(true=true->f=true)/\(ds++[e])=((ns.take (j+1)).map nS).map cx else ds=((ns.take (j+1)).map nS).map cx:=λ{G} j d' ds hd e=>by
  obtain⟨n,a,rfl⟩:=cK hd;subst e;refine Gv.pD ?_;refine⟨by walk_at "wk",?_⟩;rfl';refine Ev.k9 (Ev.var rfl ⟨n,rfl,hn n (bP a),λ_=>rfl,?_⟩);rw[FX a,bh,bh]
  rfl
 have fin:Av {B:=none,H0:=H,A:=nb} [.d false (.str Y), .d false d] cI λes=>((false,cx Y)::(true,eA ((ns.map nS).map .str))::es).length=2/\tR (((false,cx Y)::(true,eA ((ns.map nS).map .str))::es).map (·.2)) λf d=>Φ (f||gX ((false,cx Y)::(true,eA ((ns.map nS).map .str))::es)) d:=by
  refine Av.nil ⟨rfl,Y,ns.map nS,rfl,by rw[ak];omega,Zz hf c hn,q⟩
 rcases l with rfl|rfl
 .refine aq.QR (aq.e7 ⋯ rfl ?_);refine Ev.var rfl ⟨_,rfl,by rw[ak];omega,λv=>⟨true,λj ds=>ds=((ns.take j).map nS).map .str,rfl,?_,?_⟩⟩
  .rintro j d' ds hd hl' e;exact step j d' ds hd e
  .rintro ds hl' rfl;rw[ak,dQ];exact fin
 .refine aq.XY (aq.Y8 ⋯ rfl ?_);refine Ev.var rfl ⟨_,rfl,by rw[ak];omega,λv=>⟨true,λj ds=>ds=((ns.take j).map nS).map .str,rfl,?_,?_⟩⟩
  .rintro j d' ds hd hl' e;exact step j d' ds hd e
  .rintro ds hl' rfl;rw[ak,dQ];exact fin
noncomputable abbrev mC(m:bK):List Int:=[m.1,m.2.1,m.2.2]
def Gu(ms:List bK)(ls:List Int):Prop:=ms.length<=400/\ls.length<=400/\(∀m∈ms,∀n∈mC m,n.natAbs<10^60)/\∀n∈ls,n.natAbs<10^60
noncomputable def qv(ms:List bK)(ls:List Int):List Str:=ms.map (λm=>bA "mend" ((mC m).map nS))++[bA "left" (ls.map nS)]
noncomputable def rH(ms:List bK)(ls:List Int):Str:=dq (sg 10) (qv ms ls)
theorem u6{f:Str}(hf:f.length<=61)(hn:∀n∈ns,n.natAbs<10^60):(bA f (ns.map nS)).length<=61+ns.length*62:=by
 unfold bA;rw[join_le];have h1:=mZ (B:=61) (ys:=ns.map nS) λy hy=>by
  obtain⟨o,hm,rfl⟩:=bH.mp hy;exact(fY (hn o hm)).2.1
 rw[ak] at h1⊢;omega
noncomputable def YL(ms:List bK)(ls:List Int):PyData:= .tuple [.list (ms.map kj), .list (ls.map .int)]
def Ig:DF:=λds Φ=>∃(ms:List bK) (ls:List Int),ds=[YL ms ls]/\Gu ms ls/\Φ true (.str (rH ms ls))
def acC:bW Ig:=by
 intro ds Φ Ψ hm z;revert hm;walk_at "mo";exact λq=>z _ _ q
def Qq:bz ["paper","rows"] ["paper"] (aE BA):=⟨rfl,rfl,rfl,by decide+kernel,rfl,by decide+kernel,by decide+kernel⟩
theorem Ye(F:bq K "paper_text" "paper_text" BA f fd)(k:Callee P w K mg base "numbers_row" 2 ["first","numbers"] (aM 2 xF)):
  aU P w K mg base bf 3 f fd ["paper"] (aM 1 Ig):=by
 refine F.ok Qq (λvs H Q E h=>h.1) (λcdv A outer s H vs Q E hr h=>?_);obtain⟨nb,ds,Φ,g,u,D,I⟩:=dM h;obtain⟨ms,ls,rfl,⟨n,hl1,hmn,p⟩,q⟩:=I;refine⟨_,(@ay _ _ _ _ _ (nK (i:=1) Qq.nd rfl rfl (cy.of (show cM (aE BA) ["paper","rows"] _ ["mend"] [none]=true by decide+kernel)) (dh (K:=K) rfl (@aD _ _ _ _ _ _ (bG K) bL (pv 0) aj (λ_ _=>rfl))) (λ_ _ _ _=>⟨#[2,(by show bT (["mend"]:List Str);decide+kernel)],eW,#[1,k,@aa _ _ _ _ _ bY (@aa _ _ _ _ _ (pv 0) ai rfl) rfl]⟩)) #[3,jN (K:=K) rfl (ic jR oH o8 oW bY #[0,@aC _ _ _ _ _ _ _ _ oR (pv 1) (@fc _ _ _ _ #[0,#[1,k,@aa _ _ _ _ _ bY (@aa _ _ _ _ _ (@aD _ _ _ _ _ _ (bG K) bL (pv 0) aj (λ_ _=>rfl)) ai rfl) rfl]])])]),?_⟩;refine Sv.dH g u D (ρ:=[.d false _, .no]) rfl ?_;clear D u;have uq:(ms.map kj).length=ms.length:=ak ..;refine Sv.seq ?_;refine Sv.setC (aq.ev (aq.e7 ⋯ rfl ?_));refine Ev.p8 (Ev.var rfl ⟨_,rfl,Ev.int ⟨_,rfl,_,rfl,?_⟩⟩);refine⟨_,rfl,∅,λv=>⟨true,λj ds=>ds=((ms.take j).map λm=>bA "mend" ((mC m).map nS)).map .str,rfl,?_,?_⟩⟩
 .rintro j d ds hd hl' rfl;obtain⟨m,hm,rfl⟩:=cK hd;refine Gv.pD ?_;refine⟨by walk_at "wk",?_⟩;rfl';refine Ev.cg D9 ?_;rfl';refine⟨rfl,"mend",mC m,kj m,rfl, .inr rfl,⋯,by show 3<=1000;decide,hmn m (bP hm),λ_=>rfl,?_⟩;show _=cf _ (cf _ (dA (j+1) ms));rw[FX hm,bh,bh]
  rfl
 rintro ds hl' rfl;rw[uq,dQ];refine Sv.ret (Ev.join (Ev.str ⟨_,rfl,?_⟩));have b:((ms.map λm=>bA "mend" ((mC m).map nS)).map cx).length=ms.length:=by rw[ak,ak]
 refine aq.ev (aq.cat (Ev.var rfl ⟨_,rfl,?_⟩));refine Ev.lst ?_;refine Av.cons (Ev.cg D9 ?_);refine Av.cons (Ev.str ?_);refine Av.cons (Ev.p8 (Ev.var rfl ⟨_,rfl,Ev.int ⟨_,rfl,_,rfl,?_⟩⟩));refine Av.nil ?_;refine⟨rfl,"left",ls,_,rfl, .inl rfl,⋯,∅,p,?_⟩;refine Av.nil ⟨(by decide:1<=10000),?_⟩;refine⟨_,rfl,by rw[b];show _+1<=_;omega,?_⟩;refine⟨qv ms ls,by unfold qv;rw[bh];rfl,?_,q⟩;refine F4 (B:=24861) (λy hy=>?_) (by unfold qv;rw[cH,ak,gQ];omega);rcases fO.mp hy with h|h
 .obtain⟨m,hm,rfl⟩:=bH.mp h;have:=u6 (f:="mend") ⋯ (hmn m hm);have h3:(mC m).length=3:=rfl;omega
 .rw[aY.mp h];have:=u6 (f:="left") ⋯ p;omega
def G9:DF:=λds Φ=>∃(p:Int) (cs:List ao) (wd:Wo),ds=[bR p wd.length cs,bI wd]/\okN p wd.length cs/\(cs.map λprs=>(prs.length:Int)).sum<=2000/\(∀x,some x∈wd->0<=x/\x<p)/\Φ true (.bool true)
def HP:bW G9:=by
 intro ds Φ Ψ hm z;revert hm;walk_at "mo";exact λq=>z _ _ q
def J0:bz ["net","word"] ["net","word"] (aE vp):=⟨rfl,rfl,rfl,by decide+kernel,rfl,by decide+kernel,by decide+kernel⟩
theorem PH(F:bq K "is_fit" "is_fit" vp f fd)(c:Callee P w K mg base "formed" 2 ["net"] (aM 1 FH))(a:Callee P w K mg base "is_letter" 1 ["p","letter"] (aM 2 Gi))(nF:mg "all"=none)(sX:mg "sum"=none)(bZ:mg "len"=none){e:Tok}(Dg:mg "MOST_PAIRS"=some (.int 2000 e)):
    aU P w K mg base bf 3 f fd ["net","word"] (aM 2 G9):=by
  refine F.ok J0 (λvs H Q E h=>h.1) (λcdv A outer s H vs Q E hr h=>?_);obtain⟨nb,ds,Φ,g,u,D,I⟩:=dM h;obtain⟨p,cs,wd,rfl,hok,hs,T,q⟩:=I;refine⟨_,(@ay _ _ _ _ _ (@eG _ _ _ _ _ _ _ _ (PW.pt (mL (@zL _ _ _ _ (@qh _ (K) _ _ rfl #[14,c] (λ_=>rfl))) (uB (@aX _ _ _ _ _ _ _ _ rq (@eN _ _ _ _ _ _ _ _ (yP K) (R5 rfl) rfl sX Ld (@aa _ _ _ _ _ (eK (cy.of (show cM (aE vp) ["net","word"] _ ["pairs"] [none]=true by decide+kernel)) (dh (K:=K) rfl (@aD _ _ _ _ _ _ (bG K) bL (pv 0) aj (λ_ _=>rfl))) (λ_ _ _ _=>⟨#[2,(by show bT (["pairs"]:List Str);decide+kernel)],eW,#[12,bZ,@aa _ _ _ _ _ (pv 0) ai rfl]⟩)) ai rfl) ⋯ ⋯ (by rfl) (by rfl)) (uy (v:= .int 2000) rfl Dg ⟨_,rfl⟩) (aV _))))) (@aF _ _ _ (@aR _ _ _ _ pW)) eH) #[3,@RP _ _ _ _ _ _ _ (@oZ _ _ _ _ _ _ _ _ jb #[12,bZ,@aa _ _ _ _ _ (pv 1) ai rfl] (@aD _ _ _ _ _ _ (bG K) bL (pv 0) aj (λ_ _=>rfl)) (aV _)) (@PB _ _ _ _ _ (@eN _ _ _ _ _ _ _ _ (uA K) (GR rfl) rfl nF FW (@aa _ _ _ _ _ (eK (cy.of (show cM (aE vp) ["net","word"] _ ["letter","net"] [none,some 0]=true by decide+kernel)) (dh (K:=K) rfl (pv 1)) (λ_ _ _ _=>⟨#[2,(by show bT (["letter","net"]:List Str);decide+kernel)],(mF (@aX _ _ _ _ _ _ _ _ qA (pv 0) gc (aV _))),#[1,a,@aa _ _ _ _ _ (@aD _ _ _ _ _ _ (bG K) bL (pv 1) aj (λ_ _=>rfl)) (@aa _ _ _ _ _ (pv 0) ai rfl) rfl]⟩)) ai rfl) ⋯ ⋯ (by rfl) (by rfl)))]),?_⟩;refine Sv.dH g u D (ρ:=[.d false _, .d false _]) rfl ?_;clear D u;have hc:=hok.2.2.2.1;have N:(cs.map dW).length=cs.length:=ak ..;rfl';refine Ev.cg abW ?_;rfl';refine⟨rfl,p,wd.length,cs,rfl,∅,λb hb=>?_⟩;have hb:b=true:=hb.mpr hok;subst hb;rfl';refine aq.ev (aq.e7 ⋯ rfl ?_);rfl';refine λv=>⟨true,λi ds=>ds=(cs.take i).map λprs=>bj (prs.length:Int),rfl,?_,?_⟩
  · rintro i d ds hd hl' rfl
    obtain⟨prs,J,rfl⟩:=cK hd;have y:(prs.map F1).length=prs.length:=ak ..;rfl';refine⟨by walk_at "wk",?_⟩;rfl';rw[y];show _=cf _ (dA (i+1) cs);rw[FX J,bh]
    rfl
  rintro ds hl' rfl;rw[N,dQ];refine⟨cs.map λprs=>(prs.length:Int),by rw[je];rfl,?_⟩;generalize (cs.map λprs=>(prs.length:Int)).sum=S at*;rfl';rw[if_pos (by rw[ak];simp)];refine Ev.all (aq.ev (aq.e7 ⋯ rfl ?_));rfl';have hwl:=hok.2.2.1;have m:(wd.map bJ).length=wd.length:=ak ..;refine⟨∅,λv=>⟨true,λi ds=>∃k,ds=(cq k true).map lr,⟨0,rfl⟩,?_,?_⟩⟩
  · rintro i d ds hd hl' ⟨k,rfl⟩
    obtain⟨o,ho,rfl⟩:=cK hd;rfl';refine⟨by walk_at "wk",?_⟩;rfl';rw[nE];cases o with
    | none =>
      rfl';exact⟨k,rfl⟩
    | some x =>
      have hx:=T x (bP ho);rw[show bJ (some x)= .int x from rfl];rfl';refine Ev.cg UH ?_;rfl';refine⟨rfl,p,x,rfl,?_⟩;rw[decide_eq_true hx];rfl';refine⟨λ_=>rfl,k+1,?_⟩;rw[Ti,bh]
      rfl
  rintro ds hl' ⟨k,rfl⟩;refine⟨_,rfl,?_⟩;rw[show(cq k true).all id=true by simp];exact q
noncomputable def iQ(p:Int)(cs:List ao)(wd:Wo)(i:Nat):List Int:=((cv i).filter λc=>aT (cs.getD c []) wd%p≠0).map λ(c:Nat)=>(c:Int)
noncomputable def pO(p:Int)(cs:List ao)(wd:Wo):Str:=if none∈wd then "end left" else if iQ p cs wd cs.length=[] then "end true" else bA "end broken" ((iQ p cs wd cs.length).map nS)
def DS:DF:=λds Φ=>∃(p n:Int) (cs:List ao) (wd:Wo),ds=[bR p n cs,bI wd]/\0<p/\cs.length<=400/\(∀prs∈cs,nX prs wd.length)/\dN wd/\wd.length<=1000/\Φ true (.str (pO p cs wd))
def Oq:bW DS:=by
 intro ds Φ Ψ hm z;revert hm;walk_at "mo";exact λq=>z _ _ q
def PM:bz ["net","word","broken"] ["net","word"] (aE yj):=⟨rfl,rfl,rfl,by decide+kernel,rfl,by decide+kernel,by decide+kernel⟩
theorem adM(F:bq K "end_row" "end_row" yj f fd)(k:Callee P w K mg base "numbers_row" 2 ["first","numbers"] (aM 2 xF))(o:Callee P w K mg base "sums" 3 ["net","word"] (aM 2 Eg))(tw:mg "enumerate"=none):
  aU P w K mg base bf 4 f fd ["net","word"] (aM 2 DS):=by
 refine F.ok PM (λvs H Q E h=>h.1) (λcdv A outer s H vs Q E hr h=>?_);obtain⟨nb,ds,Φ,g,u,D,I⟩:=dM h;obtain⟨p,n,cs,wd,rfl,hp,hc,hP,hW,hl,q⟩:=I;refine⟨_,(@ay _ _ _ _ _ #[10,aX (Nf (K:=K) (by rfl)) gc (pv 1) (by with_unfolding_all rfl),bY] #[5,nK (i:=2) PM.nd rfl rfl (cy.of (show cM (aE yj) ["net","word","broken"] _ ["c","reached"] [none,none]=true by decide+kernel)) (@S9 _ (K) _ _ _ _ _ _ _ rfl rfl tw #[1,o,@aa _ _ _ _ _ (pv 0) (@aa _ _ _ _ _ (pv 1) ai rfl) rfl] (by rfl)) (λ_ _ _ _=>⟨(@iG _ (K) _ _ _ (2) _ rfl rfl #[6,#[2,(by show bT (["c","reached"]:List Str);decide+kernel)],aJ (i:=1) (by show bT (["c","reached"]:List Str);decide+kernel) rfl (cm rfl)] (by rfl) (by rfl)),(mF (@aX _ _ _ _ _ _ _ _ j9 (pv 1) aj (aV _))),(pv 0)⟩),#[10,@aX _ _ _ _ _ _ _ _ (Ds hr.units) (pv 2) (@fc _ _ _ _ ai) (aV _),bY],#[1,k,@aa _ _ _ _ _ bY (@aa _ _ _ _ _ (pv 2) ai rfl) rfl]]),?_⟩;refine Sv.dH g u D (ρ:=[.d false _, .d false _, .no]) rfl ?_;clear D u;have m:(wd.map bJ).length=wd.length:=ak ..;refine Sv.seq (Sv.pC (Tv.test (Ev.Pu ?_)));rfl';refine⟨none,rfl,?_⟩;rfl';refine⟨wd,rfl,?_⟩;rfl';unfold pO at q;by_cases c0:none∈wd
 .rw[if_pos c0] at q;rw[decide_eq_true c0];rfl';exact q
 rw[if_neg c0] at q;rw[decide_eq_false c0];rfl';refine aq.ev (aq.P8 ⋯ rfl ?_);rfl';refine Ev.cg Wr ?_;rfl';have j:∀prs:ao,qp p prs wd=some (aT prs wd%p):=λprs=>by
  unfold qp;rw[if_neg];intro z;obtain⟨pr,_,h⟩:=z;exact c0 (bP h)
 refine⟨rfl,p,n,cs,wd,rfl,hp,∅,hP,hW,_,rfl,by rw[ak];omega,λv=>⟨true,λi ds=>ds=(iQ p cs wd i).map bj,rfl,?_,?_⟩⟩
 .rintro i d ds ⟨e,he,rfl⟩ hl' rfl;obtain⟨prs,J,rfl⟩:=cK he;rw[j];have b:cs.getD i []=prs:=by rw[i9,J];rfl
  have t:iQ p cs wd (i+1)=iQ p cs wd i++(if aT prs wd%p≠0 then[(i:Int)] else[]):=by
   unfold iQ;rw[wJ,sA,bh]
   congr 1
   by_cases c:aT prs wd%p≠0;·rw[if_pos c,tK (by rw[b];simpa using c)];rfl
   .rw[if_neg c,qY (by rw[b];simpa using c)];rfl
  rw[show bJ (some (aT prs wd%p))= .int (aT prs wd%p) from rfl];rfl';refine⟨by walk_at "wk",?_⟩;rfl';by_cases c:aT prs wd%p=0
  .rw[if_neg (by simpa using c),fW] at t;rfl';show _=(iQ p cs wd (i+1)).map bj;rw[t]
  .rw[if_pos c] at t;rfl';show _=(iQ p cs wd (i+1)).map bj;rw[t,bh]
   rfl
 rintro ds hl' rfl;rw[ak] at hl'⊢;have M:(iQ p cs wd cs.length).length<=cs.length:=by
  unfold iQ;rw[ak];exact eu (vS _ _) (jf uw)
 have a:∀n∈iQ p cs wd cs.length,n.natAbs<10^60:=λn hn=>by
  obtain⟨c,l,rfl⟩:=bH.mp hn;have:=lY.mp (jw.mp l).1;omega
 rfl';refine⟨shaped_ints _,⋯,?_⟩;rw[show(eA (cf (λx:Bool×PyData=>x.2) []))= .list (([]:List Int).map .int) from rfl,Oa];by_cases c1:iQ p cs wd cs.length=[]
 .rw[if_pos c1] at q;rw[decide_eq_true c1];rfl';exact q
 rw[if_neg c1] at q;rw[decide_eq_false c1];rfl';refine Ev.cg D9 ?_;rfl';exact⟨rfl,"end broken",iQ p cs wd cs.length,_,rfl, .inl rfl,⋯,∅,a,q⟩
theorem K7(hp:0<p)(h0:∀prs∈cs,∀pr∈prs,0<=pr.1/\pr.1<wd.length):(bX p cs wd).flatten.length<=wd.length:=by
 have h1:=xm hp (tN hp h0).1 _ (aH _);have h2:=DP wd;omega
def C5:(bx p cs wd).length=wd.length:=by unfold bx;exact ie
theorem QJ(h:Gu ms ls):(rH ms ls).length<=200000:=by
  obtain⟨h1,h2,h3,h4⟩:=h;have hm:∀m∈ms,(bA "mend" ((mC m).map nS)).length<=247:=λm hm=>by
    have:=u6 (f:="mend") ⋯ (h3 m hm);have e:(mC m).length=3:=rfl;omega
  have hl:=u6 (f:="left") ⋯ h4;have hs:=mZ (B:=247) (ys:=ms.map λm=>bA "mend" ((mC m).map nS)) λy hy=>by
    obtain⟨m,hx,rfl⟩:=bH.mp hy;exact hm m hx
  rw[ak] at hs;unfold rH qv;cases ms with
  | nil =>
    rw[jU,Il,join_le];simp[jO];omega
  | cons m r =>
    rw[aZ,jk,join_le];have h5:=hm m (by simp);have hs2:=mZ (B:=25000) (ys:=[bA "left" (ls.map nS)]) λy hy=>by
      rw[aY.mp hy];omega
    have hs3:=mZ (B:=247) (ys:=r.map λm=>bA "mend" ((mC m).map nS)) λy hy=>by
      obtain⟨m,hx,rfl⟩:=bH.mp hy;exact hm m (cF _ hx)
    have c:∀(a b:List Str),jO (a++b)=jO a+jO b:=λa b=>by simp[jO]
    simp only[cZ] at h1;rw[ak] at hs3;simp only[c,cH,ak,gQ] at hs2⊢;omega
theorem MD(h:cs.length<=400):(pO p cs wd).length<=30000:=by
 unfold pO;split;·exact(by decide:(ag "end left").length<=30000)
 split;·exact(by decide:(ag "end true").length<=30000)
 have M:(iQ p cs wd cs.length).length<=cs.length:=by
  unfold iQ;rw[ak];exact eu (vS _ _) (jf uw)
 have:=u6 (f:="end broken") (ns:=iQ p cs wd cs.length) ⋯ λn hn=>by
  obtain⟨c,l,rfl⟩:=bH.mp hn;have:=lY.mp (jw.mp l).1;omega
 omega
noncomputable def AD(p:Int)(cs:List ao)(wd:Wo):Str:=dq (sg 10) [p6 (bx p cs wd),rH (bX p cs wd).flatten (gh (bx p cs wd)),pO p cs (bx p cs wd)]
def xU(p:Int)(cs:List ao)(wd:Wo):Prop:=gu p/\p<10^40/\okN p wd.length cs/\(cs.map λprs=>(prs.length:Int)).sum<=2000/\(∀prs∈cs,prs.length<=400)/\∀x,some x∈wd->0<=x/\x<p
def Kz:DF:=λds Φ=>∃(p:Int) (cs:List ao) (wd:Wo),ds=[.str (nY p wd.length cs), .str (bA "word" (wd.map mY))]/\xU p cs wd/\sL p wd.length cs/\Φ true (.str (AD p cs wd))
def TX:bW Kz:=by
 intro ds Φ Ψ hm z;revert hm;walk_at "mo";exact λq=>z _ _ q
theorem xU.NH(h:xU p cs wd):fG p cs wd.length:=by
 obtain⟨h1,h2,h3,h4,h5,B⟩:=h;refine⟨h1,h2,by have:=h3.2.2.2.1;omega,λprs hp=>⟨by have:=h5 prs hp;omega,λpr hr=>?_,λpr hr=>?_⟩⟩
 .have:=(h3.2.2.2.2 prs hp).2.2 pr hr;exact⟨this.1,this.2.1,by unfold Sm;omega⟩
 .have:=(h3.2.2.2.2 prs hp).2.2 pr hr;rw[xy ∅ ∅];omega
theorem TJ(hN:fG p cs wd.length)(hW:dN wd)(hl:wd.length<=400):Gu (bX p cs wd).flatten (gh (bx p cs wd)):=by
 have p2:=hN.1.1;have qZ:=hN.2.1;have hcl:=hN.2.2.1;have hfl:=K7 (p:=p) (cs:=cs) (wd:=wd) ∅ hN.rg;have pI:=Sw (bx p cs wd);have hel:=C5 (p:=p) (cs:=cs) (wd:=wd);obtain⟨a,-,-,hout,-⟩:=tN (p:=p) (cs:=cs) (wd:=wd) ∅ hN.rg;have zx:(10:Int)^40<=10^60:=⋯
 refine⟨∅,∅,λm hm n hn=>?_,λn hn=>?_⟩
 .obtain⟨j,hj,e⟩:=RG.mp hm;obtain⟨m',e1,e2⟩:=a j hj;rw[aS hj,e] at e1;cases e1;have Fi:=Jk (i:=j) hN hW λb h=>a b ∅;have c:fG p cs (FV wd ((bX p cs wd).flatten.take j)).length:=by rw[ie];exact hN
  obtain⟨b1,b2,b3,b4,b5,b6⟩:=Iv c Fi e2;rw[ie] at b2;have hn:n∈[m.1,m.2.1,m.2.2]:=hn;simp only[aK,cU,or_false] at hn;rcases hn with rfl|rfl|rfl<;>omega
 .obtain⟨b1,b2⟩:=zb.mp hn;have:=(bV.mp b2).1;omega
def wO:bz ["net_text","word_text","net","word","found","paper"] ["net_text","word_text"] (aE Iw):=⟨rfl,rfl,rfl,by decide+kernel,rfl,by decide+kernel,by decide+kernel⟩
theorem Xr(F:bq K "answer" "answer" Iw f fd)(a:Callee P w K mg base "read_net" 5 ["text"] (F6 1 AE))(b:Callee P w K mg base "read_word" 3 ["text"] (aM 1 HZ))(l:Callee P w K mg base "mended" 8 ["net","word"] (aM 2 GA))(v:Callee P w K mg base "paper_from" 2 ["word","rounds"] (wC 2 zS))(o:Callee P w K mg base "is_fit" 3 ["net","word"] (aM 2 G9))(r:Callee P w K mg base "word_row" 2 ["word"] (aM 1 IB))(t:Callee P w K mg base "paper_text" 3 ["paper"] (aM 1 Ig))(j:Callee P w K mg base "end_row" 4 ["net","word"] (aM 2 DS)):
  aU P w K mg base bf 9 f fd ["net_text","word_text"] (aM 2 Kz):=by
 refine F.ok wO (λvs H Q E h=>h.1) (λcdv A outer s H vs Q E hr h=>?_);obtain⟨nb,ds,Φ,g,u,D,I⟩:=dM h;obtain⟨p,cs,wd,rfl,vZ,O,q⟩:=I;refine⟨_,(@ay _ _ _ _ _ #[7,wO.nd,#[14,a]] (@ay _ _ _ _ _ #[15,wO.nd,@aI _ _ _ _ _ _ _ _ _ _ b (hr.mono ⋯) (@aa _ _ _ _ _ (pv 1) ai rfl) (by rfl) ⋯ (by rfl) (by rfl)] (@ay _ _ _ _ _ (@eG _ _ _ _ _ _ _ _ (@zL _ _ _ _ (@qh _ (K) _ _ rfl #[1,o,@aa _ _ _ _ _ (pv 2) (@aa _ _ _ _ _ (pv 3) ai rfl) rfl] (λ_=>rfl))) (@aF _ _ _ sE) eH) #[5,#[16,wO.nd,#[1,l,@aa _ _ _ _ _ (pv 2) (@aa _ _ _ _ _ (pv 3) ai rfl) rfl]],(@aO _ _ (5) _ _ _ _ wO.nd rfl (cm rfl) #[1,v,@aa _ _ _ _ _ (@aD _ _ _ _ _ _ (bG K) bL (pv 4) aj (λ_ _=>rfl)) (@aa _ _ _ _ _ (@aD _ _ _ _ _ _ (bG K) bL (pv 4) aj (λ_ _=>rfl)) ai rfl) rfl] (by rfl) (by first|exact .inl rfl|exact .inr rfl|assumption)),jN (K:=K) rfl (ic jR oH o8 oW bY #[0,@fc _ _ _ _ (@aa _ _ _ _ _ #[1,r,@aa _ _ _ _ _ (@aD _ _ _ _ _ _ (bG K) bL (pv 4) aj (λ_ _=>rfl)) ai rfl] #[4,#[1,t,@aa _ _ _ _ _ (pv 5) ai rfl],#[1,j,@aa _ _ _ _ _ (pv 2) (@aa _ _ _ _ _ (@aD _ _ _ _ _ _ (bG K) bL (pv 4) aj (λ_ _=>rfl)) ai rfl) rfl]] rfl)])]))),?_⟩;refine Sv.dH g u D (ρ:=[.d false _, .d false _, .no, .no, .no, .no]) rfl ?_;clear D u;have hN:=vZ.NH;obtain⟨hp,iE,hok,hs,hpl,T⟩:=vZ;have p2:=hp.1;have hl:wd.length<=400:=by have:=hok.2.2.1;omega
 have hc:=hok.2.2.2.1;have hW:dN wd:=λx hx=>by have:=T x hx;unfold Sm;omega
 have zx:(10:Int)^40<=10^60:=⋯
 have e:∀n,some n∈wd->n.natAbs<10^60:=λn hn=>by have:=T n hn;omega
 have hel:=C5 (p:=p) (cs:=cs) (wd:=wd);have Ss:=TJ hN hW hl;obtain⟨z,V⟩:=GJ (p:=p) (cs:=cs) (wd:=wd) ∅ hN.rg λi x h=>T x (bP h);have tH:∀x,some x∈bx p cs wd->0<=x/\x<p:=λx hx=>by
  obtain⟨i,hi⟩:=jS hx;exact V i x hi
 have k:uI (bx p cs wd):=⟨∅,λn hn=>by have:=tH n hn;omega⟩;have m:dN (bx p cs wd):=λx hx=>by have:=tH x hx;unfold Sm;omega
 refine Sv.seq (Sv.asg (Ev.Ui acr ?_));rfl';refine⟨rfl,p,wd.length,cs,rfl,O,λL c a0 bs J=>⟨c,bR p wd.length cs,rfl,?_,?_⟩⟩
 .have:=J.Tc;rw[je] at this;exact this
 refine Gv.name ?_;rfl';refine Ev.cg HQ ?_;rfl';refine⟨rfl,wd,rfl,∅,e,?_⟩;rfl';refine Ev.cg HP ?_;rfl';refine⟨rfl,p,cs,wd,rfl,hok,hs,T,?_⟩;generalize W:(qW (gD (gY (wC _ _) _ _ _) _) _:TS)=tl;rfl';refine Ev.cg U1 ?_;rfl';refine⟨rfl,p,wd.length,cs,wd,rfl,hN,hW,∅,?_⟩;rfl';subst W;have hfl:=K7 (p:=p) (cs:=cs) (wd:=wd) ∅ hN.rg;refine Sv.seq (Sv.ZW abJ ?_);rfl';refine⟨rfl,bx p cs wd,bX p cs wd,rfl,∅,∅,λc a0 a1 n0 n1 n2 nd=>?_⟩;have afO:=af4 (ms:=(bX p cs wd).flatten) (ls:=gh (bx p cs wd)) n0 n1 n2;refine Sv.ret (Ev.join (Ev.str ⟨_,rfl,?_⟩));refine Ev.lst (Av.cons ?_);refine Ev.cg Wz ?_;rfl';refine⟨rfl,bx p cs wd,rfl,k,?_⟩;refine Av.cons (Ev.V3 5 rfl afO (Ev.cg acC ?_));rfl';refine⟨rfl,(bX p cs wd).flatten,gh (bx p cs wd),rfl,Ss,rfl,?_⟩;refine Av.cons (Ev.cg Oq ?_);rfl';refine⟨rfl,p,wd.length,cs,bx p cs wd,rfl,∅,∅,λprs hp=>?_,m,∅,?_⟩
 .have:=(hN.2.2.2 prs hp).2.1;rwa[hel]
 refine Av.nil ⟨(by decide:3<=10000),?_⟩;refine⟨[p6 (bx p cs wd),rH (bX p cs wd).flatten (gh (bx p cs wd)),pO p cs (bx p cs wd)],rfl,?_,q⟩;refine F4 (B:=200000) (λy hy=>?_) (by show 3*200000+3<=_;decide);simp only[aK,cU,or_false] at hy;rcases hy with rfl|rfl|rfl
 .have:=Pa k;omega
 .exact QJ Ss
 .have:=MD (p:=p) (cs:=cs) (wd:=bx p cs wd) ∅;omega
def BL:bz ["script","stir","cell"] ["script"] (aE yy):=⟨rfl,rfl,rfl,by decide+kernel,rfl,by decide+kernel,by decide+kernel⟩
theorem Rb(F:bq K "_law_bag" "_law_bag" yy f fd)(DU:mg "abs"=none):
  aU P w K mg base bf 1 f fd ["script"] (N9 K):=by
 refine F.ok BL (λvs H Q E h=>?_) (λcdv A outer s H vs Q E hr h=>?_)
 .obtain⟨a,ns,rfl,M,hl,q⟩:=h
  rfl
 obtain⟨a,ns,rfl,M,hl,q⟩:=h;refine⟨_,#[5,@aO _ _ (1) _ _ _ _ BL.nd rfl (cm rfl) aj (by rfl) (by first|exact .inl rfl|exact .inr rfl|assumption),@iZ _ _ _ _ _ _ _ _ iw rfl (dh (K:=K) rfl (@lX _ _ _ _ _ _ _ _ _ _ nk (pv 0) lR (@lD _ _ _ aj))) (aJ (i:=2) BL.nd rfl (cm rfl)) (@aF _ _ _ #[17,BL.nd,@aC _ _ _ _ _ _ _ _ jq (@aC _ _ _ _ _ _ _ _ ff (@aC _ _ _ _ _ _ _ _ ff (@aC _ _ _ _ _ _ _ _ jg (pv 1) aj) (@aC _ _ _ _ _ _ _ _ jq (pv 2) aj)) aj) aj]) (by intro _;rfl),@fc _ _ _ _ (@aa _ _ _ _ _ (eK (cy.of (show cM (aE yy) ["script","stir","cell"] _ ["cell"] [none]=true by decide+kernel)) (dh (K:=K) rfl (@lX _ _ _ _ _ _ _ _ _ _ nk (pv 0) lR (@lD _ _ _ aj))) (λ_ _ _ _=>⟨#[2,(by show bT (["cell"]:List Str);decide+kernel)],eW,(@aC _ _ _ _ _ _ _ _ jq (@eN _ _ _ _ _ _ _ _ _ Wh rfl DU x6 (@aa _ _ _ _ _ (pv 0) ai rfl) ⋯ ⋯ (by rfl) (by rfl)) (@aC _ _ _ _ _ _ _ _ xj aj aj))⟩)) (@aa _ _ _ _ _ aj (@aa _ _ _ _ _ aj (@aa _ _ _ _ _ (pv 1) (@aa _ _ _ _ _ aj ai rfl) rfl) rfl) rfl) rfl)],?_⟩;have i6:mR (ns.map V.int) none (some 63)=ns.map V.int:=by
  have e:(ns.map V.int).length=ns.length:=ak _;show dA (min 63 (ns.map V.int).length-0) (Fn 0 (ns.map V.int))=_;rw[vK];exact sN ∅
 walk_at "st";refine R.RS M λc hc=>?_;rw[i6];refine R.xX (bw.of bB) ?_;refine Pq (xs:=ns.map V.int) (λi σ H1=>∃(st:Int) (x:Option V),σ=[some (.ref a),some (.int st),x]/\0<=st/\st<2147483647/\H1=upd H c (.lst (ns.map V.int))) ⟨19,none,rfl,∅,∅,rfl⟩ ?_ ?_ ?_
 .rintro i σ H1 hi ⟨st,x,rfl,h1,h2,rfl⟩;exact bw.of bB
 .rintro i x σ H1 hx ⟨st,y,rfl,h1,h2,rfl⟩;rw[cS] at hx;obtain⟨n,_,rfl⟩:=lH.mp hx;walk_at "st";exact⟨_,_,rfl,i7 _ ⋯,iY _ ⋯,rfl⟩
 .rintro σ H1 ⟨st,x,rfl,h1,h2,rfl⟩;walk_at "st";refine R.RS ((dw hc).seq M) λc2 b=>?_;rw[i6];refine R.xX (bw.of bB) ?_;intro acc hacc;refine R.FZ (xs:=ns.map V.int) (λi σ H2=>∃(x:Option V),σ=[x]/\H2=upd (upd (upd H c (.lst (ns.map V.int))) c2 (.lst (ns.map V.int))) acc (.lst (((ns.take i).map λn=>(if n<0 then-n else n)%10^60).map V.int))) ⟨none,rfl,rfl⟩ ?_ ?_ ?_
  .rintro i σ H1 hi ⟨x,rfl,rfl⟩;refine bw.of ?_;rw[br (ja bB hacc)];exact bB
  .rintro i x σ H1 hx ⟨y,rfl,rfl⟩;rw[cS] at hx;obtain⟨n,hn,rfl⟩:=lH.mp hx;walk_at "st";refine⟨_,bB,?_,_,rfl,?_⟩
   .rw[ak,ak,mX];exact SQ ∅
   .rw[EI,Dt,hn,bh,bh]
    rfl
  .rintro σ H1 ⟨x,rfl,rfl⟩;walk_at "st";refine(show Hg _ _ _ from⟨by show 5<=sizeLine;decide,λp hp=>?_⟩);have hn1:=ja (bB (H:=upd (upd H c (.lst (ns.map V.int))) c2 (.lst (ns.map V.int))) (a:=acc)) hp;have s1:cT H (upd (upd (upd H c (.lst (ns.map V.int))) c2 (.lst (ns.map V.int))) acc (.lst (((ns.take (ns.map V.int).length).map λn=>(if n<0 then-n else n)%10^60).map V.int))):=(dw hc).trans ((dw b).trans (dw hacc));refine q p acc _ (s1.trans (dw hp)) (s1.free hp) ⟨_,0,0,st,0,bB,by rw[br hn1];exact bB,?_,?_,∅,∅,∅,h1,h2⟩
   .intro y hy;obtain⟨z,_,rfl⟩:=bH.mp hy;exact⟨i7 _ ⋯,iY _ ⋯⟩
   .rw[ak,mX];omega
def BU:bz ["bag","many","found","k"] ["bag","many"] (aE Ja):=⟨rfl,rfl,rfl,by decide+kernel,rfl,by decide+kernel,by decide+kernel⟩
theorem Vm(F:bq K "_law_stirred" "_law_stirred" Ja f fd)(dI:mg "range"=none):
  aU P w K mg base bf 1 f fd ["bag","many"] mw:=by
 refine F.ok BU (λvs H Q E h=>?_) (λcdv A outer s H vs Q E hr h=>?_)
 .obtain⟨b,l,many,rfl,O,hm,hs,q⟩:=h
  rfl
 obtain⟨b,l,many,rfl,O,hm,hs,q⟩:=h;refine⟨_,#[5,@aO _ _ (2) _ _ _ _ BU.nd rfl (cm rfl) aj (by rfl) (by first|exact .inl rfl|exact .inr rfl|assumption),@iZ _ _ _ _ _ _ _ _ iw rfl (@kX _ _ _ _ _ _ rfl dI #[0,@aC _ _ _ _ _ _ _ _ ff aj (@aC _ _ _ _ _ _ _ _ uX (Sq PySem.F.plainAttrs_int PySem.F.slot_int_bit_length PySem.F.type_int_bit_length Uv (pv 1)) aj)] (by rfl)) (aJ (i:=3) BU.nd rfl (cm rfl)) (@ay _ _ _ _ _ (@iW _ _ _ _ _ _ (@aC _ _ _ _ _ _ _ _ ff (@aD _ _ _ _ _ _ _ bF (pv 0) aj (λ_ _=>rfl)) aj) (mH (pv 0) aj set_list) (by rfl) (by rfl) (by rfl)) (@ay _ _ _ _ _ (@iW _ _ _ _ _ _ (@aC _ _ _ _ _ _ _ _ jq (@aC _ _ _ _ _ _ _ _ ff (@aC _ _ _ _ _ _ _ _ ff (@aC _ _ _ _ _ _ _ _ ff (@aC _ _ _ _ _ _ _ _ xj (@aD _ _ _ _ _ _ _ bF (pv 0) aj (λ_ _=>rfl)) aj) (@aC _ _ _ _ _ _ _ _ jg aj (@aD _ _ _ _ _ _ _ bF (pv 0) aj (λ_ _=>rfl)))) (@aC _ _ _ _ _ _ _ _ jg aj (@aD _ _ _ _ _ _ _ bF (pv 0) aj (λ_ _=>rfl)))) aj) aj) (mH (pv 0) aj set_list) (by rfl) (by rfl) (by rfl)) (@aF _ _ _ #[7,BU.nd,@aC _ _ _ _ _ _ _ _ ff (@aC _ _ _ _ _ _ _ _ jg (pv 2) aj) (@aC _ _ _ _ _ _ _ _ uX (@aD _ _ _ _ _ _ _ bF (pv 0) aj (λ_ _=>rfl)) aj)]))) (by intro _;rfl),@aC _ _ _ _ _ _ _ _ jq (pv 2) (pv 1)],?_⟩;have ahE:=Dk hs;walk_at "st";refine DO (λi σ H1=>∃(a:Int) (x:Option V),σ=[some (.ref b),some (.int many),some (.int a),x]/\bu (Nb b) H H1/\fh H1 b l) ⟨0,none,rfl,bu.refl _ _,O⟩ ?_ ?_
 .rintro i σ H1 hi ⟨a,x,rfl,bt,ns,j,c,st,n,h1,h2,h3,h4,h5,h6,h7,h8,h9⟩;have hlb:=Oz h1 h2;walk_at "st";refine⟨_,_,rfl,bt.trans (bu.set rfl),?_⟩;exact fh.put hlb h2 h3 h4 h5 h6 h7 (i7 _ ⋯) (iY _ ⋯)
 .rintro σ H1 ⟨a,x,rfl,bt,B⟩;walk_at "st";exact q _ _ (i7 _ ∅) (iY _ hm) bt B
def Ru:bz ["bag","many","found"] ["bag","many"] (aE EV):=⟨rfl,rfl,rfl,by decide+kernel,rfl,by decide+kernel,by decide+kernel⟩
theorem Yg(F:bq K "_law_draw" "_law_draw" EV f fd)(e:Callee P w K mg base "_law_stirred" 1 ["bag","many"] mw)(bZ:mg "len"=none):
  aU P w K mg base bf 2 f fd ["bag","many"] mw:=by
 refine F.ok Ru (λvs H Q E h=>?_) (λcdv A outer s H vs Q E hr h=>?_)
 .obtain⟨b,l,many,rfl,O,hm,hs,q⟩:=h
  rfl
 obtain⟨b,l,many,rfl,O,hm,hs,q⟩:=h;refine⟨_,(@ay _ _ _ _ _ (@eG _ _ _ _ _ _ _ _ (PW.pt (mQ (@aX _ _ _ _ _ _ _ _ jb (@aD _ _ _ _ _ _ _ bF (pv 0) aj (λ_ _=>rfl)) aj (aV _)) (mh (@aX _ _ _ _ _ _ _ _ nI (@aD _ _ _ _ _ _ _ bF (pv 0) aj (λ_ _=>rfl)) (@eN _ _ _ _ _ _ _ _ _ Lw rfl bZ iN #[0,@aD _ _ _ _ _ _ _ bF (pv 0) aj (λ_ _=>rfl)] ⋯ ⋯ (by rfl) (by rfl)) (aV _))))) (@ay _ _ _ _ _ (@iW _ _ _ _ _ _ (@aD _ _ _ _ _ _ _ bF (@aD _ _ _ _ _ _ _ bF (pv 0) aj (λ_ _=>rfl)) (@aD _ _ _ _ _ _ _ bF (pv 0) aj (λ_ _=>rfl)) (λ_ _=>rfl)) (mH (pv 0) aj set_list) (by rfl) (by rfl) (by rfl)) (@aF _ _ _ (@iW _ _ _ _ _ _ (@aC _ _ _ _ _ _ _ _ ff (@aD _ _ _ _ _ _ _ bF (pv 0) aj (λ_ _=>rfl)) aj) (mH (pv 0) aj set_list) (by rfl) (by rfl) (by rfl)))) (@aF _ _ _ #[10,@aX _ _ _ _ _ _ _ _ jb (@aD _ _ _ _ _ _ _ bF (pv 0) aj (λ_ _=>rfl)) aj (aV _),#[1,e,@aa _ _ _ _ _ (pv 0) (@aa _ _ _ _ _ (pv 1) ai rfl) rfl]])) #[5,#[7,Ru.nd,@aC _ _ _ _ _ _ _ _ jq (@aD _ _ _ _ _ _ _ bF (pv 0) aj (λ_ _=>rfl)) (pv 1)],@iW _ _ _ _ _ _ (@aC _ _ _ _ _ _ _ _ uX (@aD _ _ _ _ _ _ _ bF (pv 0) aj (λ_ _=>rfl)) (pv 1)) (mH (pv 0) aj set_list) (by rfl) (by rfl) (by rfl),pv 2]),?_⟩;obtain⟨ns,i,c,st,n,h1,h2,h3,h4,h5,B,d,k,g⟩:=id O;have hlb:=Oz h1 h2
 have fin:∀(H1:Hp) (a c':Int),H1 b=some (.lst [.ref l, .int a, .int c', .int st, .int n])->bu (Nb b) H H1->0<=a->0<=c'->c'<10^60->
   ∀(H2:Hp),H2=upd H1 b (.lst [.ref l, .int a, .int (c'/many), .int st, .int n])->Q (.int (c'%many)) H2:=λH1 a c' e1 bt g1 g2 N H2 e2=>by
  subst e2;have hd1:0<=c'/many:=zF g2 ∅;have j:c'/many<=c':=Hw _ g2;exact q _ _ (i7 _ ∅) (iY _ hm) (bt.trans (bu.set rfl)) (fh.put hlb (bt _ _ hlb h2) h3 h4 g1 hd1 ∅ k g)
 walk_at "st";refine sZ (λc1=>?_) (λc1=>?_)
 .have c1:c=0:=of_decide_eq_true c1;walk_at "st";refine sZ (λc2=>?_) (λc2=>?_)
  .have c2:i<(cf V.int ns).length:=of_decide_eq_true c2;rw[ak] at c2;have hi:i.toNat<ns.length:=∅
   obtain⟨g1,g2⟩:=h3 _ (fU hi);walk_at "st";refine R.yi h2 (v:= .int ns[i.toNat]) (j6 h5 (by rw[cS,aS hi];rfl)) ?_;walk_at "st";refine fin (upd H b (.lst [.ref l, .int (i+1), .int ns[i.toNat], .int st, .int n])) (i+1) ns[i.toNat] bB (bu.set rfl) ∅ g1 g2 _ ?_;rw[EI]
   rfl
  .walk_at "st";exact⟨b,l,many,rfl,O,hm,hs,q⟩
 .have c1:¬c=0:=of_decide_eq_false (tE.mpr c1);walk_at "st";exact fin H i c h1 (bu.refl _ _) h5 B d _ rfl
def Ub(is:List Int):fo (.list (is.map bj)) (.list [])=decide (is=[]):=by
 cases is<;>simp[fo,gg]
def adg(is:List Int):ed (.list (is.map bj))=true:=by
 have h:ee (is.map bj)=0/\df (is.map bj)=true:=by
  induction is with
  |nil=>simp[ee,df]
  |cons a r ih=>simp[ee,il,df,ek,ih.2,ih.1]
 unfold ed;simp[ek,il,h.2,h.1]
theorem Rx{nb:ax->Prop}{H:Hp}:∀is:List Int,af nb H (is.map bj) (is.map V.int)
 |[]=>af.nil
 |i::is=>af.cons (.int i) (Rx is)
theorem X0{r:Int}(h0:r<=10100)(h:∀d:Int,2<=d->d<102->¬(d*d<=r/\r%d=0)):BI r:=λd d1 d2 e=>by
 by_cases hd:d<102;·exact h d d1 hd ⟨d2,e⟩
 .have:102*102<=d*d:=t8 ∅ ∅ ∅ ∅;omega
def Sh:bz ["number","found"] ["number"] (aE xG):=⟨rfl,rfl,rfl,by decide+kernel,rfl,by decide+kernel,by decide+kernel⟩
theorem Gf(F:bq K "_law_prime_from" "_law_prime_from" xG f fd)(dI:mg "range"=none):
  aU P w K mg base bf 1 f fd ["number"] Gr:=by
 refine F.ok Sh (λvs H Q E h=>?_) (λcdv A outer s H vs Q E hr h=>?_)
 .obtain⟨n,rfl,hn1,hn2,q⟩:=h
  rfl
 obtain⟨n,rfl,hn1,hn2,q⟩:=h;refine⟨_,(@ay _ _ _ _ _ (@iZ _ _ _ _ _ _ _ _ iw rfl (@Th _ _ _ _ _ _ _ rfl dI (@aa _ _ _ _ _ (pv 0) #[0,@aC _ _ _ _ _ _ _ _ ff (pv 0) aj] rfl) (by rfl) (by rfl)) (aJ (i:=1) Sh.nd rfl (fx rfl)) (@aF _ _ _ #[10,@aX _ _ _ _ _ _ _ _ (Ds hr.units) (eK (cy.of (show cM (aE xG) ["number","found"] _ ["k","found"] [none,some 1]=true by decide+kernel)) (@Th _ _ _ _ _ _ _ rfl dI (@aa _ _ _ _ _ aj (@aa _ _ _ _ _ aj ai rfl) rfl) (by rfl) (by rfl)) (λ_ _ _ _=>⟨#[2,(by show bT (["k","found"]:List Str);decide+kernel)],(mF (PW.pt (mQ (@aX _ _ _ _ _ _ _ _ Fc (@aC _ _ _ _ _ _ _ _ jg (pv 0) (pv 0)) (pv 1) (aV _)) (mh (@aX _ _ _ _ _ _ _ _ jb (@aC _ _ _ _ _ _ _ _ jq (pv 1) (pv 0)) aj (aV _)))))),(pv 0)⟩)) (@fc _ _ _ _ ai) (aV _),pv 1]) (by intro _;rfl)) #[3,aj]),?_⟩;walk_at "st";refine DO (λi σ H1=>cT H H1/\∃(x:Option V),σ=[some (.int n),x]) ⟨cT.refl _,none,rfl⟩ ?_ ?_
 .rintro i σ H1 hi ⟨s1,x,rfl⟩;have b:(i:Int)<60:=∅
  walk_at "st";intro acc hacc;refine R.O2 (λj σ H2=>cT H1 H2/\(∃x:Option V,σ=[x,some (.int (n+i))])/\∃is:List Int,H2 acc=some (.lst (is.map V.int))/\is.length<=j/\(is=[]->∀d:Int,2<=d->d<2+j->¬(d*d<=n+i/\(n+i)%d=0))) ?_ ?_ ?_;·exact⟨dw hacc,⟨none,rfl⟩,[],bB,eT _,λ_ d d1 d2=>∅⟩
  .rintro j σ H2 hj ⟨s2,⟨x,rfl⟩,is,e2,l2,h2⟩;have hj2:(j:Int)<100:=∅
   have next:∀d:Int,d<2+((j+1:Nat):Int)->d<2+j\/d=2+j:=λd h=>∅
   walk_at "st";refine sZ (λc1=>?_) (λc1=>?_)
   .have c1:(2+(j:Int))*(2+j)<=n+i:=of_decide_eq_true c1;walk_at "st";refine sZ (λc2=>?_) (λc2=>?_)
    .have c2:(n+i)%(2+(j:Int))=0:=of_decide_eq_true c2;walk_at "st";refine⟨_,e2,?_,?_,⟨_,rfl⟩,is++[2+(j:Int)],?_,?_,λe=>?_⟩;·rw[ak];exact SQ ∅
     .exact λa o h=>by rw[br (ja h hacc)];exact s2 _ _ h
     .rw[bB,bh];rfl
     .rw[cH,gQ];omega
     .simp at e
    .have c2:¬(n+i)%(2+(j:Int))=0:=of_decide_eq_false (tE.mpr c2);refine⟨s2,⟨_,rfl⟩,is,e2,∅,λe d d1 d2=>?_⟩;rcases next d d2 with h|h
     .exact h2 e d d1 h
     .rw[h];exact λz=>c2 z.2
   .have c1:¬(2+(j:Int))*(2+j)<=n+i:=of_decide_eq_false (tE.mpr c1);walk_at "st";refine⟨s2,⟨_,rfl⟩,is,e2,∅,λe d d1 d2=>?_⟩;rcases next d d2 with h|h
    .exact h2 e d d1 h
    .rw[h];exact λz=>c1 z.1
  .rintro σ H2 ⟨s2,⟨x,rfl⟩,is,e2,l2,h2⟩;walk_at "st";refine R.T9 ⋯ λp H3 s3 J e3=>?_;refine⟨λ_=>False, .list (is.map bj), .list [], .lst id (s3 _ _ e2) (Rx is), .lst id e3 af.nil,adg is,⋯,?_⟩;rw[Ub];walk_at "st";have s:cT H H3:=s1.trans (s2.trans s3);refine sZ (λc=>?_) (λc=>?_)
   .have c:is=[]:=by simpa using c
    walk_at "st";exact q _ _ s ∅ ∅ (X0 ∅ λd d1 d2=>h2 c d d1 ∅)
   .walk_at "st";exact⟨s,_,rfl⟩
 .rintro σ H1 ⟨s1,x,rfl⟩;walk_at "st";refine q _ _ s1 ∅ ∅ λd d1 d2=>?_;have:2*2<=d*d:=t8 d1 d1 ∅ ∅;omega
def FT:DF:=λds Φ=>ds=[]/\∀p:Int,gu p->p<10^40->∀f,Φ f (.int p)
def Rq:bW FT:=by
 intro ds Φ Ψ hm z;revert hm;walk_at "mo";exact λq=>λp h1 h2 f=>z _ _ (q p h1 h2 f)
def Uo:∀x∈([2,3,5,7,2,11,101,10007,65537,1000003,998244353,1000000007,2147483647,1000000000039,10^tz 39+3,10^tz 40-17,2305843009213693951,618970019642690137449562111,162259276829213363391578010288127,170141183460469231731687303715884105727]:List Int),x∈B4/\x<10^40:=⋯
def uZ:bz ["bag","some","way"] ["bag"] (aE CZ):=⟨rfl,rfl,rfl,by decide+kernel,rfl,by decide+kernel,by decide+kernel⟩
theorem WS(F:bq K "_law_prime" "_law_prime" CZ f fd)(B:Callee P w K mg base "_law_draw" 2 ["bag","many"] mw)(a:Callee P w K mg base "_law_prime_from" 1 ["number"] Gr):
  aU P w K mg base bf 3 f fd ["bag"] (ir 1 FT):=by
 refine F.ok uZ (λvs H Q E h=>h.1) (λcdv A outer s H vs Q E hr h=>?_);obtain⟨b,l,ws,nb,ds,Φ,rfl,O,g,V,u,D,I⟩:=pV h;obtain⟨rfl,q⟩:=I;refine⟨_,(@ay _ _ _ _ _ (@aem _ 1 _ _ _ _ _ _ uZ.nd rfl (cm rfl) rfl (cm rfl)) (@ay _ _ _ _ _ #[17,uZ.nd,@aC _ _ _ _ _ _ _ _ oR (pv 1) (@fc _ _ _ _ (@aa _ _ _ _ _ (@aC _ _ _ _ _ _ _ _ ff (@aC _ _ _ _ _ _ _ _ xj aj aj) aj) (@aa _ _ _ _ _ (@aC _ _ _ _ _ _ _ _ jl (@aC _ _ _ _ _ _ _ _ xj aj aj) aj) (@aa _ _ _ _ _ aj (@aa _ _ _ _ _ aj ai rfl) rfl) rfl) rfl))] #[5,#[17,uZ.nd,@aC _ _ _ _ _ _ _ _ oR (pv 1) (@fc _ _ _ _ (@aa _ _ _ _ _ aj (@aa _ _ _ _ _ aj ai rfl) rfl))],#[7,uZ.nd,#[9,B]],(@lC _ _ _ _ _ _ _ _ (@aX _ _ _ _ _ _ _ _ nI (pv 2) aj (aV _)) (@aD _ _ _ _ _ _ (cB K) bF (pv 1) (pv 2) (λ_ _=>rfl)) #[1,a,#[0,(@aC _ _ _ _ _ _ _ _ ff aj #[9,B])]])])),?_⟩;refine Sv.qO O g V u D (ρ:=[.az, .no, .no]) rfl ?_;clear D u;rfl';intro way w1 w2;by_cases c:way<20
 .rfl';obtain⟨m,R,n,d⟩:=pick (L:=[2,3,5,7,2,11,101,10007,65537,1000003,998244353,1000000007,2147483647,1000000000039,10^tz 39+3,10^tz 40-17,2305843009213693951,618970019642690137449562111,162259276829213363391578010288127,170141183460469231731687303715884105727]) (k:=way) w1 (by show _<(20:Int);omega) _ Uo;refine⟨_,R,?_⟩;exact q m (V2 m n) d _
 .rfl';intro r r1 r2;rfl';exact λr' h1 h2=>q r' h1 h2 _
def u0:DF:=λds Φ=>∃p a b:Int,ds=[.int p, .int a, .int b]/\gu p/\p<10^40/\b%p≠0/\ -(10^85)<=a/\a<=10^85/\((∃k,b*sol p b a-a=p*k)->Φ true (.int (sol p b a)))
def Fj:bW u0:=by
 intro ds Φ Ψ hm z;revert hm;walk_at "mo";exact λq=>λh=>z _ _ (q h)
def mT:bz ["p","a","b","old","new","one","two","times"] ["p","a","b"] (aE DT):=⟨rfl,rfl,rfl,by decide+kernel,rfl,by decide+kernel,by decide+kernel⟩
theorem Kn(F:bq K "_law_over" "_law_over" DT f fd):
  aU P w K mg base bf 1 f fd ["p","a","b"] (aM 3 u0):=by
 refine F.ok mT (λvs H Q E h=>h.1) (λcdv A outer s H vs Q E hr h=>?_);obtain⟨nb,ds,Φ,g,u,D,I⟩:=dM h;obtain⟨p,a,b,rfl,hp,iE,hb,a0,a1,q⟩:=I;refine⟨_,#[5,@iW _ _ _ _ _ _ (@eO _ _ _ _ _ (@aa _ _ _ _ _ (@aC _ _ _ _ _ _ _ _ jq (pv 2) (pv 0)) (@aa _ _ _ _ _ (pv 0) (@aa _ _ _ _ _ aj (@aa _ _ _ _ _ aj ai rfl) rfl) rfl) rfl)) (@iG _ (K) _ _ _ (4) _ rfl rfl (@bS _ _ _ _ _ (aJ (i:=3) mT.nd rfl (cm rfl)) (@bS _ _ _ _ _ (aJ (i:=4) mT.nd rfl (cm rfl)) #[6,aJ (i:=5) mT.nd rfl (cm rfl),aJ (i:=6) mT.nd rfl (cm rfl)] (by rfl)) (by rfl)) (by rfl) (by rfl)) (by rfl) (by rfl) (by rfl),@Ji _ _ _ _ _ _ iw (@aX _ _ _ _ _ _ _ _ j9 (pv 4) aj (aV _)) (@ay _ _ _ _ _ (@aO _ _ (7) _ _ _ _ mT.nd rfl (cm rfl) (@aC _ _ _ _ _ _ _ _ uX (pv 3) (pv 4)) (by rfl) (by first|exact .inl rfl|exact .inr rfl|assumption)) (@aF _ _ _ (@iW _ _ _ _ _ _ (@eO _ _ _ _ _ (@aa _ _ _ _ _ (pv 4) (@aa _ _ _ _ _ (@aC _ _ _ _ _ _ _ _ jl (pv 3) (@aC _ _ _ _ _ _ _ _ jg (pv 7) (pv 4))) (@aa _ _ _ _ _ (pv 6) #[0,@aC _ _ _ _ _ _ _ _ jl (pv 5) (@aC _ _ _ _ _ _ _ _ jg (pv 7) (pv 6))] rfl) rfl) rfl)) (@iG _ (K) _ _ _ (4) _ rfl rfl (@bS _ _ _ _ _ (aJ (i:=3) mT.nd rfl (cm rfl)) (@bS _ _ _ _ _ (aJ (i:=4) mT.nd rfl (cm rfl)) #[6,aJ (i:=5) mT.nd rfl (cm rfl),aJ (i:=6) mT.nd rfl (cm rfl)] (by rfl)) (by rfl)) (by rfl) (by rfl)) (by rfl) (by rfl) (by rfl)))),@aC _ _ _ _ _ _ _ _ jq (@aC _ _ _ _ _ _ _ _ jg (pv 1) (pv 5)) (pv 0)],?_⟩;refine Sv.dH g u D (ρ:=[.d false _, .d false _, .d false _, .no, .no, .no, .no, .no]) rfl ?_;clear D u;have p2:=hp.1;have m1:=i7 b (show p≠0 by omega);have m2:=iY b (show 0<p by omega);rfl';show nN _ _ _ _ [bj (b%p), .int p, .int 1, .int 0] _;rfl';refine Sv.Lu (λρ=>∃(L lt r t:Int) (o:Sl),ρ=[.d false (.int p), .d false (.int a), .d false (.int b), .d true (.int L), .d true (.int r), .d true (.int lt), .d true (.int t),o]/\(-p<=lt/\lt<=p)/\((L=b%p/\r=p/\lt=1/\t=0)\/Eu p b L lt r t)) (λρ:Rh=>match ρ[4]? with|some (Sl.d _ (bj r))=>r.toNat|_=>0) ⟨_,_,_,_,_,rfl,∅, .inl ⟨rfl,rfl,rfl,rfl⟩⟩ ?_;rintro ρ ⟨L,lt,r,t,o,rfl,hlt,hI⟩;by_cases c:r=0
 .rcases hI with ⟨_,h,_,_⟩|hE
  .omega
  subst c;obtain⟨k,hk⟩:=hE.fin hp hb;obtain⟨C,y⟩:=hE.tb;have sa:Sm a:=by unfold Sm;omega
  have sl:Sm lt:=by unfold Sm;omega
  rfl';have e:=mD (a*lt) p;have ef:=mD lt p
  have ex:∃k,b*(a*lt%p)-a=p*k:=⟨a*k+a*(lt/p)*b-a*lt/p*b,by
   generalize a*lt/p=Q1 at*;generalize a*lt%p=R1 at*;generalize lt/p=Q2 at*;generalize lt%p=R2 at*;have h1:R1=a*lt-p*Q1:=∅
   have h2:lt=p*Q2+R2:=∅
   rw[h1];have h3:a*(R2*b)=a*(1+p*k):=by rw[hk]
   grind⟩
  have es:=JB (x:=a*lt%p) (a:=a) hp hb (i7 _ ∅) (iY _ ∅) ex;rw[es];rw[es] at ex;exact q ex
 .rcases hI with ⟨rfl,rfl,rfl,rfl⟩|hE
  .have O:b%r/r=0:=Int.ediv_eq_zero_of_lt m1 m2;rfl';show nN _ _ _ _ [bj r, .int (b%r-b%r/r*r), .int 0, .int (1-b%r/r*0)] _;rw[O];rfl';refine⟨⟨_,_,_,_,_,rfl,∅, .inr ?_⟩,?_⟩
   .rw[se,Ir,BV,Ir];exact Eu.start p2
   .show(b%r-0*r).toNat<r.toNat;rw[se];omega
  .obtain⟨C,y⟩:=hE.tb;have e1:=hE.l0;have e2:=hE.r0;have e3:=hE.lp;have e4:=hE.rp;have hr:0<r:=∅
   have J:0<=L/r:=zF ∅ ∅;have q2:L/r<=L:=Hw _ ∅;obtain⟨j,m⟩:=hE.next hr
   rfl';show nN _ _ _ _ [bj r, .int (L-L/r*r), .int t, .int (lt-L/r*t)] _;rfl';exact⟨⟨_,_,_,_,_,rfl,⟨C,y⟩, .inr j⟩,by show(L-L/r*r).toNat<r.toNat;omega⟩
def uJ:DF:=λds Φ=>∃(p:Int) (prs:ao) (wd:Wo),ds=[.int p,dW prs,bI wd]/\0<p/\prs.length<=10000/\nX prs wd.length/\dN wd/\Φ true (.int (aT prs wd%p))
def Jd:bW uJ:=by
 intro ds Φ Ψ hm z;revert hm;walk_at "mo";exact λq=>z _ _ q
def Uh:bz ["p","pairs","word"] ["p","pairs","word"] (aE yv):=⟨rfl,rfl,rfl,by decide+kernel,rfl,by decide+kernel,by decide+kernel⟩
def ZH(F:bq K "_law_sum" "_law_sum" yv f fd)(sX:mg "sum"=none):
    aU P w K mg base bf 1 f fd ["p","pairs","word"] (aM 3 uJ):=by
  refine F.ok Uh (λvs H Q E h=>h.1) (λcdv A outer s H vs Q E hr h=>?_);obtain⟨nb,ds,Φ,g,u,D,I⟩:=dM h;obtain⟨p,prs,wd,rfl,hp,hl,h1,h2,q⟩:=I;refine⟨_,#[3,@aC _ _ _ _ _ _ _ _ jq (@eN _ _ _ _ _ _ _ _ (yP K) (R5 rfl) rfl sX Ld (@aa _ _ _ _ _ (eK (cy.of (show cM (aE yv) ["p","pairs","word"] _ ["place","factor","word"] [none,none,some 2]=true by decide+kernel)) (dh (K:=K) rfl (pv 1)) (λ_ _ _ _=>⟨(@iG _ (K) _ _ _ (2) _ rfl rfl #[6,aJ (i:=0) (by show bT (["place","factor","word"]:List Str);decide+kernel) rfl (cm rfl),aJ (i:=1) (by show bT (["place","factor","word"]:List Str);decide+kernel) rfl (cm rfl)] (by rfl) (by rfl)),(mF (@aX _ _ _ _ _ _ _ _ qA (@aD _ _ _ _ _ _ (cB K) bF (pv 2) (pv 0) (λ_ _=>rfl)) gc (aV _))),(@aC _ _ _ _ _ _ _ _ jg (pv 1) (@aD _ _ _ _ _ _ (cB K) bF (pv 2) (pv 0) (λ_ _=>rfl)))⟩)) ai rfl) ⋯ ⋯ (by rfl) (by rfl)) (pv 0)],?_⟩;refine Sv.dH g u D (ρ:=[.d false _, .d false _, .d false _]) rfl ?_;clear D u;rfl';refine aq.ev (aq.e7 ⋯ rfl ?_);rfl';refine⟨by rw[ak];exact hl,λv=>⟨false,λi ds=>∃ns:List Int,ds=ns.map .int/\ns.sum=aT (prs.take i) wd,⟨[],rfl,by simp[aT]⟩,?_,?_⟩⟩
  · rintro i d ds hd hl' ⟨ns,rfl,hs⟩
    obtain⟨pr,c8,rfl⟩:=cK hd;obtain⟨g1,g2,N⟩:=h1 pr (bP c8);obtain⟨o,ho,S⟩:=rZ (xs:=wd) bJ g1 g2 rfl;have hi:i<prs.length:=(bV.mp c8).1;have HJ:=Na (wd:=wd) hi;have a:prs[i]=pr:=(bV.mp c8).2;rw[a] at HJ;rfl';refine⟨by walk_at "wk",?_⟩;rfl';rw[nE];cases o with
    | none =>
      rfl';refine⟨ns,rfl,?_⟩;rw[HJ,hs];unfold iS;rw[ho];simp
    | some x =>
      have hx:Sm x:=h2 x (bP ho);have b:bU (wd.map bJ) pr.1=some (.int x):=S;rfl';refine⟨ns++[pr.2*x],by simp,?_⟩;rw[HJ,HG,hs];unfold iS;rw[ho];simp
  · rintro ds hl' ⟨ns,rfl,hs⟩
    rw[ak,dQ] at hs;refine⟨ns,rfl,?_⟩;rw[hs];rfl';exact q
def Dl:DF:=λds Φ=>∃p n:Int,ds=[.int p, .int n]/\QL p/\0<=n/\n<=10000/\∀os:List Int,(os.length:Int)=n->(∀x∈os,0<=x/\x<p)->Φ true (.list (os.map .int))
def LM:bW Dl:=by
 intro ds Φ Ψ hm z;revert hm;walk_at "mo";exact λq=>λos a b=>z _ _ (q os a b)
def Qd:bz ["bag","p","n","way"] ["bag","p","n"] (aE vV):=⟨rfl,rfl,rfl,by decide+kernel,rfl,by decide+kernel,by decide+kernel⟩
theorem T1(F:bq K "_law_letters" "_law_letters" vV f fd)(B:Callee P w K mg base "_law_draw" 2 ["bag","many"] mw)(dI:mg "range"=none)(nJ:mg "int"=none)(II:mg "min"=none):
  aU P w K mg base bf 3 f fd ["bag","p","n"] (ir 3 Dl):=by
 refine F.ok Qd (λvs H Q E h=>h.1) (λcdv A outer s H vs Q E hr h=>?_);obtain⟨b,l,ws,nb,ds,Φ,rfl,O,g,V,u,D,I⟩:=pV h;obtain⟨p,n,rfl,⟨p2,a⟩,n0,n1,q⟩:=I;refine⟨_,#[5,(@aO _ _ (3) _ _ _ _ Qd.nd rfl (fx rfl) #[9,B] (by rfl) (by first|exact .inl rfl|exact .inr rfl|assumption)),#[10,@aX _ _ _ _ _ _ _ _ jb (pv 3) aj (aV _),eK (cy.of (show cM (aE vV) ["bag","p","n","way"] _ ["k","bag","p"] [none,some 0,some 1]=true by decide+kernel)) (@kX _ _ _ _ _ _ rfl dI (@aa _ _ _ _ _ (pv 2) ai rfl) (by rfl)) (λ_ _ _ _=>⟨#[2,(by show bT (["k","bag","p"]:List Str);decide+kernel)],eW,(@aC _ _ _ _ _ _ _ _ jg #[1,B,@aa _ _ _ _ _ (pv 1) (@aa _ _ _ _ _ (pv 2) ai rfl) rfl] (@gG _ _ _ _ _ _ _ _ _ OZ rfl nJ JS #[0,(@oZ _ _ _ _ _ _ _ _ jb #[1,B,@aa _ _ _ _ _ (pv 1) (@aa _ _ _ _ _ aj ai rfl) rfl] aj (aV _))] ⋯ ⋯ (by rfl) (by rfl)))⟩)],eK (cy.of (show cM (aE vV) ["bag","p","n","way"] _ ["k","bag","p","way"] [none,some 0,some 1,some 3]=true by decide+kernel)) (@kX _ _ _ _ _ _ rfl dI (@aa _ _ _ _ _ (pv 2) ai rfl) (by rfl)) (λ_ _ _ _=>⟨#[2,(by show bT (["k","bag","p","way"]:List Str);decide+kernel)],eW,#[1,B,(@aa _ _ _ _ _ (pv 1) #[0,@aD _ _ _ _ _ _ (cB K) bF (@fc _ _ _ _ (@aa _ _ _ _ _ (pv 2) #[0,@eN _ _ _ _ _ _ _ _ _ (Um rfl) rfl II x7 (@aa _ _ _ _ _ (pv 2) (@aa _ _ _ _ _ aj ai rfl) rfl) ⋯ ⋯ (by rfl) (by rfl)] rfl)) (pv 3) (λ_ _=>rfl)] rfl)]⟩)],?_⟩;refine Sv.qO O g V u D (ρ:=[.az, .d false _, .d false _, .no]) rfl ?_;clear D u;rfl';intro way w1 w2;by_cases c:way=2
 .rfl';refine aq.ev (aq.qo ⋯ rfl ?_);rfl';refine iH.ints (λx=>0<=x/\x<p) ?_ λos X t=>q os ∅ t;rintro i d ⟨hi,rfl⟩;rfl';refine⟨by walk_at "wk",?_⟩;rfl';intro r C Y;rfl';intro s s1 s2;by_cases c2:s=3
  .rfl';rw[decide_eq_true c2];exact⟨by simp;omega,by simp;omega⟩
  .rfl';rw[decide_eq_false c2];exact⟨by simp,by simp;omega⟩
 .obtain⟨m,R,m1,m2⟩:∃m:Int,bU [bj p, .int (if 3<p then 3 else p)] way=some (.int m)/\1<=m/\m<=p:=by
   rcases(show way=0\/way=1 by omega) with rfl|rfl
   .exact⟨p,rfl,∅,∅⟩
   .exact⟨_,rfl,by split<;>omega,by split<;>omega⟩
  rfl';refine aq.ev (aq.qo ⋯ rfl ?_);rfl';refine iH.ints (λx=>0<=x/\x<p) ?_ λos X t=>q os ∅ t;rintro i d ⟨hi,rfl⟩;rfl';refine⟨by walk_at "wk",?_⟩;rfl';exact λr C Y=>⟨r,rfl,C,∅⟩
def ua(p:Int)(m:Nat)(w:Int)(prs:ao):Prop:=prs≠[]/\(prs.length:Int)<=w/\(prs.map (·.1)).Pairwise (· < ·)/\∀pr∈prs,0<=pr.1/\pr.1<m/\1<=pr.2/\pr.2<p
noncomputable def ye:Option ao->PyData
 |none=> .none
 |some prs=>dW prs
def Ff:DF:=λds Φ=>∃(p wide:Int) (wd:List Int),ds=[.int p, .list (wd.map .int), .int wide]/\gu p/\p<10^40/\1<=wd.length/\wd.length<=400/\(∀x∈wd,0<=x/\x<p)/\1<=wide/\wide<=60/\∀(o:Option ao) (f:Bool),(∀prs,o=some prs->ua p wd.length wide prs/\aT prs (wd.map some)%p=0)->Φ f (ye o)
def XO:bW Ff:=by
 intro ds Φ Ψ hm z;revert hm;walk_at "mo";exact λq=>λo f h=>z _ _ (q o f h)
def rQ:bz ["bag","p","word","wide","n","places","pairs","rest","last"] ["bag","p","word","wide"] (aE vE):=⟨rfl,rfl,rfl,by decide+kernel,rfl,by decide+kernel,by decide+kernel⟩
theorem adf(F:bq K "_law_planted_check" "_law_planted_check" vE f fd)(vg:Callee P w K mg base "_law_sum" 1 ["p","pairs","word"] (aM 3 uJ))(B:Callee P w K mg base "_law_draw" 2 ["bag","many"] mw)(vY:Callee P w K mg base "_law_over" 1 ["p","a","b"] (aM 3 u0))(bZ:mg "len"=none)(nQ:mg "sorted"=none)(G0:mg "set"=none)(dI:mg "range"=none):
  aU P w K mg base bf 3 f fd ["bag","p","word","wide"] (ir 4 Ff):=by
 refine F.ok rQ (λvs H Q E h=>h.1) (λcdv A outer s H vs Q E hr h=>?_);obtain⟨b,l,ws,nb,ds,Φ,rfl,O,g,V,u,D,I⟩:=pV h;obtain⟨p,wide,wd,rfl,hp,iE,S,L,xC,d1,d2,q⟩:=I;refine⟨_,(@ay _ _ _ _ _ (@aO _ _ (4) _ _ _ _ rQ.nd rfl (fx rfl) (@eN _ _ _ _ _ _ _ _ (iP K) jM rfl bZ iN (@aa _ _ _ _ _ (pv 2) ai rfl) ⋯ ⋯ (by rfl) (by rfl)) (by rfl) (by first|exact .inl rfl|exact .inr rfl|assumption)) (@ay _ _ _ _ _ (@aO _ _ (5) _ _ _ _ rQ.nd rfl (cm rfl) (@eN _ _ _ _ _ _ _ _ (Jx P w) (UK rfl) rfl nQ Ik #[0,@gG _ _ _ _ _ _ _ _ (Dp P w K) (UT rfl) rfl G0 x8 (@aa _ _ _ _ _ (eK (cy.of (show cM (aE vE) ["bag","p","word","wide","n","places","pairs","rest","last"] _ ["k","bag","n"] [none,some 0,some 4]=true by decide+kernel)) (@kX _ _ _ _ _ _ rfl dI #[0,(@aC _ _ _ _ _ _ _ _ ff aj #[1,B,@aa _ _ _ _ _ (pv 0) (@aa _ _ _ _ _ (pv 3) ai rfl) rfl])] (by rfl)) (λ_ _ _ _=>⟨#[2,(by show bT (["k","bag","n"]:List Str);decide+kernel)],eW,#[1,B,@aa _ _ _ _ _ (pv 1) (@aa _ _ _ _ _ (pv 2) ai rfl) rfl]⟩)) ai rfl) ⋯ ⋯ (by rfl) (by rfl)] ⋯ ⋯ (by rfl) (by rfl)) (by rfl) (by first|exact .inl rfl|exact .inr rfl|assumption)) (@ay _ _ _ _ _ (nK (i:=6) rQ.nd rfl rfl (cy.of (show cM (aE vE) ["bag","p","word","wide","n","places","pairs","rest","last"] _ ["place","bag","p"] [none,some 0,some 1]=true by decide+kernel)) (dh (K:=K) rfl (pv 5)) (λ_ _ _ _=>⟨#[2,(by show bT (["place","bag","p"]:List Str);decide+kernel)],eW,(@eO _ _ _ _ _ (@aa _ _ _ _ _ (pv 0) #[0,(@aC _ _ _ _ _ _ _ _ ff aj #[1,B,(@aa _ _ _ _ _ (pv 1) #[0,@aC _ _ _ _ _ _ _ _ jl (pv 2) aj] rfl)])] rfl))⟩)) (@ay _ _ _ _ _ (@aO _ _ (7) _ _ _ _ rQ.nd rfl (cm rfl) #[1,vg,@aa _ _ _ _ _ (pv 1) (@aa _ _ _ _ _ (@lX _ _ _ _ _ _ _ _ _ (jZ K) nk (pv 6) lR (@lD _ _ _ (@qd _ _ _ _ _ _ pZ aj))) (@aa _ _ _ _ _ (pv 2) ai rfl) rfl) rfl] (by rfl) (by first|exact .inl rfl|exact .inr rfl|assumption)) (@ay _ _ _ _ _ #[11,(8),rQ.nd,@aD _ _ _ _ _ _ (cB K) bF (pv 5) (@qd _ _ _ _ _ _ pZ aj) (λ_ _=>rfl)] #[5,#[10,PW.pt (mQ (@aX _ _ _ _ _ _ _ _ j9 (pv 7) aj (aV _)) (mh (@aX _ _ _ _ _ _ _ _ j9 (@aD _ _ _ _ _ _ (cB K) bF (pv 2) (pv 8) (λ_ _=>rfl)) aj (aV _)))),@aC _ _ _ _ _ _ _ _ oR (@lX _ _ _ _ _ _ _ _ _ (jZ K) nk (pv 6) lR (@lD _ _ _ (@qd _ _ _ _ _ _ pZ aj))) (@fc _ _ _ _ #[0,(@eO _ _ _ _ _ #[4,pv 8,#[1,vY,(@aa _ _ _ _ _ (pv 1) #[4,@aC _ _ _ _ _ _ _ _ jl aj (pv 7),@aD _ _ _ _ _ _ (cB K) bF (pv 2) (pv 8) (λ_ _=>rfl)] rfl)]])])],#[10,PW.pt (mQ (@aX _ _ _ _ _ _ _ _ jb (pv 7) aj (aV _)) (mh (@aX _ _ _ _ _ _ _ _ jb (@aD _ _ _ _ _ _ (cB K) bF (pv 2) (pv 8) (λ_ _=>rfl)) aj (aV _)))),pv 6],@lC _ _ _ _ _ _ _ _ (PW.pt (mQ (@aX _ _ _ _ _ _ _ _ jb (pv 7) aj (aV _)) (mh (@aX _ _ _ _ _ _ _ _ rq #[12,bZ,@aa _ _ _ _ _ (pv 6) ai rfl] aj (aV _))))) (@lX _ _ _ _ _ _ _ _ _ (jZ K) nk (pv 6) lR (@lD _ _ _ (@qd _ _ _ _ _ _ pZ aj))) gc]))))),?_⟩;refine Sv.qO O g V u D (ρ:=[.az, .d false _, .d false _, .d false _, .no, .no, .no, .no, .no]) rfl ?_;clear D u;have p2:=hp.1;have QS:(wd.map bj).length=wd.length:=ak ..;have U:∀x:Int,0<=x->x<=p->Sm x:=λx x0 x1=>by unfold Sm;omega
 rfl';refine aq.ev (aq.WH (aq.ev (aq.qo ⋯ rfl ?_)));rfl';intro k0 k1 k2;rfl';refine iH.ints (λx=>0<=x/\x<(wd.map bj).length) ?_ λos nO t=>⟨os,rfl,∅,λM BY c=>?_⟩
 .rintro i d ⟨hi,rfl⟩;rfl';refine⟨by walk_at "wk",?_⟩;rfl';exact λr C Y=>⟨r,rfl,C,Y⟩
 have X:M.Nodup:=BY.imp λh=>∅
 have Z:0<M.length:=by
  have:0<os.length:=∅
  obtain⟨y,hy⟩:=List.exists_mem_of_length_pos this;exact SV ((c y).mpr hy)
 have ain:M.length<=os.length:=HX X λk hk=>(c k).mp hk;rfl';refine aq.ev (aq.e7 ⋯ rfl ?_);rfl';refine⟨by rw[ak];omega,λv=>iH.rel F1 true (λi pr=>M[i]?=some pr.1/\1<=pr.2/\pr.2<p) ?_ λprs hpl J=>?_⟩
 .rintro i d hd;obtain⟨x,hx,rfl⟩:=cK hd;rfl';refine⟨by walk_at "wk",?_⟩;rfl';intro r C Y;rfl';exact⟨λ_=>rfl,(x,1+r),rfl,hx,by show 1<=1+r;omega,by show 1+r<p;omega⟩
 rw[ak] at hpl;have yz:prs.map (·.1)=M:=by
  apply pG;intro j;rw[cS];cases e:prs[j]? with
  |none=>rw[pS (by have:=List.getElem?_eq_none_iff.mp e;omega)];rfl
  |some pr=>exact(J j pr e).1.symm
 have G:HB p wd.length prs:=⟨by rw[yz];exact X,∅,λpr c8=>by
  obtain⟨k,hk⟩:=jS c8;have h2:=J k pr hk;have h1:=t pr.1 ((c _).mp (bP h2.1));omega⟩
 have Zq:(prs.map F1).length=prs.length:=ak ..;have o:ua p wd.length wide prs:=⟨yR ∅,∅,by rw[yz];exact BY,G.2.2⟩;have yt:iy (prs.map F1) none (some (-1))=prs.dropLast.map F1:=by
  unfold iy HT.fk;simp only[vK,Nat.sub_zero];rw[List.dropLast_eq_take,List.map_take,Zq]
  congr 1
  first|omega|(split<;>omega)
 have n:prs.dropLast.length=prs.length-1:=List.length_dropLast ..;have C4:HB p wd.length prs.dropLast:=⟨((Nm prs).map _).nodup G.1,∅,λpr c8=>G.2.2 pr (List.dropLast_subset _ c8)⟩;have FE:M.length-1<M.length:=∅
 have K6:bU (M.map bj) (-1)=some (.int M[M.length-1]):=by
  unfold bU iR;rw[if_neg ⋯,if_pos (by rw[ak];omega)];show(M.map bj)[_]?=_;rw[cS,ak,show(-1+(M.length:Int)).toNat=M.length-1 by omega,aS FE];rfl
 obtain⟨last,ur⟩:∃x,M[M.length-1]=x:=⟨_,rfl⟩;rw[ur] at K6;have W:0<=last/\last<wd.length:=by
  have:=t last ((c _).mp (ur▸fU FE));omega
 have hlt:last.toNat<wd.length:=∅
 have ahw:bU (wd.map bj) last=some (.int wd[last.toNat]):=j6 W.1 (by rw[cS,aS hlt];rfl);have hwl:=xC _ (fU hlt);have UI:∀x:Int,iS (wd.map some) (last,x)=x*wd[last.toNat]:=λx=>AU (pr:=(last,x)) (aS hlt);generalize wd[last.toNat]=wl at*;have N:wd.map bj=(wd.map some).map bJ:=by rw[je];rfl
 have hPd:nX prs.dropLast (wd.map some).length:=λpr c8=>by
  have:=C4.2.2 pr c8;rw[ak];exact⟨this.1,this.2.1,U _ ∅ ∅⟩
 have J2:dN (wd.map some):=λx hx=>by
  obtain⟨y,hy,e⟩:=bH.mp hx;cases e;have:=xC x hy;exact U x ∅ ∅
 rfl';refine Ev.cg Jd ?_;rfl';refine⟨rfl,p,prs.dropLast,wd.map some,by show[_,eA _,eA _]=_;rw[yt,N],∅,∅,hPd,J2,?_⟩;have R0:=i7 (aT prs.dropLast (wd.map some)) (show p≠0 by omega);have R1:=iY (aT prs.dropLast (wd.map some)) (show 0<p by omega);have m:∃x:Int,prs=prs.dropLast++[(last,x)]:=by
  have T:prs≠[]:=yR ∅;have e:=MZ T;refine⟨(prs.getLast T).2,?_⟩;have e2:(prs.getLast T).1=last:=by
   rw[<-ur,Ln];have hz:=J (prs.length-1) _ (aS ∅);have e3:M[prs.length-1]?=some M[M.length-1]:=by rw[show prs.length-1=M.length-1 by omega];exact aS FE
   rw[e3] at hz;exact(iI hz.1).symm
  rw[<-e2];exact e.symm
 have Ku:∀x:Int,aT (prs.dropLast++[(last,x)]) (wd.map some)%p=(aT prs.dropLast (wd.map some)%p+x*wl)%p:=λx=>by
  rw[abh,tP,UI,pq]
  congr 1
  show _+(_+0)=_;omega
 obtain⟨R,eR⟩:∃R,aT prs.dropLast (wd.map some)%p=R:=⟨_,rfl⟩;simp only[eR] at Ku R0 R1⊢;rfl';by_cases cR:R=0
 .rfl';by_cases cw:wl=0
  .rfl';obtain⟨x,hx⟩:=m
   exact q (some prs) _ (λ_ e=>by
    cases e;refine⟨o,?_⟩;rw[hx,Ku,cR,cw,BV];simp)
  .rfl';by_cases cl:1<((prs.map F1).length:Int)
   .rfl';rw[yt];exact q (some prs.dropLast) _ (λ_ e=>by cases e;exact⟨⟨yR ∅,∅,(by rw[px,yz];exact BY.sublist (Nm _)),C4.2.2⟩,by rw[eR,cR]⟩)
   .rfl';exact q none _ (λ_ e=>by cases e)
 .rfl';by_cases cw:wl=0
  .rfl';exact q none _ (λ_ e=>by cases e)
  .have hwp:wl%p≠0:=by rw[xy ∅ ∅];exact cw
   rfl';refine Ev.cg Fj ?_;rfl';refine⟨rfl,p,0-R,wl,rfl,hp,iE,hwp,∅,∅,λ⟨k,hk⟩=>?_⟩;have hs:=GC (p:=p) (b:=wl) (a:=0-R) ∅;generalize sol p wl (0-R)=sl at*;have hs1:sl≠0:=λz=>by
    subst z;rw[BV] at hk;have hkR:R=p*k:=∅
    rcases o3 k 0 with z|z|z
    .have:p*k<=p*(-1):=v5 ∅ ∅;omega
    .subst z;omega
    .have:p*1<=p*k:=v5 ∅ ∅;omega
   rfl';refine⟨by rw[yt,ak];show _+1<=10000;omega,?_⟩;show Φ _ (.list (iy (prs.map F1) none (some (-1))++[F1 (last,sl)]));rw[yt,show(prs.dropLast.map F1++[F1 (last,sl)])=(prs.dropLast++[(last,sl)]).map F1 by rw[bh];rfl];refine q (some (prs.dropLast++[(last,sl)])) _ (λ_ e=>?_);cases e;have hz:(R+sl*wl)%p=0:=by
    rw[show R+sl*wl=p*k by rw[mJ sl wl];omega];exact og p k
   refine⟨?_,by rw[Ku];exact hz⟩;have hdr:(prs.dropLast++[(last,sl)]).map (·.1)=M:=by
    rw[bh,px,yz,List.map_singleton,<-ur];have:=MZ (yR Z);rw[Ln] at this;exact this
   refine⟨by simp,by rw[cH,gQ];omega,by rw[hdr];exact BY,λpr c8=>?_⟩;rcases fO.mp c8 with h|h
   .exact C4.2.2 pr h
   .rw[aY.mp h];exact⟨W.1,W.2,by show 1<=sl;omega,hs.2⟩
def Di:DF:=λds Φ=>∃(p many wide:Int) (wd:List Int),ds=[.int p, .list (wd.map .int), .int many, .int wide]/\gu p/\p<10^40/\1<=wd.length/\wd.length<=400/\(∀x∈wd,0<=x/\x<p)/\0<=many/\many<=400/\1<=wide/\wide<=60/\∀(cs:List ao) (f:Bool),(cs.length:Int)<=many->(∀prs∈cs,ua p wd.length wide prs/\aT prs (wd.map some)%p=0)->Φ f (bR p wd.length cs)
def Kt:bW Di:=by
 intro ds Φ Ψ hm z;revert hm;walk_at "mo";exact λq=>λcs f a b=>z _ _ (q cs f a b)
def abD(o:Option ao):uF (ye o)=o.isNone:=by cases o<;>rfl
def M7:bz ["bag","p","word","many","wide","checks"] ["bag","p","word","many","wide"] (aE wH):=⟨rfl,rfl,rfl,by decide+kernel,rfl,by decide+kernel,by decide+kernel⟩
theorem I7(F:bq K "_law_planted" "_law_planted" wH f fd)(a:Callee P w K mg base "_law_planted_check" 3 ["bag","p","word","wide"] (ir 4 Ff))(bZ:mg "len"=none)(dI:mg "range"=none):
    aU P w K mg base bf 4 f fd ["bag","p","word","many","wide"] (ir 5 Di):=by
  refine F.ok M7 (λvs H Q E h=>h.1) (λcdv A outer s H vs Q E hr h=>?_);obtain⟨b,l,ws,nb,ds,Φ,rfl,O,g,V,u,D,I⟩:=pV h;obtain⟨p,many,wide,wd,rfl,hp,iE,S,L,xC,m1,m2,d1,d2,q⟩:=I;refine⟨_,(@ay _ _ _ _ _ (nK (i:=5) M7.nd rfl rfl (cy.of (show cM (aE wH) ["bag","p","word","many","wide","checks"] _ ["c","bag","p","word","wide"] [none,some 0,some 1,some 2,some 4]=true by decide+kernel)) (@kX _ _ _ _ _ _ rfl dI (@aa _ _ _ _ _ (pv 3) ai rfl) (by rfl)) (λ_ _ _ _=>⟨#[2,(by show bT (["c","bag","p","word","wide"]:List Str);decide+kernel)],eW,#[1,a,@aa _ _ _ _ _ (pv 1) (@aa _ _ _ _ _ (pv 2) (@aa _ _ _ _ _ (pv 3) (@aa _ _ _ _ _ (pv 4) ai rfl) rfl) rfl) rfl]⟩)) #[3,@eO _ _ _ _ _ (@aa _ _ _ _ _ (pv 1) #[4,@eN _ _ _ _ _ _ _ _ (iP K) jM rfl bZ iN (@aa _ _ _ _ _ (pv 2) ai rfl) ⋯ ⋯ (by rfl) (by rfl),eK (cy.of (show cM (aE wH) ["bag","p","word","many","wide","checks"] _ ["pairs"] [none]=true by decide+kernel)) (dh (K:=K) rfl (pv 5)) (λ_ _ _ _=>⟨#[2,(by show bT (["pairs"]:List Str);decide+kernel)],(mF (@aX _ _ _ _ _ _ _ _ qA (pv 0) gc (aV _))),(pv 0)⟩)] rfl)]),?_⟩;refine Sv.qO O g V u D (ρ:=[.az, .d false _, .d false _, .d false _, .d false _, .no]) rfl ?_;clear D u;have QS:(wd.map bj).length=wd.length:=ak ..;rfl';refine aq.ev (aq.qo ⋯ rfl ?_);rfl';refine iH.rel ye false (λ_ o=>∀prs,o=some prs->ua p wd.length wide prs/\aT prs (wd.map some)%p=0) ?_ λos X t=>?_
  · rintro i d ⟨hi,rfl⟩
    rfl';refine⟨by walk_at "wk",?_⟩;refine Ev.mO XO rfl ?_;rfl';exact⟨rfl,p,wide,wd,rfl,hp,iE,S,L,xC,d1,d2,λo f h=>⟨(λz=>by cases z),o,rfl,h⟩⟩
  rfl';refine aq.ev (aq.e7 ⋯ rfl ?_);rfl';refine⟨by rw[ak];omega,λv=>⟨false,λi ds=>∃es:List ao,ds=es.map dW/\es.length<=i/\∀prs∈es,ua p wd.length wide prs/\aT prs (wd.map some)%p=0,⟨[],rfl,aH _,(λ_ h=>nomatch h)⟩,?_,?_⟩⟩
  · rintro j d ds hd hl' ⟨es,rfl,hel,hes⟩
    obtain⟨o,ho,rfl⟩:=cK hd;rfl';refine⟨by walk_at "wk",?_⟩;rfl';rw[abD];cases o with
    | none =>
      rfl';exact⟨es,rfl,∅,hes⟩
    | some prs =>
      rw[show ye (some prs)=dW prs from rfl];rfl';refine⟨es++[prs],by rw[bh];rfl,by simp;omega,λq hq=>?_⟩;rcases fO.mp hq with h|h
      · exact hes q h
      · rw[aY.mp h];exact t j _ ho prs rfl
  rintro ds hl' ⟨es,rfl,hel,hes⟩;rfl';rw[ak] at hel;show Φ _ (.tuple [.int p, .int ((wd.map bj).length:Int), .list (es.map dW)]);rw[QS];exact q es _ ∅ hes
def J5:DF:=λds Φ=>∃wd:List Int,ds=[.list (wd.map .int)]/\wd.length<=10000/\∀ld:Wo,zX wd ld->Φ true (bI ld)
def WL:bW J5:=by
 intro ds Φ Ψ hm z;revert hm;walk_at "mo";exact λq=>λld hl=>z _ _ (q ld hl)
def S6:bz ["bag","word","often"] ["bag","word"] (aE Aw):=⟨rfl,rfl,rfl,by decide+kernel,rfl,by decide+kernel,by decide+kernel⟩
theorem ZM(F:bq K "_law_lossy" "_law_lossy" Aw f fd)(B:Callee P w K mg base "_law_draw" 2 ["bag","many"] mw):
  aU P w K mg base bf 3 f fd ["bag","word"] (ir 2 J5):=by
 refine F.ok S6 (λvs H Q E h=>h.1) (λcdv A outer s H vs Q E hr h=>?_);obtain⟨b,l,ws,nb,ds,Φ,rfl,O,g,V,u,D,I⟩:=pV h;obtain⟨wd,rfl,hl,q⟩:=I;refine⟨_,(@ay _ _ _ _ _ (@aO _ _ (2) _ _ _ _ S6.nd rfl (fx rfl) (@aD _ _ _ _ _ _ (cB K) bF (@fc _ _ _ _ (@Ft _ _ _ rfl)) #[9,B] (λ_ _=>rfl)) (by rfl) (by first|exact .inl rfl|exact .inr rfl|assumption)) #[3,eK (cy.of (show cM (aE Aw) ["bag","word","often"] _ ["letter","bag","often"] [none,some 0,some 2]=true by decide+kernel)) (dh (K:=K) rfl (pv 1)) (λ_ _ _ _=>⟨#[2,(by show bT (["letter","bag","often"]:List Str);decide+kernel)],eW,(@lC _ _ _ _ _ _ _ _ (@aX _ _ _ _ _ _ _ _ jb #[1,B,@aa _ _ _ _ _ (pv 1) (@aa _ _ _ _ _ (pv 2) ai rfl) rfl] aj (aV _)) gc (pv 0))⟩)]),?_⟩;refine Sv.qO O g V u D (ρ:=[.az, .d false _, .no]) rfl ?_;clear D u;rfl';intro way w1 w2;have J:way.toNat<([8,3,2,1]:List Int).length:=by show way.toNat<4;omega
 have hm:∀x∈([8,3,2,1]:List Int),1<=x/\x<=8:=⋯
 obtain⟨m1,m2⟩:=hm _ (fU J);refine⟨way,rfl, .int ([8,3,2,1]:List Int)[way.toNat],?_,?_⟩
 .show bU (cf bj [8,3,2,1]) way=_;exact j6 w1 (by rw[cS,aS J];rfl)
 generalize ([8,3,2,1]:List Int)[way.toNat]=often at m1 m2⊢;rfl';refine aq.ev (aq.e7 ⋯ rfl ?_);rfl';refine⟨by rw[ak];exact hl,λv=>⟨true,λi ds=>ds.length=i/\∀(j:Nat) d,ds[j]?=some d->d= .none\/∃x,wd[j]?=some x/\d= .int x,⟨rfl,λj d e=>by simp at e⟩,?_,?_⟩⟩
 .rintro i d ds hd hl' ⟨hl2,hI⟩;obtain⟨x,hx,rfl⟩:=cK hd;rfl';refine⟨by walk_at "wk",?_⟩;rfl';intro r r1 r2;have key:∀e:PyData,(e= .none\/e= .int x)->(ds++[e]).length=i+1/\∀(j:Nat) d,(ds++[e])[j]?=some d->d= .none\/∃x,wd[j]?=some x/\d= .int x:=λe he=>by
   refine⟨by rw[cH,gQ,hl2],λj d hj=>?_⟩;rcases Ag j ds.length with h|h|h
   .exact hI j d (by rwa[gW h] at hj)
   .subst h;simp at hj;subst hj;rw[hl2];rcases he with he|he
    .exact .inl he
    .exact .inr ⟨x,hx,he⟩
   .rw[pS (by rw[cH,gQ];omega)] at hj;cases hj
  by_cases c:r=0
  .rfl';exact key _ (.inl rfl)
  .rfl';exact key _ (.inr rfl)
 .rintro ds hl' ⟨hl2,hI⟩;rw[ak] at hl2;obtain⟨ld,rfl,fL⟩:=ad0 (wd:=wd) ds hl2 hI;exact q ld fL
def IE:DF:=λds Φ=>∃(p n c:Int) (cs:List ao) (wd:Wo),ds=[bR p n cs,bI wd, .int c]/\fG p cs wd.length/\dN wd/\0<=c/\c<cs.length/\Φ true (vW (dU p (cs.getD c.toNat []) 0 wd))
def YU:bW IE:=by
 intro ds Φ Ψ hm z;revert hm;walk_at "mo";exact λq=>z _ _ q
def N5:bz ["net","word","c","lost"] ["net","word","c"] (aE Aj):=⟨rfl,rfl,rfl,by decide+kernel,rfl,by decide+kernel,by decide+kernel⟩
theorem O4(F:bq K "_law_told" "_law_told" Aj f fd)(vY:Callee P w K mg base "_law_over" 1 ["p","a","b"] (aM 3 u0))(vg:Callee P w K mg base "_law_sum" 1 ["p","pairs","word"] (aM 3 uJ))(bZ:mg "len"=none):
    aU P w K mg base bf 2 f fd ["net","word","c"] (aM 3 IE):=by
  refine F.ok N5 (λvs H Q E h=>h.1) (λcdv A outer s H vs Q E hr h=>?_);obtain⟨nb,ds,Φ,g,u,D,I⟩:=dM h;obtain⟨p,n,c,cs,wd,rfl,hN,hW,c0,c1,q⟩:=I;refine⟨_,#[13,nK (i:=3) N5.nd rfl rfl (cy.of (show cM (aE Aj) ["net","word","c","lost"] _ ["place","factor","word"] [none,none,some 1]=true by decide+kernel)) (dh (K:=K) rfl (@aD _ _ _ _ _ _ (cB K) bF (@aD _ _ _ _ _ _ (bG K) bL (pv 0) aj (λ_ _=>rfl)) (pv 2) (λ_ _=>rfl))) (λ_ _ _ _=>⟨(@iG _ (K) _ _ _ (2) _ rfl rfl #[6,aJ (i:=0) (by show bT (["place","factor","word"]:List Str);decide+kernel) rfl (cm rfl),aJ (i:=1) (by show bT (["place","factor","word"]:List Str);decide+kernel) rfl (cm rfl)] (by rfl) (by rfl)),(mF (@aX _ _ _ _ _ _ _ _ qG (@aD _ _ _ _ _ _ (cB K) bF (pv 2) (pv 0) (λ_ _=>rfl)) gc (aV _))),(@eO _ _ _ _ _ (@aa _ _ _ _ _ (pv 0) (@aa _ _ _ _ _ (pv 1) ai rfl) rfl))⟩),#[10,(@aX _ _ _ _ _ _ _ _ j9 #[12,bZ,@aa _ _ _ _ _ (pv 3) ai rfl] aj (aV _)),gc],#[4,@aD _ _ _ _ _ _ (bG K) bL (@aD _ _ _ _ _ _ (cB K) bF (pv 3) aj (λ_ _=>rfl)) aj (λ_ _=>rfl),#[1,vY,(@aa _ _ _ _ _ (@aD _ _ _ _ _ _ (bG K) bL (pv 0) aj (λ_ _=>rfl)) #[4,(@aC _ _ _ _ _ _ _ _ jl aj #[1,vg,@aa _ _ _ _ _ (@aD _ _ _ _ _ _ (bG K) bL (pv 0) aj (λ_ _=>rfl)) (@aa _ _ _ _ _ (@aD _ _ _ _ _ _ (cB K) bF (@aD _ _ _ _ _ _ (bG K) bL (pv 0) aj (λ_ _=>rfl)) (pv 2) (λ_ _=>rfl)) (@aa _ _ _ _ _ (pv 1) ai rfl) rfl) rfl]),@aD _ _ _ _ _ _ (bG K) bL (@aD _ _ _ _ _ _ (cB K) bF (pv 3) aj (λ_ _=>rfl)) aj (λ_ _=>rfl)] rfl)]]],?_⟩;refine Sv.dH g u D (ρ:=[.d false _, .d false _, .d false _, .no]) rfl ?_;clear D u;obtain⟨prs,e1,e2,hl,hP,b⟩:=hN.at c0 c1;rw[e2] at q;have hp:=hN.1;have iE:=hN.2.1;have p2:=hN.1.1;have S:bU (cs.map dW) c=some (dW prs):=j6 c0 (by rw[cS,e1];rfl);have W:(prs.map F1).length=prs.length:=ak ..;rfl';refine aq.ev (aq.e7 ⋯ rfl ?_);rfl';refine λv=>⟨true,λi ds=>ds=(dz wd (prs.take i)).map F1,rfl,?_,?_⟩
  · rintro i d ds hd hl' rfl
    obtain⟨pr,c8,rfl⟩:=cK hd;obtain⟨g1,g2,N⟩:=hP pr (bP c8);obtain⟨o,ho,S⟩:=rZ (xs:=wd) bJ g1 g2 rfl;rfl';refine⟨by walk_at "wk",?_⟩;rfl';rw[nE];cases o with
    | none =>
      rfl';refine⟨λ_=>rfl,?_⟩;show _=cf F1 (dz wd (prs.take (i+1)));rw[FX c8,yS,if_pos ho,bh]
      rfl
    | some x =>
      rfl';show _=cf F1 (dz wd (prs.take (i+1)));rw[FX c8,yS,if_neg (by rw[ho];simp)]
  rintro ds hl' rfl;rw[W,dQ];rfl';have key:∀L,dz wd prs=L->dU p prs 0 wd=(match L with|[pr]=>some (pr.1,sol p pr.2 (0-aT prs wd%p))|_=>none):=λL e=>by unfold dU;rw[e]<;>rfl
  cases J:dz wd prs with
  | nil =>
    rfl';rw[key _ J] at q;exact q
  | cons pr r =>
    cases r with
    | cons a Y =>
      have:¬((cf F1 (pr::a::Y)).length:Int)=1:=by simp;omega
      rfl';rw[key _ J] at q;exact q
    | nil =>
      have hm:=(vm (wd:=wd) (prs:=prs) (pr:=pr) (by rw[J];simp)).1;have d0:=i7 (aT prs wd) (show p≠0 by omega);have d1:=iY (aT prs wd) (show 0<p by omega);rfl';refine Ev.cg Fj ?_;rfl';refine Ev.cg Jd ?_;rfl';refine⟨rfl,p,prs,wd,rfl,∅,∅,hP,hW,?_⟩;rfl';refine⟨rfl,p,0-aT prs wd%p,pr.2,rfl,hp,iE,b pr hm,∅,∅,λ_=>?_⟩;rfl';rw[key _ J] at q;exact q
def Ml{t:TS}{E:DE}(h:∀g:DE,(∀C,E.nx C->g.nx C)->(∀f d,E.rt f d->g.rt f d)->Sv G ρ t g):Sv G ρ t E:=h E (λ_ z=>z) λ_ _ z=>z
def G8:DF:=λds Φ=>∃(p:Int) (cs:List ao) (wd:Wo),ds=[bR p wd.length cs,bI wd]/\fG p cs wd.length/\dN wd/\wd.length<=1000/\∀f,Φ f (.tuple [bI (bx p cs wd), .list ((bX p cs wd).map eB)])
def aeo:bW G8:=by
 intro ds Φ Ψ hm z;revert hm;walk_at "mo";exact λq=>λf=>z _ _ (q f)
def mK:bz ["net","word","now","rounds","turn","found","c","told","place","letter"] ["net","word"] (aE zV):=⟨rfl,rfl,rfl,by decide+kernel,rfl,by decide+kernel,by decide+kernel⟩
theorem aaT(F:bq K "_law_rounds" "_law_rounds" zV f fd)(T:Callee P w K mg base "_law_told" 2 ["net","word","c"] (aM 3 IE))(ju:mg "list"=none)(dI:mg "range"=none)(bZ:mg "len"=none)(nQ:mg "sorted"=none):
    aU P w K mg base bf 3 f fd ["net","word"] (aM 2 G8):=by
  refine F.ok mK (λvs H Q E h=>h.1) (λcdv A outer s H vs Q E hr h=>?_);obtain⟨nb,ds,Φ,g,u,D,I⟩:=dM h;obtain⟨p,cs,wd,rfl,hN,hW,hl,q⟩:=I;refine⟨_,(@ay _ _ _ _ _ #[7,mK.nd,@gG _ _ _ _ _ _ _ _ (nG K) ue rfl ju uY (@aa _ _ _ _ _ (pv 1) ai rfl) ⋯ ⋯ (by rfl) (by rfl)] #[13,#[15,mK.nd,@fc _ _ _ _ ai],@iZ _ _ _ _ _ _ _ _ iw rfl (@kX _ _ _ _ _ _ rfl dI #[0,@aC _ _ _ _ _ _ _ _ ff (@aD _ _ _ _ _ _ (bG K) bL (pv 0) aj (λ_ _=>rfl)) aj] (by rfl)) (aJ (i:=4) mK.nd rfl (cm rfl)) (@ay _ _ _ _ _ (@aO _ _ (5) _ _ _ _ mK.nd rfl (fx rfl) Dv (by rfl) (by first|exact .inl rfl|exact .inr rfl|assumption)) (@ay _ _ _ _ _ (@iZ _ _ _ _ _ _ _ _ iw rfl (@kX _ _ _ _ _ _ rfl dI #[0,#[12,bZ,@aa _ _ _ _ _ (@aD _ _ _ _ _ _ (bG K) bL (pv 0) aj (λ_ _=>rfl)) ai rfl]] (by rfl)) (aJ (i:=6) mK.nd rfl (cm rfl)) (@ay _ _ _ _ _ (@aO _ _ (7) _ _ _ _ mK.nd rfl (cm rfl) #[8,T,@aa _ _ _ _ _ (pv 2) (@aa _ _ _ _ _ (pv 6) ai rfl) rfl] (by rfl) (by first|exact .inl rfl|exact .inr rfl|assumption)) (@aF _ _ _ (@eG _ _ _ _ _ _ _ _ (PW.pt (mQ (@aX _ _ _ _ _ _ _ _ qA (pv 7) gc (aV _)) (mh (@aX _ _ _ _ _ _ _ _ (S3 hr.units) (@aD _ _ _ _ _ _ (bG K) bL (pv 7) aj (λ_ _=>rfl)) (pv 5) (by with_unfolding_all rfl))))) (@aF _ _ _ (@iW _ _ _ _ _ _ (@eO _ _ _ _ _ (@aa _ _ _ _ _ (@aD _ _ _ _ _ _ (bG K) bL (pv 7) aj (λ_ _=>rfl)) (@aa _ _ _ _ _ (pv 6) #[0,@aD _ _ _ _ _ _ (bG K) bL (pv 7) aj (λ_ _=>rfl)] rfl) rfl)) (mH (pv 5) (@aD _ _ _ _ _ _ (bG K) bL (pv 7) aj (λ_ _=>rfl)) set_dict) (by rfl) (by rfl) (by rfl))) eH))) (by intro _;rfl)) (@ay _ _ _ _ _ #[10,@aX _ _ _ _ _ _ _ _ (Vj hr.units) (pv 5) Dv (aV _),@eO _ _ _ _ _ (@aa _ _ _ _ _ (pv 2) (@aa _ _ _ _ _ (pv 3) ai rfl) rfl)] (@ay _ _ _ _ _ (@uN _ _ _ _ (ic um xh Aa vJ (pv 3) #[0,eK (cy.of (show cM (aE zV) ["net","word","now","rounds","turn","found","c","told","place","letter"] _ ["place","found"] [none,some 5]=true by decide+kernel)) (dh (K:=K) rfl (@eN _ _ _ _ _ _ _ _ (zB) (Mq rfl) rfl nQ Ik (@aa _ _ _ _ _ (pv 5) ai rfl) ⋯ ⋯ (by rfl) (by rfl))) (λ_ _ _ _=>⟨#[2,(by show bT (["place","found"]:List Str);decide+kernel)],eW,(@aD _ _ _ _ _ _ (Bk) Rk (pv 1) (pv 0) (λ_ _=>rfl))⟩)]) (by rfl)) (@aF _ _ _ (@iZ _ _ _ _ _ _ _ _ iw rfl (dh (K:=K) rfl (@aD _ _ _ _ _ _ (cB K) bF (pv 3) (@qd _ _ _ _ _ _ pZ aj) (λ_ _=>rfl))) (@iG _ (K) _ _ _ (3) _ rfl rfl (@bS _ _ _ _ _ (aJ (i:=8) mK.nd rfl (cm rfl)) #[6,aJ (i:=6) mK.nd rfl (cm rfl),aJ (i:=9) mK.nd rfl (cm rfl)] (by rfl)) (by rfl) (by rfl)) (@aF _ _ _ (@iW _ _ _ _ _ _ (pv 9) (mH (pv 2) (pv 8) set_list) (by rfl) (by rfl) (by rfl))) (by intro _;rfl))))))) (by intro _;rfl),@aa _ _ _ _ _ (pv 2) (@aa _ _ _ _ _ (pv 3) ai rfl) rfl]),?_⟩;refine Sv.dH g u D (ρ:=[.d false _, .d false _, .no, .no, .no, .no, .no, .no, .no, .no]) rfl ?_;clear D u;have p2:=hN.1.1;have qZ:=hN.2.1;have hcl:=hN.2.2.1;have N:((cs.map dW).length:Int)=cs.length:=by rw[ak]
  have key:∀{w:Wo},w.length=wd.length->fG p cs w.length:=λ{w} h=>by rw[h];exact hN
  refine Sv.seq (Sv.vf (aq.listOf ?_));rfl';intro A2;refine Sv.seq (Sv.wK λb=>?_);refine Sv.seq (Sv.zM ?_);rfl';refine⟨λi ρ=>∃(w:Wo) (st:List (List bK)) (U J:Bool) (x4 R o B l G:Sl),ρ=[.d false (bR p wd.length cs), .d false (bI wd), .own A2 U (w.map bJ), .own b J (st.map eB),x4,R,o,B,l,G]/\w.length=wd.length/\dN w/\st++bX p cs w=bX p cs wd/\bx p cs w=bx p cs wd/\st.length=i,⟨wd,[],_,_,_,_,_,_,_,_,rfl,rfl,hW,rfl,rfl,rfl⟩,?_,?_⟩
  · rintro i d ρ ⟨hi,rfl⟩ ⟨w,st,U,J,x4,R,o,B,l,G,rfl,hwl,hwW,h1,h2,h3⟩
    have kF:=key hwl;have VW:=Ou kF hwW;refine Gv.rR ?_;refine Ml λE1 n1 C=>?_;refine Sv.seq (Sv.Sx (vH.new λn=>?_));refine Sv.seq (Sv.zM ?_);rfl';refine⟨λj ρ=>∃(o B l G:Sl),ρ=[.d false (bR p wd.length cs), .d false (bI wd), .own A2 U (w.map bJ), .own b J (st.map eB), .d true (.int (0+(i:Int))), .cE n true ((bQ p cs w j).map kM),o,B,l,G],⟨_,_,_,_,rfl⟩,?_,?_⟩
    · rintro j d ρ ⟨hj,rfl⟩ ⟨o,B,l,G,rfl⟩
      have hjc:j<cs.length:=∅
      have hfl:=xu (p:=p) (cs:=cs) (wd:=w) ∅ kF.rg (i:=j) ∅
      have ef:bQ p cs w (j+1)=match dU p (cs.getD j []) 0 w with
        |some (a,x)=>if a∈(bQ p cs w j).map (·.1) then bQ p cs w j else bQ p cs w j++[(a,(j:Int),x)]
        |none=>bQ p cs w j:=by rw[bQ]<;>rfl
      refine Gv.rR ?_;refine Ml λE2 n2 Y=>?_;refine Sv.seq (Sv.asg (Ev.KA YU ?_));refine kg.cons ?_;rfl';refine kg.own rfl ?_;refine kg.cons ?_;rfl';refine kg.nil ?_;refine⟨rfl,p,wd.length,0+(j:Int),cs,w,rfl,kF,hwW,∅,∅, .inl rfl,?_⟩;rw[show(0+(j:Int)).toNat=j by omega];have done:bQ p cs w (j+1)=bQ p cs w j->∀(Z V y8 y9:Sl),∃(o B l G:Sl),[Sl.d false (bR p wd.length cs), .d false (bI wd), .own A2 U (w.map bJ), .own b J (st.map eB), .d true (.int (0+(i:Int))), .cE n true ((bQ p cs w j).map kM),Z,V,y8,y9]=[.d false (bR p wd.length cs), .d false (bI wd), .own A2 U (w.map bJ), .own b J (st.map eB), .d true (.int (0+(i:Int))), .cE n true ((bQ p cs w (j+1)).map kM),o,B,l,G]:=λe Z V y8 y9=>by rw[e];exact⟨_,_,_,_,rfl⟩
      cases e:dU p (cs.getD j []) 0 w with
      | none =>
        rw[e] at ef;rw[show vW none=tx from rfl];rfl';exact n2 _ (done ef _ _ _ _)
      | some r =>
        obtain⟨a,x⟩:=r;rw[e] at ef;dsimp only at ef;rw[show vW (some (a,x))=p0 [.int a, .int x] from rfl];rfl';refine Ev.RA rfl ?_;rfl';rw[xc];by_cases c:a∈(bQ p cs w j).map (·.1)
        · rw[if_pos c] at ef
          have:k8 ((bQ p cs w j).map kM) a=true:=by rw[BG,q8];exact c
          rw[this];rfl';exact n2 _ (done ef _ _ _ _)
        · rw[if_neg c] at ef
          have L:k8 ((bQ p cs w j).map kM) a=false:=by rw[<-rf,BG,q8];exact c
          rw[L];generalize W:(gD _ (qq (dD 5) _ _):TS)=tl;rfl';subst W;refine Sv.QO rfl ?_;rfl';refine⟨by rw[ak];omega,?_⟩;refine n2 _ ?_;show∃(o B l G:Sl),(_:Rh)=[Sl.d false (bR p wd.length cs), .d false (bI wd), .own A2 U (w.map bJ), .own b J (st.map eB), .d true (.int (0+(i:Int))), .cE n true ((bQ p cs w (j+1)).map kM),o,B,l,G];rw[ef,bh];unfold wF;rw[L,show(0+(j:Int))=j by omega];exact⟨_,_,_,_,rfl⟩
    · rintro ρ ⟨o,B,l,G,rfl⟩
      rw[show((cs.map dW).length:Int).toNat=cs.length by omega];have hfl:=xu (p:=p) (cs:=cs) (wd:=w) ∅ kF.rg (i:=cs.length) (aH _);have c8:=(uz p cs w).length_eq;refine Sv.seq (Sv.pC (Tv.test (Ev.Jn rfl ⟨_,rfl,?_⟩)));by_cases c0:aW p cs w=[]
      · have O:bQ p cs w cs.length=[]:=by rw[c0] at c8;exact SA c8.symm
        rw[O];rw[xB c0,fW] at h1;rw[Px c0] at h2;subst h1 h2;rw[if_pos (show List.isEmpty (cf kM [])=true from rfl)];refine Sv.tL 2 rfl ?_;refine Sv.tL 3 rfl ?_;rfl';exact C _ _ (q _)
      have O:((bQ p cs w cs.length).map kM).isEmpty=false:=by
        cases z:bQ p cs w cs.length with
        |nil=>rw[z] at c8;exact absurd (SA c8) c0
        |cons=>rfl
      rw[if_neg (by rw[O];decide)];refine Sv.next ?_
      rw[uK ∅ kF.rg c0] at h1;rw[LI ∅ kF.rg c0] at h2;have hl':=Gg (p:=p) (cs:=cs) (wd:=wd);rw[<-h1,cH,cZ] at hl';refine Sv.seq (Sv.append rfl (aq.ev (aq.e7 ⋯ rfl ?_)));refine aq.ev (aq.MG rfl (by rw[ak];omega) λM X y=>?_);rw[q8] at y;obtain⟨ms,rfl,t⟩:=Lk y _ rfl;have hmr:=LP t X;have hml:ms.length<=w.length:=by rw[t.length_eq];exact hfl
      refine⟨_,rfl,by rw[ak,ak];omega,λv=>⟨true,λk ds=>ds=(ms.take k).map kj,rfl,?_,?_⟩⟩
      · rintro k d ds hd hl' rfl
        obtain⟨a,ha,rfl⟩:=cK hd;obtain⟨m,hm,rfl⟩:=cK ha;have hv:=JT (pJ (p:=p) (cs:=cs) (wd:=w) cs.length) (t.mem_iff.mp (bP hm));rfl';refine⟨by walk_at "wk",?_⟩;rfl';refine Ev.N3 rfl ?_;rfl';refine⟨_,hv,λ_=>rfl,?_⟩;show _=cf _ (dA (k+1) ms);rw[FX hm,bh]
        rfl
      rintro ds hl' rfl;refine⟨by rw[ak];omega,?_⟩;rw[ak,ak,dQ,hmr];have hsl:(st.map eB).length=st.length:=ak ..;have S:bU (st.map eB++[eB (aW p cs w)]) (-1)=some (eB (aW p cs w)):=by
        unfold bU iR;simp;rw[if_pos ∅,show(-1+((st.length:Int)+1)).toNat=st.length by omega];simp
      refine Sv.forL (Ev.Lm rfl ?_);rfl';refine λv=>⟨λk ρ=>∃(U J:Bool) (R o B l G:Sl),ρ=[.d false (bR p wd.length cs), .d false (bI wd), .own A2 U ((FV w ((aW p cs w).take k)).map bJ), .own b J (st.map eB++[eB (aW p cs w)]), .d true (.int (0+(i:Int))),R,o,B,l,G],⟨_,_,_,_,_,_,_,rfl⟩,?_,?_⟩
      · rintro k d ρ hd ⟨U,J,R,o,B,l,G,rfl⟩
        obtain⟨m,hm,rfl⟩:=cK hd;obtain⟨b1,b2,b3,b4,b5⟩:=su ∅ (bP hm) kF.rg;rfl';refine⟨m.1,m.1.toNat,rfl,Et b1 (by rw[ak,ie];omega),?_⟩;show∃(U J:Bool) (R o B l G:Sl),(_:Rh)=[.d false (bR p wd.length cs), .d false (bI wd), .own A2 U ((FV w ((aW p cs w).take (k+1))).map bJ), .own b J (st.map eB++[eB (aW p cs w)]), .d true (.int (0+(i:Int))),R,o,B,l,G];rw[FX hm,F3,Jo];exact⟨_,_,_,_,_,_,_,rfl⟩
      · rintro ρ ⟨U,J,R,o,B,l,G,rfl⟩
        rw[ak,dQ];refine n1 _ ⟨FV w (aW p cs w),st++[aW p cs w],_,_,_,_,_,_,_,_,by rw[bh];rfl,by rw[ie];exact hwl,VW,by rw[fj];exact h1,h2,by rw[cH,gQ,h3]⟩
  rintro ρ ⟨w,st,U,J,x4,R,o,B,l,G,rfl,hwl,hwW,h1,h2,h3⟩;exfalso;have hml:=Gg (p:=p) (cs:=cs) (wd:=wd);rw[<-h1,cH] at hml;omega
def NW(p:Int)(m:Nat)(w:Int)(prs:ao):Prop:=prs≠[]/\(prs.length:Int)<=w/\(prs.map (·.1)).Pairwise (· < ·)/\∀pr∈prs,0<=pr.1/\pr.1<m/\1<=pr.2/\pr.2<p
def D7:DF:=λds Φ=>∃p n:Int,ds=[.int p, .int n]/\gu p/\p<10^40/\1<=n/\n<=400/\∀(os:List Int) (cs:List ao) (f:Bool),(os.length:Int)=n->(∀x∈os,0<=x/\x<p)->(∀prs∈cs,NW p os.length 2 prs/\aT prs (os.map some)%p=0)->(cs.length:Int)<=n->Φ f (.tuple [.list (os.map .int),bR p n cs])
def Yx:bW D7:=by
 intro ds Φ Ψ hm z;revert hm;walk_at "mo";exact λq=>λos cs f a b c d=>z _ _ (q os cs f a b c d)
def wB:bz ["bag","p","n","word","checks","c","factor"] ["bag","p","n"] (aE An):=⟨rfl,rfl,rfl,by decide+kernel,rfl,by decide+kernel,by decide+kernel⟩
theorem aas(F:bq K "_law_chain" "_law_chain" An f fd)(B:Callee P w K mg base "_law_draw" 2 ["bag","many"] mw)(vY:Callee P w K mg base "_law_over" 1 ["p","a","b"] (aM 3 u0))(dI:mg "range"=none):
  aU P w K mg base bf 3 f fd ["bag","p","n"] (ir 3 D7):=by
 refine F.ok wB (λvs H Q E h=>h.1) (λcdv A outer s H vs Q E hr h=>?_);obtain⟨b,l,ws,nb,ds,Φ,rfl,O,g,V,u,D,I⟩:=pV h;obtain⟨p,n,rfl,hp,iE,n1,n2,q⟩:=I;refine⟨_,(@ay _ _ _ _ _ (nK (i:=3) wB.nd rfl rfl (cy.of (show cM (aE An) ["bag","p","n","word","checks","c","factor"] _ ["k","bag","p"] [none,some 0,some 1]=true by decide+kernel)) (@kX _ _ _ _ _ _ rfl dI (@aa _ _ _ _ _ (pv 2) ai rfl) (by rfl)) (λ_ _ _ _=>⟨#[2,(by show bT (["k","bag","p"]:List Str);decide+kernel)],eW,(@aC _ _ _ _ _ _ _ _ ff aj #[1,B,(@aa _ _ _ _ _ (pv 1) #[0,@aC _ _ _ _ _ _ _ _ jl (pv 2) aj] rfl)])⟩)) #[13,#[16,wB.nd,@fc _ _ _ _ ai],@iZ _ _ _ _ _ _ _ _ iw rfl (@kX _ _ _ _ _ _ rfl dI #[0,@aC _ _ _ _ _ _ _ _ jl (pv 2) aj] (by rfl)) (aJ (i:=5) wB.nd rfl (cm rfl)) (@ay _ _ _ _ _ #[11,(6),wB.nd,(@aC _ _ _ _ _ _ _ _ ff aj #[8,B,#[0,@aC _ _ _ _ _ _ _ _ jl (pv 1) aj]])] (@aF _ _ _ (@uN _ _ _ _ (ic um xh Aa vJ (pv 4) #[0,(@fc _ _ _ _ #[4,@eO _ _ _ _ _ (@aa _ _ _ _ _ (pv 5) (@aa _ _ _ _ _ (pv 6) ai rfl) rfl),(@eO _ _ _ _ _ #[4,@aC _ _ _ _ _ _ _ _ ff (pv 5) aj,#[1,vY,(@aa _ _ _ _ _ (pv 1) #[4,@aC _ _ _ _ _ _ _ _ jl aj (@aC _ _ _ _ _ _ _ _ jg (pv 6) (@aD _ _ _ _ _ _ (cB K) bF (pv 3) (pv 5) (λ_ _=>rfl))),@aD _ _ _ _ _ _ (cB K) bF (pv 3) (@aC _ _ _ _ _ _ _ _ ff (pv 5) aj) (λ_ _=>rfl)] rfl)]])])]) (by rfl)))) (by intro _;rfl),(@aa _ _ _ _ _ (pv 3) #[0,@eO _ _ _ _ _ (@aa _ _ _ _ _ (pv 1) (@aa _ _ _ _ _ (pv 2) (@aa _ _ _ _ _ (pv 4) ai rfl) rfl) rfl)] rfl)]),?_⟩;refine Sv.qO O g V u D (ρ:=[.az, .d false _, .d false _, .no, .no, .no, .no]) rfl ?_;clear D u;have p2:=hp.1;rfl';refine aq.ev (aq.qo ⋯ rfl ?_);rfl';refine iH.ints (λx=>1<=x/\x<p) ?_ λos X t=>?_
 .rintro i d ⟨hi,rfl⟩;rfl';refine⟨by walk_at "wk",?_⟩;rfl';exact λr C Y=>⟨r,rfl,1+r,rfl,∅,∅⟩
 have uh:(os.length:Int)=n:=∅
 have W:(os.map bj).length=os.length:=ak ..;refine Sv.seq (Sv.wK λc=>?_);refine Sv.seq (Sv.zM ?_);rfl';refine⟨λi ρ=>∃(es:List ao) (J L:Bool) (R o:Sl),ρ=[.az, .d false (.int p), .d false (.int n), .d J (.list (os.map .int)), .own c L (es.map dW),R,o]/\es.length=i/\∀prs∈es,NW p os.length 2 prs/\aT prs (os.map some)%p=0,⟨[],_,_,_,_,rfl,rfl,(λ_ h=>nomatch h)⟩,?_,?_⟩
 .rintro i d ρ ⟨hi,rfl⟩ ⟨es,J,L,R,o,rfl,hel,hes⟩;have N:i+1<os.length:=∅
  obtain⟨a1,a2⟩:=t os[i] (fU _);obtain⟨b1,b2⟩:=t os[i+1] (fU _);have K6:bU (os.map bj) (0+(i:Int))=some (.int os[i]):=j6 ∅ (by rw[show(0+(i:Int)).toNat=i by omega,cS,aS ∅];rfl);have ahw:bU (os.map bj) (0+(i:Int)+1)=some (.int os[i+1]):=j6 ∅ (by rw[show(0+(i:Int)+1).toNat=i+1 by omega,cS,aS N];rfl);have s1:Sm os[i]:=by unfold Sm;omega
  rfl';intro r C Y;have s2:Sm (1+r):=by unfold Sm;omega
  rfl';refine Ev.cg Fj ?_;rfl';have Z:0<=(1+r)*os[i]:=tJ ∅ ∅;have m1:(1+r)*os[i]<=10^40*10^40:=t8 ∅ ∅ ∅ ⋯;have m:os[i+1]%p≠0:=by rw[xy ∅ b2];omega
  refine⟨rfl,p,0-(1+r)*os[i],os[i+1],rfl,hp,iE,m,∅,∅,λhk=>?_⟩;rfl';refine⟨by rw[ak];omega,es++[[((i:Int),1+r),((i:Int)+1,sol p os[i+1] (0-(1+r)*os[i]))]],J,_,_,_,by rw[bh,show(0+(i:Int))=i by omega];rfl,by rw[cH,hel];rfl,λprs hm=>?_⟩;rcases fO.mp hm with hm|hm
  .exact hes prs hm
  rw[aY.mp hm];obtain⟨k,hk⟩:=hk;obtain⟨M,x1⟩:=GC (p:=p) (b:=os[i+1]) (a:=0-(1+r)*os[i]) ∅;have j:sol p os[i+1] (0-(1+r)*os[i])≠0:=λz=>by
   rw[z,BV] at hk;have hd:p∣(1+r)*os[i]:=⟨k,∅⟩;rcases abM hp hd with h|h
   .have:=Ej ∅ h;omega
   .have:=Ej ∅ h;omega
  clear hm;obtain⟨x,hx⟩:∃x,sol p os[i+1] (0-(1+r)*os[i])=x:=⟨_,rfl⟩;rw[hx] at M x1 j⊢;refine⟨⟨by simp,by show(2:Int)<=2;decide,?_,λpr h=>?_⟩,?_⟩
  .show List.Pairwise _ [(i:Int),(i:Int)+1];simp;omega
  .simp only[aK,cU,or_false] at h;rcases h with rfl|rfl
   .exact⟨by show(0:Int)<=i;omega,by show(i:Int)<_;omega,by show 1<=1+r;omega,by show 1+r<p;omega⟩
   .exact⟨by show(0:Int)<=i+1;omega,by show(i:Int)+1<_;omega,by show 1<=x;omega,x1⟩
  .have e1:iS (os.map some) ((i:Int),1+r)=(1+r)*os[i]:=AU (pr:=((i:Int),1+r)) (by show os[((i:Int)).toNat]?=_;rw[show((i:Int)).toNat=i by omega];exact aS _);have e2:iS (os.map some) ((i:Int)+1,x)=x*os[i+1]:=AU (pr:=((i:Int)+1,x)) (by show os[((i:Int)+1).toNat]?=_;rw[show((i:Int)+1).toNat=i+1 by omega];exact aS _);rw[tP,tP,e1,e2];show((1+r)*os[i]+(x*os[i+1]+0))%p=0;have:(1+r)*os[i]+(x*os[i+1]+0)=p*k:=by rw[hx,mJ os[i+1] x] at hk;omega
   rw[this];exact og p k
 .rintro ρ ⟨es,J,L,R,o,rfl,hel,hes⟩;have e:es.length=os.length-1:=∅
  refine Sv.tL 4 rfl ?_;rfl';exact q os es _ uh (λx hx=>by have:=t x hx;omega) hes ∅
def Ms(p:Int)(cs:List ao)(wd:Wo):Prop:=gu p/\p<10^40/\okN p wd.length cs/\(cs.map λprs=>(prs.length:Int)).sum<=2000/\(∀prs∈cs,prs.length<=60)/\∀x,some x∈wd->0<=x/\x<p
def Eb(p:Int)(cs:List ao)(wd:Wo)(r:Bool):Prop:=Ms p cs wd/\1<=wd.length/\(r=true->∃os:List Int,wd.length=os.length/\(∀x∈os,0<=x/\x<p)/\(∀prs∈cs,aT prs (os.map some)%p=0)/\Agree os wd)
def EW:DF:=λds Φ=>ds=[]/\∀(p:Int) (cs:List ao) (wd:Wo) (r f:Bool),Eb p cs wd r->Φ f (.tuple [bR p wd.length cs,bI wd, .bool r])
def Ro:bW EW:=by
 intro ds Φ Ψ hm z;revert hm;walk_at "mo";exact λq=>λp cs wd s f a=>z _ _ (q p cs wd s f a)
theorem Nl{w:Int}:∀{cs:List ao},(∀prs∈cs,(prs.length:Int)<=w)->(cs.map λprs=>(prs.length:Int)).sum<=cs.length*w
  |[],_=>by simp
  | a :: cs, h => by
    have ih:=Nl (cs:=cs) λprs hp=>h prs (cF _ hp);have h1:=h a cP;rw[aZ,rV,cZ,show(((cs.length+1:Nat):Int)*w)=cs.length*w+w by rw[JC,DV];simp];omega
def Lb{w:Int}(h:prs≠[]/\(prs.length:Int)<=w/\(prs.map (·.1)).Pairwise (· < ·)/\∀pr∈prs,0<=pr.1/\pr.1<m/\1<=pr.2/\pr.2<p):AK p m prs:=⟨h.1,xW.mp h.2.2.1,h.2.2.2⟩
theorem OM{w:Int}(hp:gu p)(iE:p<10^40)(h1:1<=m)(h2:m<=400)(hl:wd.length=m)(hw:w<=60)(hc:cs.length<=400)(a:(cs.length:Int)*w<=2000)(h:∀prs∈cs,prs≠[]/\(prs.length:Int)<=w/\(prs.map (·.1)).Pairwise (· < ·)/\∀pr∈prs,0<=pr.1/\pr.1<m/\1<=pr.2/\pr.2<p)(hr:∀x,some x∈wd->0<=x/\x<p):Ms p cs wd:=by
 have p2:=hp.1;refine⟨hp,iE,⟨p2,∅,∅,hc,λprs J=>by rw[hl];exact Lb (h prs J)⟩,?_,λprs J=>by have:=(h prs J).2.1;omega,hr⟩;exact x9 (Nl λprs J=>(h prs J).2.1) a
def acZ(os:List Int):Agree os (os.map some):=λi x h=>by
 rw[cS] at h;obtain⟨y,hy,e⟩:=lH.mp h;cases e;exact hy
def j8:bz ["bag","p","true","net","size","way","whole","wide","word","at"] ["bag"] (aE zW):=⟨rfl,rfl,rfl,by decide+kernel,rfl,by decide+kernel,by decide+kernel⟩
theorem YO(F:bq K "_law_case" "_law_case" zW f fd)(aha:Callee P w K mg base "_law_prime" 3 ["bag"] (ir 1 FT))(B:Callee P w K mg base "_law_draw" 2 ["bag","many"] mw)(O7:Callee P w K mg base "_law_letters" 3 ["bag","p","n"] (ir 3 Dl))(aea:Callee P w K mg base "_law_planted" 4 ["bag","p","word","many","wide"] (ir 5 Di))(WE:Callee P w K mg base "_law_chain" 3 ["bag","p","n"] (ir 3 D7))(Z1:Callee P w K mg base "_law_lossy" 3 ["bag","word"] (ir 2 J5))(E7:mg "max"=none)(ju:mg "list"=none):
    aU P w K mg base bf 5 f fd ["bag"] (ir 1 EW):=by
  refine F.ok j8 (λvs H Q E h=>h.1) (λcdv A outer s H vs Q E hr h=>?_);obtain⟨b,l,ws,nb,ds,Φ,rfl,O,g,V,u,D,I⟩:=pV h;obtain⟨rfl,q⟩:=I;refine⟨_,(@ay _ _ _ _ _ #[17,j8.nd,#[14,aha]] (@ay _ _ _ _ _ (@eG _ _ _ _ _ _ _ _ (@aX _ _ _ _ _ _ _ _ jb #[9,B] aj (aV _)) (@ay _ _ _ _ _ (@iW _ _ _ _ _ _ #[8,WE,(@aa _ _ _ _ _ (pv 1) #[0,(@aC _ _ _ _ _ _ _ _ ff aj #[9,B])] rfl)] (@iG _ (K) _ _ _ (2) _ rfl rfl #[6,aJ (i:=2) j8.nd rfl (cm rfl),aJ (i:=3) j8.nd rfl (cm rfl)] (by rfl) (by rfl)) (by rfl) (by rfl) (by rfl)) #[3,@eO _ _ _ _ _ (@aa _ _ _ _ _ (pv 3) #[4,@aC _ _ _ _ _ _ _ _ oR (@lX _ _ _ _ _ _ _ _ _ (jZ K) nk (pv 2) lR (@lD _ _ _ aj)) (eK (cy.of (show cM (aE zW) ["bag","p","true","net","size","way","whole","wide","word","at"] _ ["letter"] [none]=true by decide+kernel)) (dh (K:=K) rfl (@lX _ _ _ _ _ _ _ _ _ (jZ K) nk (pv 2) (@lD _ _ _ aj) lR)) (λ_ _ _ _=>⟨#[2,(by show bT (["letter"]:List Str);decide+kernel)],eW,gc⟩)),pW] rfl)]) eH) (@ay _ _ _ _ _ #[16,j8.nd,@eN _ _ _ _ _ _ _ _ _ (ZT rfl) rfl E7 yn (@aa _ _ _ _ _ aj #[0,(@aC _ _ _ _ _ _ _ _ jl #[9,B] aj)] rfl) ⋯ ⋯ (by rfl) (by rfl)] (@ay _ _ _ _ _ (@aO _ _ (5) _ _ _ _ j8.nd rfl (cm rfl) #[9,B] (by rfl) (by first|exact .inl rfl|exact .inr rfl|assumption)) (@ay _ _ _ _ _ #[11,(6),j8.nd,#[9,B]] (@ay _ _ _ _ _ (@aO _ _ (7) _ _ _ _ j8.nd rfl (cm rfl) (@lC _ _ _ _ _ _ _ _ (@aX _ _ _ _ _ _ _ _ nI (pv 4) aj (aV _)) (@aD _ _ _ _ _ _ (cB K) bF (@fc _ _ _ _ (@Ft _ _ _ rfl)) #[9,B] (λ_ _=>rfl)) aj) (by rfl) (by first|exact .inl rfl|exact .inr rfl|assumption)) (@ay _ _ _ _ _ #[7,j8.nd,#[8,O7,(@aa _ _ _ _ _ (pv 1) #[0,@aD _ _ _ _ _ _ (cB K) bF (@fc _ _ _ _ (@aa _ _ _ _ _ (@aC _ _ _ _ _ _ _ _ ff aj #[9,B]) #[4,(@aC _ _ _ _ _ _ _ _ ff aj #[9,B]),(@aC _ _ _ _ _ _ _ _ ff aj #[9,B])] rfl)) (pv 4) (λ_ _=>rfl)] rfl)]] (@ay _ _ _ _ _ #[15,j8.nd,#[8,aea,@aa _ _ _ _ _ (pv 1) (@aa _ _ _ _ _ (pv 2) #[4,@aD _ _ _ _ _ _ (cB K) bF (@fc _ _ _ _ (@aa _ _ _ _ _ #[9,B] #[4,#[9,B],(@aC _ _ _ _ _ _ _ _ ff aj #[9,B])] rfl)) (pv 4) (λ_ _=>rfl),pv 7] rfl) rfl]] (@ay _ _ _ _ _ (@eG _ _ _ _ _ _ _ _ (@aX _ _ _ _ _ _ _ _ jb (pv 5) aj (aV _)) (@aF _ _ _ #[7,j8.nd,#[8,O7,(@aa _ _ _ _ _ (pv 1) #[0,@aD _ _ _ _ _ _ (bG K) bL (pv 3) aj (λ_ _=>rfl)] rfl)]]) eH) (@ay _ _ _ _ _ #[11,(8),j8.nd,(@lC _ _ _ _ _ _ _ _ (@aX _ _ _ _ _ _ _ _ jb (pv 6) aj (aV _)) (@gG _ _ _ _ _ _ _ _ (nG K) ue rfl ju uY (@aa _ _ _ _ _ (pv 2) ai rfl) ⋯ ⋯ (by rfl) (by rfl)) #[1,Z1,@aa _ _ _ _ _ (pv 0) (@aa _ _ _ _ _ (pv 2) ai rfl) rfl])] #[13,#[11,(9),j8.nd,#[8,B,#[0,@aD _ _ _ _ _ _ (bG K) bL (pv 3) aj (λ_ _=>rfl)]]],@eG _ _ _ _ _ _ _ _ (PW.pt (mQ (@aX _ _ _ _ _ _ _ _ jb (pv 5) aj (aV _)) (mh (@aX _ _ _ _ _ _ _ _ qA (@aD _ _ _ _ _ _ (cB K) bF (pv 8) (pv 9) (λ_ _=>rfl)) gc (aV _))))) (@aF _ _ _ (@iW _ _ _ _ _ _ (@aC _ _ _ _ _ _ _ _ jq (@aC _ _ _ _ _ _ _ _ ff (@aC _ _ _ _ _ _ _ _ ff (@aD _ _ _ _ _ _ (cB K) bF (pv 8) (pv 9) (λ_ _=>rfl)) aj) #[8,B,#[0,@aC _ _ _ _ _ _ _ _ jl (pv 1) aj]]) (pv 1)) (mH (pv 8) (pv 9) set_list) (by rfl) (by rfl) (by rfl))) eH,(@aa _ _ _ _ _ (pv 3) #[4,pv 8,@oZ _ _ _ _ _ _ _ _ jb (pv 5) aj (aV _)] rfl)])))))))))),?_⟩;refine Sv.qO O g V u D (ρ:=[.az, .no, .no, .no, .no, .no, .no, .no, .no, .no]) rfl ?_;clear D u;rfl';refine Ev.mO Rq rfl ?_;rfl';refine⟨rfl,λp hp iE Y=>?_⟩;have p2:=hp.1;have hpk:QL p:=⟨∅,∅⟩;rfl';intro d1 d1a d1b;by_cases c1:d1=15
  · rfl'
    refine Ev.mO Yx rfl ?_;rfl';intro d2 d2a d2b;rfl';refine⟨rfl,p,40+d2,rfl,hp,iE,∅,∅,λos cs U uh t G hcl=>?_⟩;obtain⟨o,r,rfl⟩:∃o r,os=o::r:=S0 (λz=>by rw[z] at uh;simp at uh;omega);have e1:iy ((o::r).map bj) none (some 1)=[.int o]:=by
      unfold iy HT.fk;simp
    have e2:iy ((o::r).map bj) (some 1) none=r.map .int:=by rw[Ey ⋯ (by simp;omega)];rfl
    have Z:(r.map bj).length=r.length:=ak ..;have hor:(o::r).length=r.length+1:=rfl;rfl';refine aq.ev (aq.e7 ⋯ rfl ?_);rfl';rw[e2];refine⟨∅,λv=>⟨true,λi ds=>ds=cq i .none,rfl,?_,?_⟩⟩
    · rintro i d ds hd hl' rfl
      rfl';refine⟨by walk_at "wk",?_⟩;rfl';exact(Ti ..).symm
    rintro ds hl' rfl;rw[e1,Z];refine⟨_,rfl,by rw[LD];show 1+_<=_;omega,?_⟩;rfl';have hwl:(some o::cq r.length none:Wo).length=(o::r).length:=by simp
    have ew:bI (some o::cq r.length none)= .list ([bj o]++cq r.length tx):=by
      show eA (cf bJ _)=_;rw[aZ,List.map_replicate]
      rfl
    have c:∀x,some x∈(some o::cq r.length none:Wo)->x=o:=λx hx=>by
      rcases aK.mp hx with h|h
      · exact iI h
      · exact absurd (NC h) (by simp)
    have hq:=λf=>q p cs (some o::cq r.length none) true f ⟨OM (w:=2) (m:=(o::r).length) hp iE ∅ ∅ hwl ⋯ ∅ ∅ (λprs h=>(G prs h).1) (λx hx=>by rw[c x hx];exact t o (by simp)),∅,λ_=>⟨o::r,hwl,t,λprs h=>(G prs h).2,λi x h=>by
      cases i with
      |zero=>cases h;rfl
      |succ i=>exact absurd (NC (bP h)) (by simp)⟩⟩
    rw[hwl,uh,ew] at hq;exact hq _
  rfl';intro s s1 s2;rfl';obtain⟨sz,hsz,z0,z1⟩:∃sz:Int,(if s-13>0 then s-13 else 0)=sz/\0<=sz/\sz<3:=⟨_,rfl,by split<;>omega,by split<;>omega⟩;rw[hsz];intro way y1 y2;refine Gv.rR ?_;rfl';intro wh h1 h2;refine Gv.rR ?_;refine Sv.seq ?_;refine Sv.rE (λC=>∃wide:Int,1<=wide/\wide<=20/\(sz=2->wide=4)/\C=[.az, .d true (.int p), .no, .no, .d true (.int sz), .d true (.int way), .d true (.int wh), .d true (.int wide), .no, .no]) ?_ ?_
  · rfl'
    by_cases cz:sz<2
    · rw[decide_eq_true cz,if_pos rfl]
      rfl';intro d4 d4a d4b;obtain⟨wide,ew,ew1,Yu⟩:=pick (L:=[4,4,4,20]) (k:=d4) d4a (by show _<(4:Int);omega) (λx=>1<=x/\x<=20) ⋯;refine⟨_,rfl,_,ew,?_⟩;refine Gv.name ?_;exact⟨wide,ew1,Yu,λz=>∅,rfl⟩
    · rw[decide_eq_false cz,if_neg ⋯]
      rfl';exact⟨4,⋯,⋯,λ_=>rfl,rfl⟩
  rintro C ⟨wide,i1,i2,i3,rfl⟩;rfl';refine Ev.mO LM rfl ?_;rfl';intro a0 a1 a2;refine⟨a0,rfl,?_⟩;rfl';intro b0 b1 b2;refine⟨b0,rfl,?_⟩;rfl';intro c0 c1' c2;refine⟨c0,rfl,?_⟩;rfl';obtain⟨len,M,aiG,aib⟩:=pick (L:=[1+a0,1+b0,100+c0]) (k:=sz) z0 (by show _<(3:Int);omega) (λx=>1<=x/\x<=400) (by simp;omega);refine⟨_,M,?_⟩;rfl';refine⟨rfl,p,len,rfl,hpk,∅,∅,λos X t=>?_⟩;rfl';refine Ev.mO Kt rfl ?_;rfl';intro a3 a4 a5;rfl';intro b3 b4 b5;rfl';intro c3 c4 N;refine⟨c3,rfl,?_⟩;rfl';obtain⟨many,R,hm0,n,hmw⟩:∃many:Int,bU [bj a3, .int b3, .int (300+c3)] sz=some (.int many)/\0<=many/\many<=400/\many*wide<=2000:=by
    rcases(show sz=0\/sz=1\/sz=2 by omega) with h|h|h
    · refine⟨a3,by rw[h];rfl,a4,∅,?_⟩
      have:a3*wide<=13*20:=t8 ∅ i2 ∅ ⋯;omega
    · refine⟨b3,by rw[h];rfl,b4,∅,?_⟩
      have:b3*wide<=61*20:=t8 ∅ i2 ∅ ⋯;omega
    · refine⟨300+c3,by rw[h];rfl,∅,∅,?_⟩
      rw[i3 h];omega
  refine⟨_,R,?_⟩;rfl';refine⟨rfl,p,many,wide,os,rfl,hp,iE,∅,∅,t,hm0,n,i1,∅,λcs fN hcl G=>?_⟩;refine Gv.pD ?_;refine Sv.seq ?_;refine Sv.rE (λC=>∃(a:List Int) (U J:Bool),a.length=os.length/\(∀x∈a,0<=x/\x<p)/\(way=0->a=os)/\C=[.az, .d true (.int p), .d U (.list (a.map .int)), .d J (bR p os.length cs), .d true (.int sz), .d true (.int way), .d true (.int wh), .d true (.int wide), .no, .no]) ?_ ?_
  · by_cases N:way=2
    · rfl'
      refine Ev.mO LM rfl ?_;rfl';refine⟨rfl,p,os.length,rfl,hpk,∅,∅,λa air Cz=>?_⟩;rfl';exact⟨a,_,_,∅,Cz,λz=>∅,rfl⟩
    · rfl'
      exact⟨os,_,_,rfl,t,λ_=>rfl,rfl⟩
  rintro C ⟨a,U,J,hl2,Cz,hw2,rfl⟩;refine Sv.seq ?_;refine Sv.rE (λC=>∃(ld:Wo) (A:ax) (f8:Bool),zX a ld/\C=[.az, .d true (.int p), .d U (.list (a.map .int)), .d J (bR p os.length cs), .d true (.int sz), .d true (.int way), .d true (.int wh), .d true (.int wide), .own A f8 (ld.map bJ), .no]) ?_ ?_
  · refine Sv.vf (aq.ve (Tv.test ?_))
    rfl';by_cases W:wh=1
    · rw[decide_eq_true W,if_pos rfl]
      refine aq.listOf (Ev.var rfl ⟨_, .inl rfl,λA=>?_⟩);exact⟨a.map some,A,_,⟨by rw[ak],λi x h=>acZ a i x h⟩,by rw[je];rfl⟩
    · rw[decide_eq_false W,if_neg ⋯]
      refine jH.VQ (jH.mO WL rfl ?_);rfl';refine⟨rfl,a,rfl,∅,λld fL=>⟨rfl,_,rfl,Nd ld,λA=>?_⟩⟩;exact⟨ld,A,_,fL,rfl⟩
  rintro C ⟨ld,A,f8,fL,rfl⟩;have pI:ld.length=os.length:=by rw[fL.1];exact hl2
  have T:∀x,some x∈ld->0<=x/\x<p:=λx hx=>Cz x (Qr fL hx);rfl';intro pl l1 l2;refine Gv.rR ?_;refine Sv.seq ?_;refine Sv.rE (λC=>∃(j:Wo) (g8:Bool),j.length=os.length/\(∀x,some x∈j->0<=x/\x<p)/\(way=0->j=ld)/\C=[.az, .d true (.int p), .d U (.list (a.map .int)), .d J (bR p os.length cs), .d true (.int sz), .d true (.int way), .d true (.int wh), .d true (.int wide), .own A g8 (j.map bJ), .d true (.int pl)]) ?_ ?_
  · obtain⟨o,ho,S⟩:=rZ (xs:=ld) bJ (k:=pl) (m:=ld.length) l1 ∅ rfl
    by_cases c7:way=1
    · rfl'
      rw[nE];cases o with
      | none =>
        rfl';exact⟨ld,_,pI,T,λz=>∅,rfl⟩
      | some x =>
        have hx:=T x (bP ho);rw[show bJ (some x)= .int x from rfl] at S;rfl';intro y y1' y2';rfl';refine⟨pl,pl.toNat,rfl,Et l1 (by rw[ak];omega),?_⟩;refine⟨ld.set pl.toNat (some ((x+1+y)%p)),_,by rw[jx];exact pI,λz hz=>?_,λz=>∅,by rw[Jo];rfl⟩;rcases G5 hz with h|h
        · exact T z h
        · cases h
          exact⟨i7 _ ∅,iY _ ∅⟩
    · rfl'
      exact⟨ld,_,pI,T,λ_=>rfl,rfl⟩
  rintro C ⟨j,g8,hl3,hrg3,hw3,rfl⟩;refine Sv.tL 8 rfl ?_;rfl';have abV:(cs.length:Int)*wide<=2000:=x9 (KW hcl ∅) hmw
  have hq:=λf=>q p cs j (decide (way=0)) f ⟨OM (w:=wide) (m:=os.length) hp iE ∅ ∅ hl3 ∅ ∅ abV (λprs h=>(G prs h).1) hrg3,∅,λz=>by
    have z:=of_decide_eq_true z;rw[hw3 z];have e:=hw2 z;subst e;exact⟨a,pI,Cz,λprs h=>(G prs h).2,fL.2⟩⟩
  rw[hl3] at hq;exact hq _
theorem tV:∀(R:List Str),(dq (ag "") R).cps.toList=(R.map λx=>x.cps.toList).flatten
  |[]=>by rw[join_eq];rfl
  |[a]=>by rw[join_eq];show a.cps.toList=_;simp
  | a :: b :: R => by
    have ih:=tV (b::R);rw[join_eq] at ih⊢;show((a.cps++(ag "").cps)++(ke (ag "") (b::R)).cps).toList=_;rw[fS,fS,ih];have:(ag "").cps.toList=[]:=⋯
    rw[this];simp
def gJ(x y:Str):(x++y).cps.toList=x.cps.toList++y.cps.toList:=by
 show(x.cps++y.cps).toList=_;rw[fS]
def sR(x:Str):x.cps.toList.length=x.length:=by simp[er]
noncomputable def ow:Option Int->Str
 |none=> "-"
 |some n=>nS n
noncomputable def mq:Option Int->Str
 |none=>ag " -"
 |some n=>ag " " ++nS n
def YS(o:Option Int):(mq o).cps.toList=32::(ow o).cps.toList:=by
  cases o with
  |none=>decide
  | some n =>
    show(ag " " ++nS n).cps.toList=_;rw[gJ,show(ag " ").cps.toList=[32] by decide]
    rfl
theorem Es(h:∀n,some n∈wd->n.natAbs<10^60):∀y∈wd.map mq,y.length<=62:=λy hy=>by
  obtain⟨o,ho,rfl⟩:=bH.mp hy;have G:(ag " ").length=1:=⋯
  cases o with
  |none=>exact(by decide:(ag " -").length<=62)
  | some n =>
    have:=(fY (h n ho)).2.1;show(ag " " ++nS n).length<=62;rw[len_app,G];omega
theorem Td{B:Nat}:∀{R:List Str},(∀y∈R,y.length<=B)->(dq (ag "") R).length<=R.length*B:=λ{R} h=>by
  have e:=congrArg gO (tV R);rw[sR] at e;rw[e];have:∀R:List Str,(∀y∈R,y.length<=B)->(R.map λx=>x.cps.toList).flatten.length<=R.length*B:=λR=>by
    induction R with
    |nil=>intro _;exact eT _
    | cons a R ih =>
      intro h;have h1:=h a cP;have h2:=ih λy hy=>h y (cF _ hy);rw[aZ,nh,cH,sR,cZ,C0];omega
  exact this R h
def L7(wd:Wo):ag "word" ++dq (ag "") (wd.map mq)=bA "word" (wd.map ow):=by
 refine jy ?_;unfold bA;rw[gJ,tV,join_eq,F0,je,je]
 congr 3
 funext o
 exact YS o
def Bb:DF:=λds Φ=>∃(wd:Wo),ds=[bI wd]/\wd.length<=1000/\(∀n,some n∈wd->n.natAbs<10^60)/\Φ true (.str (bA "word" (wd.map ow)))
def RW:bW Bb:=by
 intro ds Φ Ψ hm z;revert hm;walk_at "mo";exact λq=>z _ _ q
def Yh:bz ["word"] ["word"] (aE Bq):=⟨rfl,rfl,rfl,by decide+kernel,rfl,by decide+kernel,by decide+kernel⟩
theorem Xu(F:bq K "_law_word_text" "_law_word_text" Bq f fd)(eY:mg "str"=none):
    aU P w K mg base bf 1 f fd ["word"] (aM 1 Bb):=by
  refine F.ok Yh (λvs H Q E h=>h.1) (λcdv A outer s H vs Q E hr h=>?_);obtain⟨nb,ds,Φ,g,u,D,I⟩:=dM h;obtain⟨wd,rfl,hl,hn,q⟩:=I;refine⟨_,#[3,@aC _ _ _ _ _ _ _ _ gV bY (jN (K:=K) rfl (ic jR oH o8 oW bY #[0,eK (cy.of (show cM (aE Bq) ["word"] _ ["letter"] [none]=true by decide+kernel)) (dh (K:=K) rfl (pv 0)) (λ_ _ _ _=>⟨#[2,(by show bT (["letter"]:List Str);decide+kernel)],eW,(@lC _ _ _ _ _ _ _ _ (@aX _ _ _ _ _ _ _ _ qG (pv 0) gc (aV _)) bY (@aC _ _ _ _ _ _ _ _ gV bY #[18,eY]))⟩)]))],?_⟩;refine Sv.dH g u D (ρ:=[.d false _]) rfl ?_;clear D u;have h4:8000000<=sizeLine:=⋯
  have m:(wd.map bJ).length=wd.length:=ak ..;have O:(ag "word").length=4:=⋯
  have G:(ag " ").length=1:=⋯
  have hfl:=Td (Es hn);have e:(wd.map mq).length*62<=1000*62:=oA _ (by rw[ak];exact hl);refine Sv.ret (Ev.gU (Ev.str ⟨_,rfl,?_⟩));refine Ev.join (Ev.str ⟨_,rfl,?_⟩);refine aq.ev (aq.e7 ⋯ rfl ?_);refine Ev.var rfl ⟨_,rfl,∅,λv=>⟨true,λj ds=>ds=((wd.take j).map mq).map .str,rfl,?_,?_⟩⟩
  · rintro j d ds hd hl' rfl
    obtain⟨o,ho,rfl⟩:=cK hd;rfl';refine⟨by walk_at "wk",?_⟩;rfl';rw[nE];have key:(cf cx (cf mq (dA j wd))++[cx (mq o)])=cf cx (cf mq (dA (j+1) wd)):=by
      rw[FX ho,bh,bh];rfl
    cases o with
    | none =>
      rfl';exact key
    | some n =>
      have hn1:=hn n (bP ho);have hn2:=(fY hn1).2.1;rfl';refine Ev.gU (Ev.str ⟨_,rfl,?_⟩);refine Ev.k9 (Ev.var rfl ⟨n,rfl,hn1,_,rfl,by rw[G];omega,λ_=>rfl,key⟩)
  rintro ds hl' rfl;rw[m,dQ];refine⟨wd.map mq,rfl,?_,_,rfl,?_,?_⟩
  · unfold mE
    rw[rS];exact uv (Es hn) (by rw[ak];show _+_*0<=_;omega)
  · omega
  rw[L7];exact q
noncomputable def n6(pr:Int×Int):Str:=ag " " ++nS pr.1++ag ":" ++nS pr.2
def PZ(pr:Int×Int):(n6 pr).cps.toList=32::(jv pr).cps.toList:=by
 unfold n6 jv;rw[gJ,gJ,gJ,gJ,gJ,show(ag " ").cps.toList=[32] by decide];simp
theorem Q8(h:zQ pr):(n6 pr).length<=124:=by
 have e:=congrArg gO (PZ pr);rw[sR,cZ,sR] at e;have:=(Jh h).1;omega
def XF(prs:ao):(ag "\ncheck" ++dq (ag "") (prs.map n6)).cps.toList=10::(bA "check" (prs.map jv)).cps.toList:=by
 unfold bA;rw[gJ,tV,join_eq,F0,je,je,show(ag "\ncheck").cps.toList=10::(ag "check").cps.toList by decide];rw[jk]
 congr 4
 funext pr
 exact PZ pr
def aes(p n:Int):(ag "net " ++nS p++ag " " ++nS n).cps.toList=(bA "net" ([p,n].map nS)).cps.toList:=by
 unfold bA;rw[gJ,gJ,gJ,join_eq,aZ,aZ,jU,F0,show(ag "net ").cps.toList=(ag "net").cps.toList++[32] by decide,show(ag " ").cps.toList=[32] by decide];simp
def Ic:DF:=λds Φ=>∃(p n:Int) (cs:List ao) (wd:Wo),ds=[bR p n cs,bI wd]/\sL p n cs/\wd.length<=1000/\(∀n,some n∈wd->n.natAbs<10^60)/\∀f,Φ f (.tuple [.str (nY p n cs), .str (bA "word" (wd.map ow))])
def W7:bW Ic:=by
 intro ds Φ Ψ hm z;revert hm;walk_at "mo";exact λq=>λf=>z _ _ (q f)
def BC:bz ["net","word","text","pairs"] ["net","word"] (aE yO):=⟨rfl,rfl,rfl,by decide+kernel,rfl,by decide+kernel,by decide+kernel⟩
theorem K9(F:bq K "_law_texts" "_law_texts" yO f fd)(Jw:Callee P w K mg base "_law_word_text" 1 ["word"] (aM 1 Bb))(eY:mg "str"=none):
    aU P w K mg base bf 2 f fd ["net","word"] (aM 2 Ic):=by
  refine F.ok BC (λvs H Q E h=>h.1) (λcdv A outer s H vs Q E hr h=>?_);obtain⟨nb,ds,Φ,g,u,D,I⟩:=dM h;obtain⟨p,n,cs,wd,rfl,hok,hwl,c,q⟩:=I;refine⟨_,#[13,#[7,BC.nd,@aC _ _ _ _ _ _ _ _ gV (@aC _ _ _ _ _ _ _ _ gV (@aC _ _ _ _ _ _ _ _ gV bY (@gG _ _ _ _ _ _ _ _ (ji) kL rfl eY j5 (@aa _ _ _ _ _ (@aD _ _ _ _ _ _ (bG K) bL (pv 0) aj (λ_ _=>rfl)) ai rfl) ⋯ ⋯ (by rfl) (by rfl))) bY) (@gG _ _ _ _ _ _ _ _ (ji) kL rfl eY j5 (@aa _ _ _ _ _ (@aD _ _ _ _ _ _ (bG K) bL (pv 0) aj (λ_ _=>rfl)) ai rfl) ⋯ ⋯ (by rfl) (by rfl))],@iZ _ _ _ _ _ _ _ _ iw rfl (dh (K:=K) rfl (@aD _ _ _ _ _ _ (bG K) bL (pv 0) aj (λ_ _=>rfl))) (aJ (i:=3) BC.nd rfl (cm rfl)) (@aF _ _ _ #[7,BC.nd,@aC _ _ _ _ _ _ _ _ gV (@aC _ _ _ _ _ _ _ _ gV (pv 2) bY) (jN (K:=K) rfl (ic jR oH o8 oW bY #[0,eK (cy.of (show cM (aE yO) ["net","word","text","pairs"] _ ["place","factor"] [none,none]=true by decide+kernel)) (dh (K:=K) rfl (pv 3)) (λ_ _ _ _=>⟨(@iG _ (K) _ _ _ (2) _ rfl rfl #[6,#[2,(by show bT (["place","factor"]:List Str);decide+kernel)],aJ (i:=1) (by show bT (["place","factor"]:List Str);decide+kernel) rfl (cm rfl)] (by rfl) (by rfl)),eW,(@aC _ _ _ _ _ _ _ _ gV (@aC _ _ _ _ _ _ _ _ gV (@aC _ _ _ _ _ _ _ _ gV bY #[18,eY]) bY) (@gG _ _ _ _ _ _ _ _ (ji) kL rfl eY j5 (@aa _ _ _ _ _ (pv 1) ai rfl) ⋯ ⋯ (by rfl) (by rfl)))⟩)]))]) (by intro _;rfl),(@aa _ _ _ _ _ (pv 2) #[0,@aI _ _ _ _ _ _ _ _ _ _ Jw (hr.mono ⋯) (@aa _ _ _ _ _ (pv 1) ai rfl) (by rfl) ⋯ (by rfl) (by rfl)] rfl)],?_⟩;refine Sv.dH g u D (ρ:=[.d false _, .d false _, .no, .no]) rfl ?_;clear D u;have h4:12200000<=sizeLine:=⋯
  have hcl:=hok.2.2.1;have a:=(fY hok.1).2.1;have b:=(fY hok.2.1).2.1;have N:(cs.map dW).length=cs.length:=ak ..;have O:(ag "net ").length=4:=⋯
  have G:(ag " ").length=1:=⋯
  have r:(ag "\ncheck").length=6:=⋯
  have l5:(ag ":").length=1:=⋯
  refine Sv.seq (Sv.asg ?_);refine Ev.gU (Ev.gU (Ev.gU (Ev.str ⟨_,rfl,?_⟩)));refine Ev.k9 (Ev.p8 (Ev.var rfl ⟨_,rfl,Ev.int ⟨_,rfl,_,rfl,p,rfl,hok.1,_,rfl,by rw[O];omega,?_⟩⟩));refine⟨_,rfl,Ev.str ⟨_,rfl,by rw[len_app,O,G];omega,?_⟩⟩;refine⟨_,rfl,Ev.k9 (Ev.p8 (Ev.var rfl ⟨_,rfl,Ev.int ⟨_,rfl,_,rfl,n,rfl,hok.2.1,_,rfl,by rw[len_app,len_app,O,G];omega,?_⟩⟩))⟩;refine Gv.name ?_;refine Sv.seq ?_;refine Sv.forL ?_;refine Ev.p8 (Ev.var rfl ⟨_,rfl,Ev.int ⟨_,rfl,_,rfl,?_⟩⟩);refine⟨_,rfl,λv=>⟨λj ρ=>∃(Y:Bool) (x2:Sl) (s:Str),ρ=[.d false (bR p n cs), .d false (bI wd), .d Y (.str s),x2]/\s.cps.toList=(bA "net" ([p,n].map nS)).cps.toList++((cs.take j).map λprs=>10::(bA "check" (prs.map jv)).cps.toList).flatten/\s.length<=200+j*30001,⟨_,_,_,rfl,?_,?_⟩,?_,?_⟩⟩;· rw[aes];simp
  · rw[len_app,len_app,len_app,O,G];omega
  · rintro j d ρ hd ⟨Y,x2,s,rfl,hs,hsl⟩
    obtain⟨prs,hp,rfl⟩:=cK hd;have hjl:=(bV.mp hp).1;have JO:=hok.2.2.2 prs (bP hp);have hpl:=JO.1;have hj2:j*30001<=400*30001:=oA _ ∅;have B:∀y∈prs.map n6,y.length<=124:=λy hy=>by
      obtain⟨pr,hm,rfl⟩:=bH.mp hy;exact Q8 (JO.2 pr hm)
    have k:(dq (ag "") (prs.map n6)).length<=240*124:=by
      have e:=tV (prs.map n6);have e:=congrArg gO e;rw[sR] at e;rw[e];have:∀R:List Str,(∀y∈R,y.length<=124)->(R.map λx=>x.cps.toList).flatten.length<=R.length*124:=λR=>by
        induction R with
        |nil=>intro _;exact eT _
        | cons a R ih =>
          intro h;have h1:=h a cP;have h2:=ih λy hy=>h y (cF _ hy);rw[aZ,nh,cH,sR,cZ];omega
      have h2:=this _ B;rw[ak] at h2;have h3:prs.length*124<=240*124:=oA _ hpl;omega
    refine Gv.pD ?_;refine Sv.asg ?_;refine Ev.gU (Ev.gU (Ev.var rfl ⟨_,rfl,Ev.str ⟨_,rfl,by rw[r];omega,?_⟩⟩));refine⟨_,rfl,Ev.join (Ev.str ⟨_,rfl,?_⟩)⟩;refine aq.ev (aq.e7 ⋯ rfl ?_);refine Ev.var rfl ⟨_,rfl,by rw[ak];omega,λv=>⟨true,λi ds=>ds=((prs.take i).map n6).map .str,rfl,?_,?_⟩⟩
    · rintro i d ds hd hl' rfl
      obtain⟨pr,hr,rfl⟩:=cK hd;have ho:=JO.2 pr (bP hr);have la:=(fY ho.1).2.1;have lb:=(fY ho.2).2.1;rfl';refine⟨by walk_at "wk",?_⟩;refine Tv.oG ?_;rw[if_pos rfl];refine Ev.gU (Ev.gU (Ev.gU (Ev.str ⟨_,rfl,?_⟩)));refine Ev.k9 (Ev.var rfl ⟨pr.1,rfl,ho.1,_,rfl,by rw[G];omega,?_⟩);refine⟨_,rfl,Ev.str ⟨_,rfl,by rw[len_app,G,l5];omega,?_⟩⟩;refine⟨_,rfl,Ev.k9 (Ev.var rfl ⟨pr.2,rfl,ho.2,_,rfl,by rw[len_app,len_app,G,l5];omega,λ_=>rfl,?_⟩)⟩;show _=cf _ (cf _ (dA (i+1) prs));rw[FX hr,bh,bh]
      rfl
    rintro ds hl' rfl;rw[ak,dQ];refine⟨prs.map n6,rfl,?_,_,rfl,?_,?_⟩
    · unfold mE
      rw[rS];exact uv B (by rw[ak];show _+_*0<=_;omega)
    · rw[len_app,r];omega
    refine Gv.name ?_;refine⟨_,_,_,rfl,?_,?_⟩
    · rw[FX hp,bh,Ab,<-fj,<-hs,gJ,gJ,fj,<-gJ,XF]
      simp
    · rw[len_app,len_app,r];omega
  rintro ρ ⟨Y,x2,s,rfl,hs,hsl⟩;rw[N,dQ] at hs;have e:s=nY p n cs:=by
    refine jy ?_;rw[hs];unfold nY nu;rw[join_eq,F0,je]
    rfl
  rw[e];rfl';refine Ev.cg RW ?_;rfl';refine⟨wd,rfl,hwl,c,?_⟩;rfl';exact q _
noncomputable def iO(p:Int)(cs:List ao)(wd:Wo)(i:Nat):List Int:=((cv i).filter λc=>aT (cs.getD c []) wd%p≠0).map λ(c:Nat)=>(c:Int)
noncomputable def j7(p:Int)(cs:List ao)(wd:Wo):Str:=if none∈wd then "left" else if iO p cs wd cs.length=[] then "true" else bA "broken" ((iO p cs wd cs.length).map nS)
theorem EU:∀(R:List Str),(dq (ag "") R).cps.toList=(R.map λx=>x.cps.toList).flatten
  |[]=>by rw[join_eq];rfl
  |[a]=>by rw[join_eq];show a.cps.toList=_;simp
  | a :: b :: R => by
    have ih:=EU (b::R);rw[join_eq] at ih⊢;show((a.cps++(ag "").cps)++(ke (ag "") (b::R)).cps).toList=_;rw[fS,fS,ih];have:(ag "").cps.toList=[]:=⋯
    rw[this];simp
def MC(x y:Str):(x++y).cps.toList=x.cps.toList++y.cps.toList:=by
 show(x.cps++y.cps).toList=_;rw[fS]
def Lv(f:Str)(ls:List Int):f++dq (ag "") (ls.map λn=>ag " " ++nS n)=bA f (ls.map nS):=by
 refine jy ?_;unfold bA;rw[MC,EU,join_eq,F0,je,je]
 congr 3
 funext n
 show(ag " " ++nS n).cps.toList=32::(nS n).cps.toList;rw[MC,show(ag " ").cps.toList=[32] by decide]
 rfl
theorem Al(h:∀n∈ls,n.natAbs<10^60):∀y∈ls.map (λn=>ag " " ++nS n),y.length<=62:=λy hy=>by
 obtain⟨n,hn,rfl⟩:=bH.mp hy;have G:(ag " ").length=1:=⋯
 have:=(fY (h n hn)).2.1;rw[len_app,G];omega
theorem Q5{B:Nat}:∀{R:List Str},(∀y∈R,y.length<=B)->(dq (ag "") R).length<=R.length*B:=λ{R} h=>by
  have e:=congrArg gO (EU R);rw[show(dq (ag "") R).cps.toList.length=(dq (ag "") R).length by simp[er]] at e;rw[e];have:∀R:List Str,(∀y∈R,y.length<=B)->(R.map λx=>x.cps.toList).flatten.length<=R.length*B:=λR=>by
    induction R with
    |nil=>intro _;exact eT _
    | cons a R ih =>
      intro h;have h1:=h a cP;have h2:=ih λy hy=>h y (cF _ hy);rw[aZ,nh,cH,show a.cps.toList.length=a.length by simp[er],cZ,C0];omega
  exact this R h
def JJ:DF:=λds Φ=>∃(p n:Int) (cs:List ao) (wd:Wo),ds=[bR p n cs,bI wd]/\0<p/\p<10^61/\cs.length<=400/\(∀prs∈cs,nX prs wd.length/\prs.length<=10000)/\dN wd/\wd.length<=1000/\Φ true (.str (j7 p cs wd))
def W5:bW JJ:=by
 intro ds Φ Ψ hm z;revert hm;walk_at "mo";exact λq=>z _ _ q
def RB:bz ["net","word","broken"] ["net","word"] (aE wm):=⟨rfl,rfl,rfl,by decide+kernel,rfl,by decide+kernel,by decide+kernel⟩
theorem ag3(F:bq K "_law_end" "_law_end" wm f fd)(vg:Callee P w K mg base "_law_sum" 1 ["p","pairs","word"] (aM 3 uJ))(dI:mg "range"=none)(bZ:mg "len"=none)(eY:mg "str"=none):
  aU P w K mg base bf 2 f fd ["net","word"] (aM 2 JJ):=by
 refine F.ok RB (λvs H Q E h=>h.1) (λcdv A outer s H vs Q E hr h=>?_);obtain⟨nb,ds,Φ,g,u,D,I⟩:=dM h;obtain⟨p,n,cs,wd,rfl,hp,o,hc,hP,hW,hl,q⟩:=I;refine⟨_,#[5,#[10,aX (Nf (K:=K) (by rfl)) gc (pv 1) (by with_unfolding_all rfl),bY],nK (i:=2) RB.nd rfl rfl (cy.of (show cM (aE wm) ["net","word","broken"] _ ["c","net","word"] [none,some 0,some 1]=true by decide+kernel)) (@kX _ _ _ _ _ _ rfl dI #[0,#[12,bZ,@aa _ _ _ _ _ (@aD _ _ _ _ _ _ (bG K) bL (pv 0) aj (λ_ _=>rfl)) ai rfl]] (by rfl)) (λ_ _ _ _=>⟨#[2,(by show bT (["c","net","word"]:List Str);decide+kernel)],(mF (@aX _ _ _ _ _ _ _ _ j9 #[1,vg,@aa _ _ _ _ _ (@aD _ _ _ _ _ _ (bG K) bL (pv 1) aj (λ_ _=>rfl)) (@aa _ _ _ _ _ (@aD _ _ _ _ _ _ (cB K) bF (@aD _ _ _ _ _ _ (bG K) bL (pv 1) aj (λ_ _=>rfl)) (pv 0) (λ_ _=>rfl)) (@aa _ _ _ _ _ (pv 2) ai rfl) rfl) rfl] aj (aV _))),(pv 0)⟩),@lC _ _ _ _ _ _ _ _ (@aX _ _ _ _ _ _ _ _ (Ds hr.units) (pv 2) (@fc _ _ _ _ ai) (aV _)) bY (@aC _ _ _ _ _ _ _ _ gV bY (jN (K:=K) rfl (ic jR oH o8 oW bY #[0,eK (cy.of (show cM (aE wm) ["net","word","broken"] _ ["c"] [none]=true by decide+kernel)) (dh (K:=K) rfl (pv 2)) (λ_ _ _ _=>⟨#[2,(by show bT (["c"]:List Str);decide+kernel)],eW,(@aC _ _ _ _ _ _ _ _ gV bY #[18,eY])⟩)])))],?_⟩;refine Sv.dH g u D (ρ:=[.d false _, .d false _, .no]) rfl ?_;clear D u;have m:(wd.map bJ).length=wd.length:=ak ..;have N:(cs.map dW).length=cs.length:=ak ..;refine Sv.seq (Sv.pC (Tv.test (Ev.Pu ?_)));rfl';refine⟨none,rfl,?_⟩;rfl';refine⟨wd,rfl,?_⟩;rfl';unfold j7 at q;by_cases c0:none∈wd
 .rw[if_pos c0] at q;rw[decide_eq_true c0];rfl';exact q
 rw[if_neg c0] at q;rw[decide_eq_false c0];rfl';refine aq.ev (aq.qo ⋯ rfl ?_);rfl';refine⟨true,λi ds=>ds=(iO p cs wd i).map bj,rfl,?_,?_⟩
 .rintro i d ds ⟨hi,rfl⟩ hl' rfl;have k:i<cs.length:=∅
  obtain⟨prs,J⟩:∃prs,cs[i]?=some prs:=⟨_,aS k⟩;have b:cs.getD i []=prs:=by rw[i9,J];rfl
  have S:bU (cs.map dW) (0+(i:Int))=some (dW prs):=j6 ∅ (by rw[show(0+(i:Int)).toNat=i by omega,cS,J];rfl);obtain⟨y,r⟩:=hP prs (bP J);have t:iO p cs wd (i+1)=iO p cs wd i++(if aT prs wd%p≠0 then[(i:Int)] else[]):=by
   unfold iO;rw[wJ,sA,bh]
   congr 1
   by_cases c:aT prs wd%p≠0;·rw[if_pos c,tK (by rw[b];simpa using c)];rfl
   .rw[if_neg c,qY (by rw[b];simpa using c)];rfl
  rfl';refine⟨by walk_at "wk",?_⟩;rfl';refine Ev.cg Jd ?_;rfl';refine⟨rfl,p,prs,wd,rfl,∅,∅,y,hW,?_⟩;rfl';by_cases c:aT prs wd%p=0
  .rw[if_neg (by simpa using c),fW] at t;rfl';show _=(iO p cs wd (i+1)).map bj;rw[t]
  .rw[if_pos c] at t;rfl';show _=(iO p cs wd (i+1)).map bj;rw[t,bh,show(0+(i:Int))=i by omega]
   rfl
 rintro ds hl' rfl;rw[show((cs.map dW).length:Int).toNat=cs.length by omega];have M:(iO p cs wd cs.length).length<=cs.length:=by
  unfold iO;rw[ak];exact eu (vS _ _) (jf uw)
 have a:∀n∈iO p cs wd cs.length,n.natAbs<10^60:=λn hn=>by
  obtain⟨c,l,rfl⟩:=bH.mp hn;have:=lY.mp (jw.mp l).1;omega
 generalize iO p cs wd cs.length=ls at*;have W:(ls.map bj).length=ls.length:=ak ..;rfl';refine⟨shaped_ints _,⋯,?_⟩;rw[show(eA (cf (λx:Bool×PyData=>x.2) []))= .list (([]:List Int).map .int) from rfl,Oa];by_cases c1:ls=[]
 .rw[if_pos c1] at q;rw[decide_eq_true c1];rfl';exact q
 rw[if_neg c1] at q;rw[decide_eq_false c1];have h4:8000000<=sizeLine:=⋯
 have O:(ag "broken").length=6:=⋯
 have G:(ag " ").length=1:=⋯
 have hfl:=Q5 (Al a);have e:(ls.map (λn=>ag " " ++nS n)).length*62<=1000*62:=oA _ (by rw[ak];omega);rfl';refine Ev.gU (Ev.str ⟨_,rfl,?_⟩);refine Ev.join (Ev.str ⟨_,rfl,?_⟩);refine aq.ev (aq.e7 ⋯ rfl ?_);refine Ev.var rfl ⟨_,rfl,∅,λv=>⟨true,λj ds=>ds=((ls.take j).map λn=>ag " " ++nS n).map .str,rfl,?_,?_⟩⟩
 .rintro j d ds hd hl' rfl;obtain⟨n,hn,rfl⟩:=cK hd;have hn1:=a n (bP hn);have hn2:=(fY hn1).2.1;rfl';refine⟨by walk_at "wk",?_⟩;rfl'
  first|refine Ev.gU (Ev.str ⟨_,rfl,?_⟩)|done
  refine Ev.k9 ?_;refine Ev.var rfl ⟨n,rfl,hn1,_,rfl,by rw[G];omega,λ_=>rfl,?_⟩;show _=cf _ (cf _ (dA (j+1) ls));rw[FX hn,bh,bh]
  rfl
 rintro ds hl' rfl;rw[W,dQ];refine⟨_,rfl,?_,_,rfl,?_,?_⟩
 .unfold mE;rw[rS];exact uv (Al a) (by rw[ak];show _+_*0<=_;omega)
 .omega
 rw[Lv];exact q
noncomputable def kU(m:bK):Str:=bA "mend" ([m.1,m.2.1,m.2.2].map nS)
noncomputable def Js(m:bK):Str:=ag "mend " ++nS m.1++ag " " ++nS m.2.1++ag " " ++nS m.2.2
def agj(m:bK):Js m=kU m:=by
 refine jy ?_;unfold Js kU bA;rw[gJ,gJ,gJ,gJ,gJ,join_eq,aZ,aZ,aZ,jU,F0];rw[show(ag "mend ").cps.toList=(ag "mend").cps.toList++[32] by decide,show(ag " ").cps.toList=[32] by decide];simp
noncomputable def jL(p:Int)(cs:List ao)(wd:Wo):List Str:=[bA "word" ((bx p cs wd).map ow)]++(bX p cs wd).flatten.map kU++[bA "left" ((gh (bx p cs wd)).map nS)]++[ag "end " ++j7 p cs (bx p cs wd)]
def CS:DF:=λds Φ=>∃(p:Int) (cs:List ao) (wd:Wo),ds=[bR p wd.length cs,bI wd]/\fG p cs wd.length/\1<=wd.length/\wd.length<=400/\cs.length<=400/\(∀x,some x∈wd->0<=x/\x<p)/\Φ true (.str (dq (sg 10) (jL p cs wd)))
def agu:bW CS:=by
 intro ds Φ Ψ hm z;revert hm;walk_at "mo";exact λq=>z _ _ q
theorem Zm(hp:0<p)(h0:∀prs∈cs,∀pr∈prs,0<=pr.1/\pr.1<wd.length):(bX p cs wd).flatten.length<=wd.length:=by
 have h1:=xm hp (tN hp h0).1 _ (aH _);have h2:=DP wd;omega
theorem WA(hN:fG p cs wd.length)(hW:dN wd)(hl:wd.length<=400):∀m∈(bX p cs wd).flatten,∀n∈[m.1,m.2.1,m.2.2],n.natAbs<10^60:=λm hm n hn=>by
 have p2:=hN.1.1;have qZ:=hN.2.1;have hcl:=hN.2.2.1;obtain⟨a,-,-,hout,-⟩:=tN (p:=p) (cs:=cs) (wd:=wd) ∅ hN.rg;have zx:(10:Int)^40<=10^60:=⋯
 obtain⟨j,hj,e⟩:=RG.mp hm;obtain⟨m',e1,e2⟩:=a j hj;rw[aS hj,e] at e1;cases e1;have Fi:=Jk (i:=j) hN hW λb h=>a b ∅;have c:fG p cs (FV wd ((bX p cs wd).flatten.take j)).length:=by rw[ie];exact hN
 obtain⟨b1,b2,b3,b4,b5,b6⟩:=Iv c Fi e2;rw[ie] at b2;simp only[aK,cU,or_false] at hn;rcases hn with rfl|rfl|rfl<;>omega
def sy:bz ["net","word","now","rounds","rows","some"] ["net","word"] (aE vh):=⟨rfl,rfl,rfl,by decide+kernel,rfl,by decide+kernel,by decide+kernel⟩
theorem Yq(F:bq K "_law_due" "_law_due" vh f fd)(Zc:Callee P w K mg base "_law_rounds" 3 ["net","word"] (aM 2 G8))(Jw:Callee P w K mg base "_law_word_text" 1 ["word"] (aM 1 Bb))(age:Callee P w K mg base "_law_end" 2 ["net","word"] (aM 2 JJ))(eY:mg "str"=none)(dI:mg "range"=none):
    aU P w K mg base bf 4 f fd ["net","word"] (aM 2 CS):=by
  refine F.ok sy (λvs H Q E h=>h.1) (λcdv A outer s H vs Q E hr h=>?_);obtain⟨nb,ds,Φ,g,u,D,I⟩:=dM h;obtain⟨p,cs,wd,rfl,hN,hw0,hw1,X,T,q⟩:=I;refine⟨_,(@ay _ _ _ _ _ (@iW _ _ _ _ _ _ #[1,Zc,@aa _ _ _ _ _ (pv 0) (@aa _ _ _ _ _ (pv 1) ai rfl) rfl] (@iG _ (K) _ _ _ (2) _ rfl rfl #[6,aJ (i:=2) sy.nd rfl (fx rfl),aJ (i:=3) sy.nd rfl (cm rfl)] (by rfl) (by rfl)) (by rfl) (by rfl) (by rfl)) (@ay _ _ _ _ _ #[16,sy.nd,(@fc _ _ _ _ #[0,#[1,Jw,@aa _ _ _ _ _ (pv 2) ai rfl]])] #[5,@iZ _ _ _ _ _ _ _ _ iw rfl (dh (K:=K) rfl (pv 3)) (aJ (i:=5) sy.nd rfl (cm rfl)) (@aF _ _ _ #[16,sy.nd,@aC _ _ _ _ _ _ _ _ oR (pv 4) (eK (cy.of (show cM (aE vh) ["net","word","now","rounds","rows","some"] _ ["place","c","letter"] [none,none,none]=true by decide+kernel)) (dh (K:=K) rfl (pv 5)) (λ_ _ _ _=>⟨(@iG _ (K) _ _ _ (3) _ rfl rfl (@bS _ _ _ _ _ #[2,(by show bT (["place","c","letter"]:List Str);decide+kernel)] #[6,aJ (i:=1) (by show bT (["place","c","letter"]:List Str);decide+kernel) rfl (cm rfl),aJ (i:=2) (by show bT (["place","c","letter"]:List Str);decide+kernel) rfl (cm rfl)] (by rfl)) (by rfl) (by rfl)),eW,(@aC _ _ _ _ _ _ _ _ gV (@aC _ _ _ _ _ _ _ _ gV (@aC _ _ _ _ _ _ _ _ gV (@aC _ _ _ _ _ _ _ _ gV (@aC _ _ _ _ _ _ _ _ gV bY #[18,eY]) bY) (@gG _ _ _ _ _ _ _ _ (ji) kL rfl eY j5 (@aa _ _ _ _ _ (pv 1) ai rfl) ⋯ ⋯ (by rfl) (by rfl))) bY) (@gG _ _ _ _ _ _ _ _ (ji) kL rfl eY j5 (@aa _ _ _ _ _ (pv 2) ai rfl) ⋯ ⋯ (by rfl) (by rfl)))⟩))]) (by intro _;rfl),@uN _ _ _ _ (ic um xh Aa vJ (pv 4) #[0,@aC _ _ _ _ _ _ _ _ gV bY (jN (K:=K) rfl (ic jR oH o8 oW bY (@aa _ _ _ _ _ (eK (cy.of (show cM (aE vh) ["net","word","now","rounds","rows","some"] _ ["place","now"] [none,some 2]=true by decide+kernel)) (@kX _ _ _ _ _ _ rfl dI (@aa _ _ _ _ _ (@aD _ _ _ _ _ _ (bG K) bL (pv 0) aj (λ_ _=>rfl)) ai rfl) (by rfl)) (λ_ _ _ _=>⟨#[2,(by show bT (["place","now"]:List Str);decide+kernel)],(mF (@aX _ _ _ _ _ _ _ _ qG (@aD _ _ _ _ _ _ (cB K) bF (pv 1) (pv 0) (λ_ _=>rfl)) gc (aV _))),(@aC _ _ _ _ _ _ _ _ gV bY #[18,eY])⟩)) ai rfl)))]) (by rfl),jN (K:=K) rfl (ic jR oH o8 oW bY #[0,@aC _ _ _ _ _ _ _ _ oR (pv 4) (@fc _ _ _ _ #[0,(@aC _ _ _ _ _ _ _ _ gV bY #[1,age,@aa _ _ _ _ _ (pv 0) (@aa _ _ _ _ _ (pv 2) ai rfl) rfl])])])])),?_⟩;refine Sv.dH g u D (ρ:=[.d false _, .d false _, .no, .no, .no, .no]) rfl ?_;clear D u;have p2:=hN.1.1;have qZ:=hN.2.1;have zx:(10:Int)^40<=10^60:=⋯
  have hW:dN wd:=λx hx=>by have:=T x hx;unfold Sm;omega
  have hfl:=Zm (p:=p) (cs:=cs) (wd:=wd) ∅ hN.rg;have pI:=Sw (bx p cs wd);have hel:(bx p cs wd).length=wd.length:=by unfold bx;exact ie
  have hmn:=WA hN hW hw1;obtain⟨z,V⟩:=GJ (p:=p) (cs:=cs) (wd:=wd) ∅ hN.rg λi x h=>T x (bP h);have tH:∀x,some x∈bx p cs wd->0<=x/\x<p:=λx hx=>by
    obtain⟨i,hi⟩:=jS hx;exact V i x hi
  generalize W:(qW (gD (qw _) (gZ 4)) _:TS)=tl;rfl';refine Ev.cg aeo ?_;rfl';refine⟨rfl,p,cs,wd,rfl,hN,hW,∅,λM=>?_⟩;rfl';subst W;refine Sv.seq (Sv.vf (aq.lst (Av.cons (Ev.cg RW ?_))));rfl';refine⟨rfl,bx p cs wd,rfl,∅,λn hn=>by have:=tH n hn;omega,?_⟩;rfl';intro A4;generalize Xm:bx p cs wd=we at*;generalize N7:bA "word" (we.map ow)=Wt;have h4:8000000<=sizeLine:=⋯
  have O:(ag "mend ").length=5:=⋯
  have G:(ag " ").length=1:=⋯
  refine Sv.seq (Sv.forL (Ev.var rfl ⟨_,rfl,λv=>?_⟩));refine⟨λi ρ=>∃(A:ax) (U J L:Bool) (R:Sl),ρ=[.d false (bR p wd.length cs), .d false (bI wd), .d U (bI we), .d J (.list ((bX p cs wd).map eB)), .own A L (([Wt]++((bX p cs wd).take i).flatten.map kU).map .str),R],⟨_,_,_,_,_,rfl⟩,?_,?_⟩
  · rintro i d ρ hd ⟨A,U,J,L,R,rfl⟩
    obtain⟨r,hr,rfl⟩:=cK hd;have C:((bX p cs wd).take (i+1)).flatten.length<=(bX p cs wd).flatten.length:=by
      conv=>rhs;rw[<-kK (i+1) (bX p cs wd),Ab,cH]
      omega
    have e2:((bX p cs wd).take (i+1)).flatten=((bX p cs wd).take i).flatten++r:=by rw[FX hr];simp
    have b:∀m∈r,∀n∈[m.1,m.2.1,m.2.2],n.natAbs<10^60:=λm hm=>hmn m (rh.mpr ⟨r,bP hr,hm⟩);have ahF:((bX p cs wd).take i).flatten.length+r.length<=400:=by rw[e2,cH] at C;omega
    have Z:(r.map kj).length=r.length:=ak ..;refine Gv.pD ?_;refine Sv.vf (aq.aaL 4 rfl (aq.cat (Ev.var rfl ⟨_,rfl,aq.ev (aq.e7 ⋯ rfl ?_)⟩)));refine Ev.var rfl ⟨_,rfl,∅,λv=>⟨true,λj ds=>ds=((r.take j).map kU).map .str,rfl,?_,?_⟩⟩
    · rintro j d ds hd hl' rfl
      obtain⟨m,hm,rfl⟩:=cK hd;have uq:=b m (bP hm);have ha:=uq m.1 (by simp);have hb:=uq m.2.1 (by simp);have hc:=uq m.2.2 (by simp);have la:=(fY ha).2.1;have lb:=(fY hb).2.1;have lc:=(fY hc).2.1;rfl';refine⟨by walk_at "wk",?_⟩;refine Tv.oG ?_;rw[if_pos rfl];refine Ev.gU (Ev.gU (Ev.gU (Ev.gU (Ev.gU (Ev.str ⟨_,rfl,?_⟩)))));refine Ev.k9 (Ev.var rfl ⟨m.1,rfl,ha,_,rfl,by rw[O];omega,?_⟩);refine⟨_,rfl,Ev.str ⟨_,rfl,by rw[len_app,O,G];omega,?_⟩⟩;refine⟨_,rfl,Ev.k9 (Ev.var rfl ⟨m.2.1,rfl,hb,_,rfl,by rw[len_app,len_app,O,G];omega,?_⟩)⟩;refine⟨_,rfl,Ev.str ⟨_,rfl,by rw[len_app,len_app,len_app,O,G];omega,?_⟩⟩;refine⟨_,rfl,Ev.k9 (Ev.var rfl ⟨m.2.2,rfl,hc,_,rfl,by rw[len_app,len_app,len_app,len_app,O,G];omega,λ_=>rfl,?_⟩)⟩;show cf cx (cf kU (dA j r))++[cx (Js m)]=cf cx (cf kU (dA (j+1) r));rw[agj,FX hm,bh,bh]
      rfl
    rintro ds hl' rfl;rw[Z,dQ];refine⟨_,rfl,?_,?_,λA'=>?_⟩
    · simp only[ak,cH,gQ]
      omega
    · rw[<-bh]
      exact lU.mpr λx hx=>by obtain⟨s,_,rfl⟩:=bH.mp hx;rfl
    show∃(A:ax) (U J L:Bool) (R:Sl),(_:Rh)=[.d false (bR p wd.length cs), .d false (bI wd), .d U (bI we), .d J (.list ((bX p cs wd).map eB)), .own A L (([Wt]++((bX p cs wd).take (i+1)).flatten.map kU).map .str),R];have e5:([Wt]++((bX p cs wd).take (i+1)).flatten.map kU).map cx=([Wt]++((bX p cs wd).take i).flatten.map kU).map cx++(r.map kU).map cx:=by rw[e2];simp
    rw[e5];exact⟨A',_,_,_,_,rfl⟩
  rintro ρ ⟨A,U,J,L,R,rfl⟩;rw[ak,dQ];generalize t:(bX p cs wd).flatten=ms at*;have HF:(gh we).length<=400:=∅
  refine Sv.seq (Sv.append rfl ?_);refine Ev.gU (Ev.str ⟨_,rfl,?_⟩);refine Ev.join (Ev.str ⟨_,rfl,?_⟩);refine aq.ev (aq.qo ⋯ rfl ?_);rfl';have a:∀n∈gh we,n.natAbs<10^60:=λn hn=>by
    obtain⟨b1,b2⟩:=zb.mp hn;have:=(bV.mp b2).1;omega
  refine⟨true,λi ds=>ds=((pK we i).map λn=>ag " " ++nS n).map .str,rfl,?_,?_⟩
  · rintro i d ds ⟨hi,rfl⟩ hl' rfl
    obtain⟨o,ho,S⟩:=rZ (xs:=we) bJ (k:=0+(i:Int)) (m:=we.length) ∅ ∅ rfl;rw[show(0+(i:Int)).toNat=i by omega] at ho;have hls:=U8 we i;rw[ho] at hls;have Tf:(0+(i:Int)).natAbs<10^60:=∅
    have ahJ:=(fY Tf).2.1;rfl';refine⟨by walk_at "wk",?_⟩;rfl';rw[nE];cases o with
    | none =>
      rw[if_pos rfl] at hls;rfl';refine Ev.gU (Ev.str ⟨_,rfl,?_⟩);refine Ev.k9 (Ev.var rfl ⟨0+(i:Int),rfl,Tf,_,rfl,by rw[G];omega,λ_=>rfl,?_⟩);show _=cf cx (cf _ (pK we (i+1)));rw[hls,bh,bh,show 0+(i:Int)=i by omega]
      rfl
    | some x =>
      rfl';rw[if_neg (by simp)] at hls;show _=cf cx (cf _ (pK we (i+1)));rw[hls]
  rintro ds hl' rfl;have hlo:pK we ((wd.length:Int)).toNat=gh we:=by rw[show((wd.length:Int)).toNat=we.length by omega];rfl
  rw[hlo];have aiI:=Q5 (Al a);have e:((gh we).map (λn=>ag " " ++nS n)).length*62<=400*62:=oA _ (by rw[ak];exact HF);have l5:(ag "left").length=4:=⋯
  refine⟨_,rfl,?_,_,rfl,∅,?_,?_⟩
  · unfold mE
    rw[rS];exact uv (Al a) (by rw[ak];show _+_*0<=_;omega)
  · simp only[ak,cH,gQ]
    omega
  rw[Lv];refine Sv.tL 4 rfl ?_;have lE:(ag "end ").length=4:=⋯
  have Y:∀(f:Str) (ns:List Int),f.length<=61->ns.length<=400->(∀n∈ns,n.natAbs<10^60)->(bA f (ns.map nS)).length<=25000:=λf ns hf hl hn=>by
    unfold bA;rw[join_le];have h1:=mZ (B:=61) (ys:=ns.map nS) λy hy=>by
      obtain⟨o,hm,rfl⟩:=bH.mp hy;exact(fY (hn o hm)).2.1
    rw[ak] at h1⊢;omega
  have hEl:(j7 p cs we).length<=25000:=by
    unfold j7;split;· exact(by decide:(ag "left").length<=25000)
    split;· exact(by decide:(ag "true").length<=25000)
    have lF:(iO p cs we cs.length).length<=cs.length:=by
      unfold iO;rw[ak];exact eu (vS _ _) (jf uw)
    refine Y "broken" _ ⋯ ∅ λn hn=>?_;obtain⟨c,l,rfl⟩:=bH.mp hn;have:=lY.mp (jw.mp l).1;omega
  have hWl:Wt.length<=25000:=by
    rw[<-N7,<-L7,len_app,show(ag "word").length=4 by decide];have h1:=Td (Es (wd:=we) λn hn=>by have:=tH n hn;omega);have:(we.map mq).length*62<=400*62:=oA _ (by rw[ak];omega);omega
  refine Sv.ret (Ev.join (Ev.str ⟨_,rfl,?_⟩));refine aq.ev (aq.cat (Ev.var rfl ⟨_,rfl,?_⟩));refine Ev.lst (Av.cons (Ev.gU (Ev.str ⟨_,rfl,Ev.cg W5 ?_⟩)));rfl';refine⟨rfl,p,wd.length,cs,we,rfl,∅,∅,X,λprs hp=>?_,λx hx=>by have:=tH x hx;unfold Sm;omega,∅,?_⟩
  · have:=hN.2.2.2 prs hp
    rw[hel];exact⟨this.2.1,∅⟩
  refine⟨_,rfl,∅,?_⟩;refine Av.nil ⟨(by decide:1<=10000),?_⟩;refine⟨_,rfl,by simp only[ak,cH,gQ];omega,?_⟩;have N:jL p cs wd=[Wt]++ms.map kU++[bA "left" ((gh we).map nS)]++[ag "end " ++j7 p cs we]:=by
    unfold jL;rw[Xm,t,N7]
  refine⟨jL p cs wd,by rw[N];simp,?_,q⟩;rw[N];refine F4 (B:=30000) (λy hy=>?_) (by simp only[ak,cH,gQ];omega);simp only[fO,aY,bH] at hy;rcases hy with ((rfl|⟨m,hm,rfl⟩)|rfl)|rfl
  · omega
  · have:=Y "mend" [m.1,m.2.1,m.2.2] ⋯ (by show 3<=400;omega) (hmn m hm)
    show(bA "mend" ([m.1,m.2.1,m.2.2].map nS)).length<=30000;omega
  · have:=Y "left" (gh we) ⋯ HF a
    omega
  · rw[len_app,lE];omega
def Zg{c:Nat}{a b:Str}{R:List Str}(hR:R≠[]):dq (sg c) [a,dq (sg c) R,b]=dq (sg c) ([a]++R++[b]):=by
 obtain⟨x,xs,rfl⟩:=S0 hR;refine jy ?_;rw[join_eq,join_eq,join_eq,F0];show _=(ke (sg c) (a::(x::xs++[b]))).cps.toList;rw[F0];simp only[aZ,jU,nh,uL,bh,Ab,F0,jk,fj,fW,Il]
def Xa(wd:Wo):p6 wd=bA "word" (wd.map ow):=by
 unfold p6;rw[show nD=ow from funext λo=>by cases o<;>rfl]
def Kw(p:Int)(cs:List ao)(wd:Wo):pO p cs wd=ag "end " ++j7 p cs wd:=by
 unfold pO j7;split;·exact jy ⋯
 rw[show iQ p cs wd cs.length=iO p cs wd cs.length from rfl];split;·exact jy ⋯
 refine jy ?_;unfold bA;rw[gJ,join_eq,join_eq,F0,F0,show(ag "end broken").cps.toList=(ag "end ").cps.toList++(ag "broken").cps.toList by decide,fj]
def LF(p:Int)(cs:List ao)(wd:Wo):AD p cs wd=dq (sg 10) (jL p cs wd):=by
 unfold AD rH jL;rw[Zg (by unfold qv;simp),Xa,Kw];unfold qv
 congr 1
theorem afJ(l:List α)(a:α):bU (l++[a]) (-1)=some a:=by
 unfold bU iR;simp;rw[if_pos ∅,show(-1+((l.length:Int)+1)).toNat=l.length by omega];simp
def ZC(p:Int)(cs:List ao)(wd:Wo):10∉(ag "end " ++j7 p cs wd).cps.toList:=by
 rw[gJ];intro z;rcases fO.mp z with z|z
 .exact absurd z ⋯
 revert z;unfold j7;split;·exact(by decide:10∉(ag "left").cps.toList)
 split;·exact(by decide:10∉(ag "true").cps.toList)
 .refine sP ⋯ ⋯ λo ho=>?_;obtain⟨n,_,rfl⟩:=bH.mp ho;exact kT n ⟨⋯,⋯⟩
def XG(p:Int)(cs:List ao)(wd:Wo):∀y∈jL p cs wd,10∉y.cps.toList:=λy hy=>by
 unfold jL at hy;simp only[fO,aY,bH] at hy;rcases hy with ((rfl|⟨m,_,rfl⟩)|rfl)|rfl
 .refine sP ⋯ ⋯ λo ho=>?_;obtain⟨n,_,rfl⟩:=bH.mp ho;cases n with
  |none=>exact(by decide:10∉(ag "-").cps.toList)
  |some n=>exact kT n ⟨⋯,⋯⟩
 .refine sP ⋯ ⋯ λo ho=>?_;obtain⟨n,_,rfl⟩:=bH.mp ho;exact kT n ⟨⋯,⋯⟩
 .refine sP ⋯ ⋯ λo ho=>?_;obtain⟨n,_,rfl⟩:=bH.mp ho;exact kT n ⟨⋯,⋯⟩
 .exact ZC _ _ _
def Ii{os:List Int}(hN:fG p cs wd.length)(hl:wd.length=os.length)(t:∀x∈os,0<=x/\x<p)(ht:∀prs∈cs,aT prs (os.map some)%p=0)(ha:Agree os wd):ag "end " ++j7 p cs (bx p cs wd)∈[ag "end left",ag "end true"]:=by
  have hA:=OB hN hl t ht ha;have hel:(bx p cs wd).length=wd.length:=by unfold bx;exact ie
  unfold j7;by_cases c:none∈bx p cs wd
  · rw[if_pos c,show ag "end " ++("left":Str)=ag "end left" from jy ⋯]
    simp
  have e:bx p cs wd=os.map some:=by
    refine ql (by rw[hel,ak];exact hl) λi h1 h2=>?_;rw[JM];have hm:bx p cs wd=bx p cs wd:=rfl;cases ho:(bx p cs wd)[i] with
    |none=>exact absurd (ho▸fU h1) c
    | some x =>
      have:=hA i x (by rw[aS h1,ho]);rw[aS (by rw[ak] at h2;exact h2)] at this;rw[iI this]
  have hb:iO p cs (bx p cs wd) cs.length=[]:=by
    unfold iO;rw[List.map_eq_nil_iff,QF];intro j hj;have hj:=lY.mp hj;have:=ht cs[j] (fU hj);rw[e,i9,aS hj];simpa using this
  rw[if_neg c,if_pos hb,show ag "end " ++("true":Str)=ag "end true" from jy ⋯];simp
theorem uU{nb:ax->Prop}{H:Hp}:∀{ss:List Str} {xs:List V},af nb H (ss.map cx) xs->xs=ss.map V.str
  |[],_,h=>by unfold cf af at h;exact h
  | i :: is, _, h => by
    rw[aZ] at h;unfold af at h;obtain⟨y,ys,rfl,h1,h2⟩:=h;unfold ah at h1;rw[aZ,h1,uU h2]
def UM{K:PySem.W.Frag}{ta tb:TE}{b:Bool}(h:Ev G ρ ta λ_ x=>∃k:Str,x= .str k/\Ev G ρ tb λ_ y=>∃ss:List Str,y= .list (ss.map .str)/\Φ true (.bool (decide (k∈ss) !=b))):Ev G ρ (dP (oS K b) ta tb) Φ:=λnb σ H Q W z=>
 h nb σ H _ W λf v H1 d ⟨k,e,q⟩ s1 hv=>q nb σ H1 _ (W.step s1) λg u H2 d2 ⟨ns,e2,p⟩ s2 hu=>by
  subst e e2;unfold ah at hv;subst hv;obtain⟨a,xs,rfl,na,hx,hd⟩:=hu.dZ;have ex:=uU hd;subst ex;refine⟨a,ns.map V.str,rfl, .inl (.of hx),rfl,?_,?_⟩
  .rw[lU];intro x hx;obtain⟨o,_,rfl⟩:=bH.mp hx
   rfl
  .have e:jJ (V.str k) (ns.map V.str)=decide (k∈ns):=by
    unfold jJ;rw[Dm,lq,rL,decide_eq_true_eq];constructor
    .rintro⟨o,m,h⟩;have:o=k:=eq_of_beq h;exact this▸m
    .intro m;exact⟨k,m,beq_self_eq_true k⟩
   have e2:(if b=true then !jJ (V.str k) (ns.map V.str) else jJ (V.str k) (ns.map V.str))=(decide (k∈ns) !=b):=by
    rw[e];cases b<;>simp
   rw[e2];exact z true _ H2 _ p (s1.trans s2) (.bl _)
def jE:bz ["script","bag","net","word","true","other","more","right","cases","one","some","sure","texts","found"] ["script"] (aE nM):=⟨rfl,rfl,rfl,by decide+kernel,rfl,by decide+kernel,by decide+kernel⟩
theorem abp(F:bq K "law" "law" nM f fd)(VS:Callee P w K mg base "_law_bag" 1 ["script"] (N9 K))(KN:Callee P w K mg base "_law_case" 5 ["bag"] (ir 1 EW))(abx:Callee P w K mg base "_law_texts" 2 ["net","word"] (aM 2 Ic))(ab8:Callee P w K mg base "answer" 9 ["net_text","word_text"] (aM 2 Kz))(adp:Callee P w K mg base "_law_due" 4 ["net","word"] (aM 2 CS))(nJ:mg "int"=none)(JF:mg "isinstance"=none)(eY:mg "str"=none):
    aU P w K mg base bf 10 f fd ["script"] (yX K):=by
  refine F.ok jE (λvs H Q E h=>?_) (λcdv A outer s H vs Q E hr h=>?_)
  · obtain⟨a,ns,rfl,M,hl,q⟩:=h
    rfl
  obtain⟨a,ns,rfl,M,hl,q⟩:=h;refine⟨_,(@ay _ _ _ _ _ #[17,jE.nd,#[14,VS]] (@ay _ _ _ _ _ (@iW _ _ _ _ _ _ (@aI _ _ _ _ _ _ _ _ _ _ KN (hr.mono ⋯) (@aa _ _ _ _ _ (pv 1) ai rfl) (by rfl) ⋯ (by rfl) (by rfl)) (@iG _ (K) _ _ _ (3) _ rfl rfl (@bS _ _ _ _ _ (aJ (i:=2) jE.nd rfl (cm rfl)) #[6,aJ (i:=3) jE.nd rfl (cm rfl),aJ (i:=4) jE.nd rfl (cm rfl)] (by rfl)) (by rfl) (by rfl)) (by rfl) (by rfl) (by rfl)) (@ay _ _ _ _ _ (@iW _ _ _ _ _ _ (@lC _ _ _ _ _ _ _ _ (@aX _ _ _ _ _ _ _ _ nI (@aD _ _ _ _ _ _ (bG K) bL (pv 2) aj (λ_ _=>rfl)) aj (aV _)) (@aI _ _ _ _ _ _ _ _ _ _ KN (hr.mono ⋯) (@aa _ _ _ _ _ (pv 1) ai rfl) (by rfl) ⋯ (by rfl) (by rfl)) (@eO _ _ _ _ _ (@aa _ _ _ _ _ (pv 2) (@aa _ _ _ _ _ (pv 3) (@aa _ _ _ _ _ (pv 4) ai rfl) rfl) rfl))) (@iG _ (K) _ _ _ (3) _ rfl rfl (@bS _ _ _ _ _ (aJ (i:=5) jE.nd rfl (cm rfl)) #[6,aJ (i:=6) jE.nd rfl (cm rfl),aJ (i:=7) jE.nd rfl (cm rfl)] (by rfl)) (by rfl) (by rfl)) (by rfl) (by rfl) (by rfl)) (@ay _ _ _ _ _ #[11,(8),jE.nd,@fc _ _ _ _ (@aa _ _ _ _ _ (@eO _ _ _ _ _ (@aa _ _ _ _ _ (pv 2) (@aa _ _ _ _ _ (pv 3) (@aa _ _ _ _ _ (pv 4) ai rfl) rfl) rfl)) #[4,@eO _ _ _ _ _ (@aa _ _ _ _ _ (pv 5) (@aa _ _ _ _ _ (pv 6) #[0,pv 7] rfl) rfl),@eO _ _ _ _ _ (@aa _ _ _ _ _ (pv 2) (@aa _ _ _ _ _ (pv 3) (@aa _ _ _ _ _ (pv 4) ai rfl) rfl) rfl)] rfl)] (@ay _ _ _ _ _ (@iZ _ _ _ _ _ _ _ _ iw rfl (dh (K:=K) rfl (@lX _ _ _ _ _ _ _ _ _ (jZ K) nk (pv 8) lR (@lD _ _ _ (@aD _ _ _ _ _ _ (cB K) bF (@fc _ _ _ _ (@aa _ _ _ _ _ aj (@aa _ _ _ _ _ aj ai rfl) rfl)) (@gG _ _ _ _ _ _ _ _ _ OZ rfl nJ JS #[0,@oZ _ _ _ _ _ _ _ _ Ek (@aD _ _ _ _ _ _ (bG K) bL (pv 2) aj (λ_ _=>rfl)) aj (aV _)] ⋯ ⋯ (by rfl) (by rfl)) (λ_ _=>rfl))))) (@iG _ (K) _ _ _ (3) _ rfl rfl (@bS _ _ _ _ _ (aJ (i:=9) jE.nd rfl (cm rfl)) #[6,aJ (i:=10) jE.nd rfl (cm rfl),aJ (i:=11) jE.nd rfl (cm rfl)] (by rfl)) (by rfl) (by rfl)) (@ay _ _ _ _ _ #[11,(12),jE.nd,#[1,abx,#[4,pv 9,pv 10]]] (@ay _ _ _ _ _ #[11,(13),jE.nd,#[1,ab8,#[4,@aD _ _ _ _ _ _ (bG K) bL (pv 12) aj (λ_ _=>rfl),@aD _ _ _ _ _ _ (bG K) bL (pv 12) aj (λ_ _=>rfl)]]] (@ay _ _ _ _ _ (@eG _ _ _ _ _ _ _ _ (PW.pt (mL (@zL _ _ _ _ (@qh _ (K) _ _ rfl (@eN _ _ _ _ _ _ _ _ (JK K) Xj rfl JF rn #[4,pv 13,XW (v:= .ty "str") rfl eY j5 rfl] ⋯ ⋯ (by rfl) (by rfl)) (λ_=>rfl))) (uB (@aX _ _ _ _ _ _ _ _ j9 (pv 13) #[1,adp,#[4,pv 9,pv 10]] (aV _))))) (@aF _ _ _ (@aR _ _ _ _ pW)) eH) (@aF _ _ _ (@eG _ _ _ _ _ _ _ _ (PW.pt (mQ (@qh _ (K) _ _ rfl (pv 11) (λ_=>rfl)) (mh (aX (Wp (K:=K) (by rfl)) (@aD _ _ _ _ _ _ (cB K) bF (jN (K:=K) rfl (ic jR zg Bo Ao (pv 13) (@aa _ _ _ _ _ bY ai rfl))) (@qd _ _ _ _ _ _ pZ aj) (λ_ _=>rfl)) (@fc _ _ _ _ (@aa _ _ _ _ _ bY (@aa _ _ _ _ _ bY ai rfl) rfl)) (by with_unfolding_all rfl))))) (@aF _ _ _ (@aR _ _ _ _ pW)) eH))))) (by intro _;rfl)) (@aF _ _ _ (@aR _ _ _ _ pW))))))),?_⟩;walk_at "st";refine⟨a,ns,rfl,M,hl,λb l H1 s1 Y B1=>?_⟩;have rG:=s1.seq M;have key:∀(t:TS) (D:Ends),(∀H,D.rt (.bl true) H)->Sv (C9 b l H1) [.raw (.ref a), .az, .no, .no, .no, .no, .no, .no, .no, .no, .no, .no, .no, .no] t {nx:=λ_=>False,rt:=λ_ d=>d= .bool true}->t D [some (.ref a),some (.ref b),none,none,none,none,none,none,none,none,none,none,none,none] H1:=λt D d2 h=>h _ _ _ D (adB (m:=12) B1) (ZU d2);refine R.OQ ?_;dsimp only;refine key _ _ (λH=>?_) ?_;· exact q _
  generalize W:(qW (gD (zw _ _ _) _) _:TS)=tl;rfl';refine Ev.mO Ro rfl ?_;rfl';refine⟨rfl,λp cs wd r f uW=>?_⟩;rfl';subst W;refine Sv.seq ?_;refine Sv.rE (λC=>∃(p2:Int) (qg:List ao) (I:Wo) (X U J L y f6 f7:Bool),Eb p2 qg I X/\C=[.raw (.ref a), .az, .d U (bR p wd.length cs), .d J (bI wd), .d L (.bool r), .d y (bR p2 I.length qg), .d f6 (bI I), .d f7 (.bool X), .no, .no, .no, .no, .no, .no]) ?_ ?_
  · by_cases c:(wd.length:Int)<40
    · rfl'
      refine Ev.mO Ro rfl ?_;rfl';refine⟨rfl,λp2 qg I X U ho2=>?_⟩;rfl';exact⟨p2,qg,I,X,_,_,_,_,_,_,ho2,rfl⟩
    · rfl'
      show nN _ _ _ _ [bR p wd.length cs,bI wd, .bool r] _;rfl';exact⟨p,cs,wd,r,_,_,_,_,_,_,uW,rfl⟩
  rintro C ⟨p2,qg,I,X,U,J,L,y,f6,f7,ho2,rfl⟩;rfl';refine Sv.forL (Ev.sl ?_);rfl';obtain⟨k,hk,hk3⟩:∃k:Int,bU [bj 3, .int 1] (if decide (40<=(wd.length:Int))=true then 1 else 0)=some (.int k)/\(k=3\/k=1):=by
    split;· exact⟨1,rfl, .inr rfl⟩
    · exact⟨3,rfl, .inl rfl⟩
  have hsub:∀(A B:PyData) (i:Nat) d,(iy [A,B,A] none (some k))[i]?=some d->d=A\/d=B:=λA B i d e=>by
    have hm:=bP e;rcases hk3 with rfl|rfl
    · have hm:d∈[A,B,A]:=hm
      simp only[aK,cU,or_false] at hm;rcases hm with h|h|h<;>simp[h]
    · have hm:d∈[A]:=hm
      exact .inl (aY.mp hm)
  refine⟨_,hk,k,rfl,_,rfl,λv=>⟨λi ρ=>∃(f8:Bool) (d8:PyData) (G IC IQ J7 Dn:Sl),ρ=[.raw (.ref a), .az, .d U (bR p wd.length cs), .d J (bI wd), .d L (.bool r), .d y (bR p2 I.length qg), .d f6 (bI I), .d f7 (.bool X), .d f8 d8,G,IC,IQ,J7,Dn],⟨_,_,_,_,_,_,_,rfl⟩,?_,?_⟩⟩
  · rintro i d ρ hd ⟨f8,d8,G,IC,IQ,J7,Dn,rfl⟩
    obtain⟨u,iu,gM,CM,⟨⟨g1,g2,N,g,g5,g6⟩,g7,g8⟩,rfl⟩:∃(u:Int) (iu:List ao) (gM:Wo) (CM:Bool),Eb u iu gM CM/\d= .tuple [bR u gM.length iu,bI gM, .bool CM]:=by
      rcases hsub _ _ i d hd with h|h
      · exact⟨p,cs,wd,r,uW,h⟩
      · exact⟨p2,qg,I,X,ho2,h⟩
    clear hsub hd;have q2:=g1.1;have vZ:xU u iu gM:=⟨g1,g2,N,g,λprs h=>by have:=g5 prs h;omega,g6⟩;have hN:=vZ.NH;have n1:=N.2.2.1;have n2:=N.2.2.2.1;have zx:(10:Int)^40<=10^60:=⋯
    have O:sL u gM.length iu:=⟨∅,∅,n2,λprs h=>⟨by have:=g5 prs h;omega,λpr hr=>by
      have:=(N.2.2.2.2 prs h).2.2 pr hr;exact⟨∅,∅⟩⟩⟩
    rfl';refine Ev.cg W7 ?_;rfl';refine⟨rfl,u,gM.length,iu,gM,rfl,O,∅,λn hn=>by have:=g6 n hn;omega,λft=>?_⟩;rfl';refine Ev.cg TX ?_;rfl';refine⟨rfl,u,iu,gM,?_,vZ,O,?_⟩
    · show[_,_]=[_,_]
      rw[show ow=mY from funext λo=>by cases o<;>rfl]
    rfl';refine Ev.cg agu ?_;rfl';refine⟨rfl,u,iu,gM,rfl,hN,g7,∅,n2,g6,?_⟩;rw[LF];refine⟨true, .self rfl,?_⟩;rfl';cases CM with
    | false =>
      rfl';exact⟨_,_,_,_,_,_,_,rfl⟩
    | true =>
      obtain⟨os,u1,u2,u3,u4⟩:=g8 rfl;have hse:=Ii hN u1 u2 u3 u4;have J2:dN gM:=λx hx=>by have:=g6 x hx;unfold Sm;omega
      obtain⟨z,V⟩:=GJ (p:=u) (cs:=iu) (wd:=gM) ∅ hN.rg λi x h=>g6 x (bP h);have YW:(dq (sg 10) (jL u iu gM)).length+2<=sizeLine:=by
        have h4:8000000<=sizeLine:=⋯
        have e1:=QJ (TJ hN J2 ∅);have e2:=MD (p:=u) (cs:=iu) (wd:=bx u iu gM) n2
        have e3:=Pa (wd:=bx u iu gM) ⟨by rw[C5];omega,λn hn=>by
          obtain⟨j,hj⟩:=jS hn;have:=V j n hj;omega⟩
        rw[<-LF];unfold AD;rw[join_le];simp[jO];omega
      obtain⟨Z,S⟩:=xE (x:=dq (sg 10) (jL u iu gM)) (c:=10) YW;have i6:=w4 (c:=10) (A:=jL u iu gM) (by unfold jL;simp) (XG u iu gM);rw[i6] at S;have ahI:bU ((jL u iu gM).map cx) (-1)=some (.str (ag "end " ++j7 u iu (bx u iu gM))):=by
        unfold jL;rw[bh];exact afJ _ _
      generalize hT:(A6 (dP (oS K true) _ _):TT)=T;rfl';subst hT;refine Tv.test (UM (Ev.Lr (aq.ev (aq.split ?_))));refine Ev.var rfl ⟨_,rfl,Ev.str ⟨_,rfl,?_⟩⟩;rw[show(ag "\n")=sg 10 by decide,i6];refine⟨Z,S,_,rfl,?_⟩;rfl';refine⟨_,rfl,?_⟩;refine Ev.lst ?_;rfl';refine⟨[ag "end left",ag "end true"],rfl,?_⟩;rw[decide_eq_true hse];rfl';exact⟨_,_,_,_,_,_,_,rfl⟩
  rintro ρ ⟨f8,d8,G,IC,IQ,J7,Dn,rfl⟩;rfl';exact rfl
end
local macro_rules| `(tactic|walk_at "bn")=> `(tactic|(intro _ _ _ _ _ _ us hl;first|(obtain⟨_,h⟩:=Qp hl;subst h;rfl)|(obtain⟨_,_,h⟩:=ln2 hl;subst h;rfl)|(obtain⟨_,_,_,h⟩:=LV hl;subst h;rfl)|(obtain⟨_,_,_,_,h⟩:=Rj hl;subst h;rfl)|(obtain⟨_,_,_,_,_,h⟩:=XJ hl;subst h;rfl)|(obtain⟨_,_,_,_,_,_,h⟩:=ln6 hl;subst h;rfl)|(obtain⟨_,_,_,_,_,_,_,h⟩:=ln7 hl;subst h;rfl)))
def all_mk:SG:=by
 intro l w K h mg fa f0 f1 f2 f3 f4 f5 f6 f7 f8 f9 RT QA MS KI Q9 P0 MJ TR M4 OX Ma NU N6 Ow L1 Lp Nu LB Og RX Qi KG f32 Q3 TU MU NP KJ R3 Oc Lj Mi Ri Ll Rc ME M1 Q4 PF AR tF tM sI sU X G OR QX Fz OT OW Kg Eh DI Am GD Qs RO SN Q7 L3 MT Mx Jl Pe KP MW P1 O0 La LU Ny ED QN Of Qx Od LY M9 LZ Lc Ia S1 RM NT PN NF Nt Qn Lz JG KQ bE zm ym CL yG zK zT Bf nU kD d0 d1 d2 d3 d4 d5 d6 d7 d8 d9 Cc B5 xx yD BQ BB CO yF Bc zO zl zh w9 Bx Cf zp xw CC Cv AO BX ze AQ AX B9 BH zY zI xD yf AL AF CN xr zG B6 Ax CG xY Bw xH Ae BE CA yk AM wW xN Ai zc Cm xJ uP yq yN yL zq wD As w5 zP wR uH By zk B0 AN Cr xK Bu A7 xg zR BS xo CK Bs AI BN xO Cb xT Cs zf xV AZ Ay;have e:=OR.symm.trans (bD X G Bw);cases e;obtain⟨a0,_,D⟩:=d0;have b0:=D.binds (ps:=["p","a","b"]) (by walk_at "bn");obtain⟨a1,_,f⟩:=d1;have b1:=f.binds (ps:=["p","b"]) (by walk_at "bn");obtain⟨a2,_,F2⟩:=d2;have b2:=F2.binds (ps:=["p","pairs","word"]) (by walk_at "bn");obtain⟨g,_,i⟩:=d3;have b3:=i.binds (ps:=["net"]) (by walk_at "bn");obtain⟨a,_,O⟩:=d4;have b4:=O.binds (ps:=["p","n","pairs"]) (by walk_at "bn");obtain⟨c,_,d⟩:=d5;have b5:=d.binds (ps:=["p","letter"]) (by walk_at "bn");obtain⟨a6,_,H⟩:=d6;have b6:=H.binds (ps:=["net","word"]) (by walk_at "bn");obtain⟨a7,_,F7⟩:=d7;have b7:=F7.binds (ps:=["p","pairs","word"]) (by walk_at "bn");obtain⟨a8,_,F8⟩:=d8;have b8:=F8.binds (ps:=["word"]) (by walk_at "bn");obtain⟨a9,_,F9⟩:=d9;have b9:=F9.binds (ps:=["net","word","c"]) (by walk_at "bn");obtain⟨XC,_,U⟩:=Cc;have b10:=U.binds (ps:=["p","pairs","rest","word"]) (by walk_at "bn");obtain⟨A,_,t⟩:=B5;have b11:=t.binds (ps:=["net","word"]) (by walk_at "bn");obtain⟨a12,_,k⟩:=xx;have UY:=k.binds (ps:=["net"]) (by walk_at "bn");obtain⟨E,_,HM⟩:=yD;have b13:=HM.binds (ps:=["net","word"]) (by walk_at "bn");obtain⟨Zw,_,El⟩:=BQ;have WG:=El.binds (ps:=["first","others"]) (by walk_at "bn");obtain⟨a15,_,B⟩:=BB;have YX:=B.binds (ps:=["word"]) (by walk_at "bn");obtain⟨V4,_,y⟩:=CO;have Xo:=y.binds (ps:=["text"]) (by walk_at "bn");obtain⟨a17,_,S⟩:=yF;have b17:=S.binds (ps:=["row"]) (by walk_at "bn");obtain⟨a18,_,IS⟩:=Bc;have VC:=IS.binds (ps:=["part"]) (by walk_at "bn");obtain⟨a19,_,EN⟩:=zO;have b19:=EN.binds (ps:=["text"]) (by walk_at "bn");obtain⟨T,_,GI⟩:=zl;have WX:=GI.binds (ps:=["row","first"]) (by walk_at "bn");obtain⟨ZV,_,E5⟩:=zh;have b21:=E5.binds (ps:=["row","first"]) (by walk_at "bn");obtain⟨z,_,DR⟩:=w9;have b22:=DR.binds (ps:=["text"]) (by walk_at "bn");obtain⟨a23,_,Iu⟩:=Bx;have b23:=Iu.binds (ps:=["text","most"]) (by walk_at "bn");obtain⟨L,_,m⟩:=Cf;have b24:=m.binds (ps:=["word","rounds"]) (by walk_at "bn");obtain⟨a25,_,Hl⟩:=zp;have b25:=Hl.binds (ps:=["paper"]) (by walk_at "bn");obtain⟨Yt,_,R⟩:=xw;have Vw:=R.binds (ps:=["first","numbers"]) (by walk_at "bn");obtain⟨a27,_,HR⟩:=CC;have b27:=HR.binds (ps:=["net_text","word_text"]) (by walk_at "bn");obtain⟨M,_,o⟩:=Cv;have YZ:=o.binds (ps:=["net","word"]) (by walk_at "bn");obtain⟨Wv,_,Kh⟩:=AO;have b29:=Kh.binds (ps:=["net","word"]) (by walk_at "bn");obtain⟨F,_,J⟩:=BX;have Vl:=J.binds (ps:=["script"]) (by walk_at "bn");obtain⟨a31,_,JX⟩:=ze;have b31:=JX.binds (ps:=["bag","many"]) (by walk_at "bn");obtain⟨b,_,Ef⟩:=AQ;have b32:=Ef.binds (ps:=["bag","many"]) (by walk_at "bn");obtain⟨T3,_,Ib⟩:=AX;have Ux:=Ib.binds (ps:=["number"]) (by walk_at "bn");obtain⟨p,_,EJ⟩:=B9;have UN:=EJ.binds (ps:=["bag"]) (by walk_at "bn");obtain⟨N,_,u⟩:=BH;have b35:=u.binds (ps:=["p","a","b"]) (by walk_at "bn");obtain⟨XR,_,x⟩:=zY;have b36:=x.binds (ps:=["p","pairs","word"]) (by walk_at "bn");obtain⟨Yr,_,Em⟩:=zI;have WQ:=Em.binds (ps:=["bag","p","n"]) (by walk_at "bn");obtain⟨Zy,_,DY⟩:=xD;have Y5:=DY.binds (ps:=["bag","p","word","wide"]) (by walk_at "bn");obtain⟨a39,_,Hv⟩:=yf;have b39:=Hv.binds (ps:=["bag","p","word","many","wide"]) (by walk_at "bn");obtain⟨a40,_,I⟩:=AL;have b40:=I.binds (ps:=["bag","word"]) (by walk_at "bn");obtain⟨Z,_,q⟩:=AF;have X3:=q.binds (ps:=["net","word","c"]) (by walk_at "bn");obtain⟨a42,_,V⟩:=CN;have VY:=V.binds (ps:=["net","word"]) (by walk_at "bn");obtain⟨a43,_,r⟩:=xr;have b43:=r.binds (ps:=["bag","p","n"]) (by walk_at "bn");obtain⟨Uy,_,Y⟩:=zG;have Zr:=Y.binds (ps:=["bag"]) (by walk_at "bn");obtain⟨a45,_,Q⟩:=B6;have US:=Q.binds (ps:=["net","word"]) (by walk_at "bn");obtain⟨a46,_,Ip⟩:=Ax;have b46:=Ip.binds (ps:=["word"]) (by walk_at "bn");obtain⟨a47,_,C⟩:=CG;have YR:=C.binds (ps:=["net","word"]) (by walk_at "bn");obtain⟨Zf,_,n⟩:=xY;have b48:=n.binds (ps:=["net","word"]) (by walk_at "bn");have YE:=sM (st:=nM) xH Ae BE;have RZ:=sM (st:=qU) AM wW xN;have Vq:=RZ.binds (ps:=["self","net","word"]) (by walk_at "bn");have So:=sM (st:=sJ) Cm xJ uP;have WV:=So.binds (ps:=["self"]) (by walk_at "bn");have Mv:=sM (st:=sS) yL zq wD;have Up:=Mv.binds (ps:=["self"]) (by walk_at "bn");have Mn:=sM (st:=rK) zP wR uH;have Uz:=Mn.binds (ps:=["self"]) (by walk_at "bn");have j:gm K bE:=⟨ym,CL,yG,zK⟩;have DU:=jP X G By;have nF:=jP X G zk;have tw:=jP X G B0;have nJ:=jP X G AN;have JF:=jP X G Cr;have bZ:=jP X G xK;have ju:=jP X G Bu;have E7:=jP X G A7;have II:=jP X G xg;have dI:=jP X G zR;have G0:=jP X G BS;have nQ:=jP X G xo;have eY:=jP X G CK;have sX:=jP X G Bs;have Eo:=bD X G BN;have Gh:=bD X G Cb;have GB:=bD X G Cs;have G7:=bD X G xV;have Dg:=bD X G Ay;refine⟨PySem.W.fnOf "law" "law" (lT nM) (k7 nM) (aE nM) .none Kg Eh DI Fz Am GD,λs v=> .of_eq rfl,λbase _ _=>?_⟩;have ae7:=Callee.mk' f (ad2 (P:=l.prog) (w:=w) (base:=base) f) b1 (bD X G a1);have Vd:=Callee.mk' D (afW (P:=l.prog) (w:=w) (base:=base) D ae7) b0 (bD X G a0);have OP:=Callee.mk' F2 (acM (P:=l.prog) (w:=w) (base:=base) F2) b2 (bD X G a2);have Wj:=Callee.mk' O (He (P:=l.prog) (w:=w) (base:=base) O bZ) b4 (bD X G a);have abC:=Callee.mk' i (aaA (P:=l.prog) (w:=w) (base:=base) i Wj nF bZ Eo Gh) b3 (bD X G g);have afE:=Callee.mk' d (abG (P:=l.prog) (w:=w) (base:=base) d) b5 (bD X G c);have ae3:=Callee.mk' F7 (aaY (P:=l.prog) (w:=w) (base:=base) F7 OP) b7 (bD X G a7);have ab2:=Callee.mk' H (VN (P:=l.prog) (w:=w) (base:=base) H ae3) b6 (bD X G a6);have Vu:=Callee.mk' F8 (abg (P:=l.prog) (w:=w) (base:=base) F8 tw) b8 (bD X G a8);have aeA:=Callee.mk' U (V7 (P:=l.prog) (w:=w) (base:=base) U Vd OP bZ) b10 (bD X G XC);have Z2:=Callee.mk' F9 (X9 (P:=l.prog) (w:=w) (base:=base) F9 aeA) b9 (bD X G a9);have ads:=Callee.mk' t (acm (P:=l.prog) (w:=w) (base:=base) t Z2 dI bZ nQ) b11 (bD X G A);have VB:=Callee.mk' k (aaz (P:=l.prog) (w:=w) (base:=base) k ju) UY (bD X G a12);have afx:oQ l.prog w K mg base bE "step" 6 ["self"] (jo 1 (vn bE)):=⟨j,tM,_,agr (P:=l.prog) (w:=w) (base:=base) So j nU kD ads,WV,⟨Ai,zc,uP⟩⟩;have abn:oQ l.prog w K mg base bE "mend" 7 ["self"] (jo 1 (vd bE)):=⟨j,sI,_,Tx (P:=l.prog) (w:=w) (base:=base) Mv afx,Up,⟨yq,yN,wD⟩⟩;have X4:oQ l.prog w K mg base bE "word" 1 ["self"] (jo 1 (u5 bE)):=⟨j,sU,_,VI (P:=l.prog) (w:=w) (base:=base) Mn j kD ju,Uz,⟨As,w5,uH⟩⟩;have acX:G3 l.prog w K mg base bE "Mender" 2 ["self","net","word"] (jo 3 (vv bE)):=⟨tF,_,Xv (P:=l.prog) (w:=w) (base:=base) RZ j nU kD VB ju,Vq,⟨zT,CA,yk,Bf⟩,bD X G zm⟩;have Vy:=Callee.mk' HM (ac5 (P:=l.prog) (w:=w) (base:=base) HM abn X4 acX) b13 (bD X G E);have Rg:=Callee.mk' El (aaH (P:=l.prog) (w:=w) (base:=base) El) WG (bD X G Zw);have aaN:=Callee.mk' B (acH (P:=l.prog) (w:=w) (base:=base) B Rg eY) YX (bD X G a15);have YG:=Callee.mk' Iu (GQ (P:=l.prog) (w:=w) (base:=base) Iu nJ bZ nF G7) b23 (bD X G a23);have CY:=Callee.mk' DR (P7 (P:=l.prog) (w:=w) (base:=base) DR YG GB) b22 (bD X G z);have Hi:=Callee.mk' E5 (ZG (P:=l.prog) (w:=w) (base:=base) E5) b21 (bD X G ZV);have Ua:=Callee.mk' GI (Vz (P:=l.prog) (w:=w) (base:=base) GI CY Hi) WX (bD X G T);have Yy:=Callee.mk' IS (ZO (P:=l.prog) (w:=w) (base:=base) IS CY bZ) VC (bD X G a18);have Xz:=Callee.mk' S (agO (P:=l.prog) (w:=w) (base:=base) S Yy Hi) b17 (bD X G a17);have Z0:=Callee.mk' y (Zk (P:=l.prog) (w:=w) (base:=base) y Ua Xz bZ) Xo (bD X G V4);have ahu:=Callee.mk' EN (Wn (P:=l.prog) (w:=w) (base:=base) EN CY Hi) b19 (bD X G a19);have aez:=Callee.mk' m (Pt (P:=l.prog) (w:=w) (base:=base) m Vu) b24 (bD X G L);have QB:=Callee.mk' R (IA (P:=l.prog) (w:=w) (base:=base) R Rg eY) Vw (bD X G Yt);have VR:=Callee.mk' Hl (Ye (P:=l.prog) (w:=w) (base:=base) Hl QB) b25 (bD X G a25);have agV:=Callee.mk' o (PH (P:=l.prog) (w:=w) (base:=base) o abC afE nF sX bZ Dg) YZ (bD X G M);have aej:=Callee.mk' Kh (adM (P:=l.prog) (w:=w) (base:=base) Kh QB ab2 tw) b29 (bD X G Wv);have WR:=Callee.mk' HR (Xr (P:=l.prog) (w:=w) (base:=base) HR Z0 ahu Vy aez agV aaN VR aej) b27 (bD X G a27);have Wf:=Callee.mk' J (Rb (P:=l.prog) (w:=w) (base:=base) J DU) Vl (bD X G F);have Vk:=Callee.mk' JX (Vm (P:=l.prog) (w:=w) (base:=base) JX dI) b31 (bD X G a31);have qR:=Callee.mk' Ef (Yg (P:=l.prog) (w:=w) (base:=base) Ef Vk bZ) b32 (bD X G b);have aaI:=Callee.mk' Ib (Gf (P:=l.prog) (w:=w) (base:=base) Ib dI) Ux (bD X G T3);have ZK:=Callee.mk' EJ (WS (P:=l.prog) (w:=w) (base:=base) EJ qR aaI) UN (bD X G p);have FG:=Callee.mk' u (Kn (P:=l.prog) (w:=w) (base:=base) u) b35 (bD X G N);have JQ:=Callee.mk' x (ZH (P:=l.prog) (w:=w) (base:=base) x sX) b36 (bD X G XR);have T5:=Callee.mk' Em (T1 (P:=l.prog) (w:=w) (base:=base) Em qR dI nJ II) WQ (bD X G Yr);have YA:=Callee.mk' DY (adf (P:=l.prog) (w:=w) (base:=base) DY JQ qR FG bZ nQ G0 dI) Y5 (bD X G Zy);have aam:=Callee.mk' Hv (I7 (P:=l.prog) (w:=w) (base:=base) Hv YA bZ dI) b39 (bD X G a39);have ac1:=Callee.mk' I (ZM (P:=l.prog) (w:=w) (base:=base) I qR) b40 (bD X G a40);have YH:=Callee.mk' q (O4 (P:=l.prog) (w:=w) (base:=base) q FG JQ bZ) X3 (bD X G Z);have YJ:=Callee.mk' V (aaT (P:=l.prog) (w:=w) (base:=base) V YH ju dI bZ nQ) VY (bD X G a42);have ZY:=Callee.mk' r (aas (P:=l.prog) (w:=w) (base:=base) r qR FG dI) b43 (bD X G a43);have afM:=Callee.mk' Y (YO (P:=l.prog) (w:=w) (base:=base) Y ZK qR T5 aam ZY ac1 E7 ju) Zr (bD X G Uy);have MO:=Callee.mk' Ip (Xu (P:=l.prog) (w:=w) (base:=base) Ip eY) b46 (bD X G a46);have Vo:=Callee.mk' Q (K9 (P:=l.prog) (w:=w) (base:=base) Q MO eY) US (bD X G a45);have Za:=Callee.mk' C (ag3 (P:=l.prog) (w:=w) (base:=base) C JQ dI bZ eY) YR (bD X G a47);have VF:=Callee.mk' n (Yq (P:=l.prog) (w:=w) (base:=base) n YJ MO Za eY dI) b48 (bD X G Zf);exact abp YE Wf afM Vo WR VF nJ JF eY
end K98
end
section
open PySem PySem.W PyProof.Rows
theorem PySem.Challenge.cw_fewchecks_k98_whole_answers_holds : PySem.Challenge.rw_fewchecks_k98_whole_answers.Holds := by
 w_on
 o_law
 k_head
 (case hw=>w_witness2)
 k_fill
 refine K98.walk (l:=PySem.Challenge.rw_fewchecks_k98_whole_answers) rfl rfl (λw h Y=>PySem.W.kIn_of Y) ?F
 case F=>
  intro w mg fa h KX G hmg
  refine' K98.all_mk KX G hmg ..
  any_goals first|(refine' L2.aG.mk ..;any_goals k_is)|k_is
end
